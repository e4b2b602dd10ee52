/- Layer 10: LinkNarrow (gen/gen_laws.py writes this). -/
import Derived.Test.YtkeahbdeddjoeaaNarA
import Derived.Test.YtkeahbdeddjoeaaNarB
namespace Go.Proofs.Ytkeahbdeddjoeaa
open Go.RowKit Go
set_option linter.unusedVariables false
set_option linter.unusedSimpArgs false

set_option maxRecDepth 100000 in
set_option maxHeartbeats 16000000 in
theorem narrow_walk (G : Lnk) (t a b c d l h x y n0 n1 n2 n3 u v : Int) (hs : (Ch.mk t a b c d).Int64) (il : I64 l) (ih : I64 h) (ix : I64 x) (iy : I64 y) (h0 : U16 n0) (h1 : U16 n1) (h2 : U16 n2) (h3 : U16 n3) (hu : U16 u) (hv : U16 v) (w : World) :
    Calls Try.prog 6 #[chV ⟨t, a, b, c, d⟩, rgV l h, rgV x y, .agg #[.int .u16 n0, .int .u16 n1, .int .u16 n2, .int .u16 n3], .int .u16 u, .int .u16 v] w (Gives (.bool true) w) := by
  have HD := Lib.hid (head_true G)
  by_cases q1 : (Ch.mk t a b c d).Form
  case neg =>
    have FO := Lib.hid (rform_any ⟨t, a, b, c, d⟩ false ⟨fun h => (by cases h), fun h => absurd h q1⟩)
    clear q1 G hs il ih ix iy h0 h1 h2 h3 hu hv
    unfold chV at FO
    dsimp only at FO
    unfold chV rgV
    dsimp only
    obtain ⟨W, hW⟩ : ∃ W, ((((w.alloc (.cells #[.int .i64 t, .int .i64 a, .int .i64 b, .int .i64 c, .int .i64 d] 24)).alloc (.cells #[.int .i64 l, .int .i64 h] 26)).alloc (.cells #[.int .i64 x, .int .i64 y] 27)).alloc (.cells #[.int .u16 n0, .int .u16 n1, .int .u16 n2, .int .u16 n3] 45)) = W := ⟨_, rfl⟩
    have C : Hid (Five W (w.heap.size) 24 (.int .i64 t) (.int .i64 a) (.int .i64 b) (.int .i64 c) (.int .i64 d)) := by
      rw [← hW]
      have k := Five.new w 24 (.int .i64 t) (.int .i64 a) (.int .i64 b) (.int .i64 c) (.int .i64 d)
      exact (((k).alloc _).alloc _).alloc _
    have I : Hid (Two W (w.heap.size + 1) 26 (.int .i64 l) (.int .i64 h)) := by
      rw [← hW]
      have k := Two.new (w.alloc (.cells #[.int .i64 t, .int .i64 a, .int .i64 b, .int .i64 c, .int .i64 d] 24)) 26 (.int .i64 l) (.int .i64 h)
      rw [show (w.alloc (.cells #[.int .i64 t, .int .i64 a, .int .i64 b, .int .i64 c, .int .i64 d] 24)).heap.size = w.heap.size + 1 by simp] at k
      exact ((k).alloc _).alloc _
    have R : Hid (Two W (w.heap.size + 1 + 1) 27 (.int .i64 x) (.int .i64 y)) := by
      rw [← hW]
      have k := Two.new ((w.alloc (.cells #[.int .i64 t, .int .i64 a, .int .i64 b, .int .i64 c, .int .i64 d] 24)).alloc (.cells #[.int .i64 l, .int .i64 h] 26)) 27 (.int .i64 x) (.int .i64 y)
      rw [show ((w.alloc (.cells #[.int .i64 t, .int .i64 a, .int .i64 b, .int .i64 c, .int .i64 d] 24)).alloc (.cells #[.int .i64 l, .int .i64 h] 26)).heap.size = w.heap.size + 1 + 1 by simp] at k
      exact (k).alloc _
    have N : Hid (Four W (w.heap.size + 1 + 1 + 1) 45 (.int .u16 n0) (.int .u16 n1) (.int .u16 n2) (.int .u16 n3)) := by
      rw [← hW]
      have k := Four.new (((w.alloc (.cells #[.int .i64 t, .int .i64 a, .int .i64 b, .int .i64 c, .int .i64 d] 24)).alloc (.cells #[.int .i64 l, .int .i64 h] 26)).alloc (.cells #[.int .i64 x, .int .i64 y] 27)) 45 (.int .u16 n0) (.int .u16 n1) (.int .u16 n2) (.int .u16 n3)
      rw [show (((w.alloc (.cells #[.int .i64 t, .int .i64 a, .int .i64 b, .int .i64 c, .int .i64 d] 24)).alloc (.cells #[.int .i64 l, .int .i64 h] 26)).alloc (.cells #[.int .i64 x, .int .i64 y] 27)).heap.size = w.heap.size + 1 + 1 + 1 by simp] at k
      exact k
    have BB : Hid (Below w.heap.size w W) := by rw [← hW]; exact (((below_alloc w _).alloc (by simp) _).alloc (by simp; omega) _).alloc (by simp; omega) _
    have c_0 := C.out.c0
    have c_1 := C.out.c1
    have c_2 := C.out.c2
    have c_3 := C.out.c3
    have c_4 := C.out.c4
    have c_l := C.out.lt
    have i_0 := I.out.c0
    have i_1 := I.out.c1
    have i_l := I.out.lt
    have r_0 := R.out.c0
    have r_1 := R.out.c1
    have r_l := R.out.lt
    have n_0 := N.out.c0
    have n_1 := N.out.c1
    have n_2 := N.out.c2
    have n_3 := N.out.c3
    have n_l := N.out.lt
    go_enter Try.func6, Try.ntmps6
    go_wp2_with (first
      | (go_at_call 9; (with_reducible refine (HD.out _).mono ?_); rintro e w1 ⟨rfl, b1⟩; replace C := Lib.hid (C.out.below b1 C.out.lt); replace I := Lib.hid (I.out.below b1 I.out.lt); replace R := Lib.hid (R.out.below b1 R.out.lt); replace N := Lib.hid (N.out.below b1 N.out.lt); replace BB := Lib.hid (below_more BB.out b1); replace c_0 := C.out.c0; replace c_1 := C.out.c1; replace c_2 := C.out.c2; replace c_3 := C.out.c3; replace c_4 := C.out.c4; replace c_l := C.out.lt; replace i_0 := I.out.c0; replace i_1 := I.out.c1; replace i_l := I.out.lt; replace r_0 := R.out.c0; replace r_1 := R.out.c1; replace r_l := R.out.lt; replace n_0 := N.out.c0; replace n_1 := N.out.c1; replace n_2 := N.out.c2; replace n_3 := N.out.c3; replace n_l := N.out.lt; clear b1 HD)
      | (go_at_call 21; (with_reducible refine (FO.out _).mono ?_); rintro e w2 ⟨rfl, b2⟩; replace C := Lib.hid (C.out.below b2 C.out.lt); replace I := Lib.hid (I.out.below b2 I.out.lt); replace R := Lib.hid (R.out.below b2 R.out.lt); replace N := Lib.hid (N.out.below b2 N.out.lt); replace BB := Lib.hid (below_more BB.out b2); replace c_0 := C.out.c0; replace c_1 := C.out.c1; replace c_2 := C.out.c2; replace c_3 := C.out.c3; replace c_4 := C.out.c4; replace c_l := C.out.lt; replace i_0 := I.out.c0; replace i_1 := I.out.c1; replace i_l := I.out.lt; replace r_0 := R.out.c0; replace r_1 := R.out.c1; replace r_l := R.out.lt; replace n_0 := N.out.c0; replace n_1 := N.out.c1; replace n_2 := N.out.c2; replace n_3 := N.out.c3; replace n_l := N.out.lt; clear b2 FO))
    go_ret
    exact ⟨by simp, BB.out⟩
  have FO := Lib.hid (rform_any ⟨t, a, b, c, d⟩ true ⟨fun _ => q1, fun _ => rfl⟩)
  by_cases q2 : IvOk l h
  case neg =>
    have VI := Lib.hid (rvalid_any l h false ⟨fun h => (by cases h), fun h => absurd h q2⟩)
    clear q1 q2 G hs il ih ix iy h0 h1 h2 h3 hu hv
    unfold chV at FO
    unfold rgV at VI
    dsimp only at FO VI
    unfold chV rgV
    dsimp only
    obtain ⟨W, hW⟩ : ∃ W, ((((w.alloc (.cells #[.int .i64 t, .int .i64 a, .int .i64 b, .int .i64 c, .int .i64 d] 24)).alloc (.cells #[.int .i64 l, .int .i64 h] 26)).alloc (.cells #[.int .i64 x, .int .i64 y] 27)).alloc (.cells #[.int .u16 n0, .int .u16 n1, .int .u16 n2, .int .u16 n3] 45)) = W := ⟨_, rfl⟩
    have C : Hid (Five W (w.heap.size) 24 (.int .i64 t) (.int .i64 a) (.int .i64 b) (.int .i64 c) (.int .i64 d)) := by
      rw [← hW]
      have k := Five.new w 24 (.int .i64 t) (.int .i64 a) (.int .i64 b) (.int .i64 c) (.int .i64 d)
      exact (((k).alloc _).alloc _).alloc _
    have I : Hid (Two W (w.heap.size + 1) 26 (.int .i64 l) (.int .i64 h)) := by
      rw [← hW]
      have k := Two.new (w.alloc (.cells #[.int .i64 t, .int .i64 a, .int .i64 b, .int .i64 c, .int .i64 d] 24)) 26 (.int .i64 l) (.int .i64 h)
      rw [show (w.alloc (.cells #[.int .i64 t, .int .i64 a, .int .i64 b, .int .i64 c, .int .i64 d] 24)).heap.size = w.heap.size + 1 by simp] at k
      exact ((k).alloc _).alloc _
    have R : Hid (Two W (w.heap.size + 1 + 1) 27 (.int .i64 x) (.int .i64 y)) := by
      rw [← hW]
      have k := Two.new ((w.alloc (.cells #[.int .i64 t, .int .i64 a, .int .i64 b, .int .i64 c, .int .i64 d] 24)).alloc (.cells #[.int .i64 l, .int .i64 h] 26)) 27 (.int .i64 x) (.int .i64 y)
      rw [show ((w.alloc (.cells #[.int .i64 t, .int .i64 a, .int .i64 b, .int .i64 c, .int .i64 d] 24)).alloc (.cells #[.int .i64 l, .int .i64 h] 26)).heap.size = w.heap.size + 1 + 1 by simp] at k
      exact (k).alloc _
    have N : Hid (Four W (w.heap.size + 1 + 1 + 1) 45 (.int .u16 n0) (.int .u16 n1) (.int .u16 n2) (.int .u16 n3)) := by
      rw [← hW]
      have k := Four.new (((w.alloc (.cells #[.int .i64 t, .int .i64 a, .int .i64 b, .int .i64 c, .int .i64 d] 24)).alloc (.cells #[.int .i64 l, .int .i64 h] 26)).alloc (.cells #[.int .i64 x, .int .i64 y] 27)) 45 (.int .u16 n0) (.int .u16 n1) (.int .u16 n2) (.int .u16 n3)
      rw [show (((w.alloc (.cells #[.int .i64 t, .int .i64 a, .int .i64 b, .int .i64 c, .int .i64 d] 24)).alloc (.cells #[.int .i64 l, .int .i64 h] 26)).alloc (.cells #[.int .i64 x, .int .i64 y] 27)).heap.size = w.heap.size + 1 + 1 + 1 by simp] at k
      exact k
    have BB : Hid (Below w.heap.size w W) := by rw [← hW]; exact (((below_alloc w _).alloc (by simp) _).alloc (by simp; omega) _).alloc (by simp; omega) _
    have c_0 := C.out.c0
    have c_1 := C.out.c1
    have c_2 := C.out.c2
    have c_3 := C.out.c3
    have c_4 := C.out.c4
    have c_l := C.out.lt
    have i_0 := I.out.c0
    have i_1 := I.out.c1
    have i_l := I.out.lt
    have r_0 := R.out.c0
    have r_1 := R.out.c1
    have r_l := R.out.lt
    have n_0 := N.out.c0
    have n_1 := N.out.c1
    have n_2 := N.out.c2
    have n_3 := N.out.c3
    have n_l := N.out.lt
    go_enter Try.func6, Try.ntmps6
    go_wp2_with (first
      | (go_at_call 9; (with_reducible refine (HD.out _).mono ?_); rintro e w1 ⟨rfl, b1⟩; replace C := Lib.hid (C.out.below b1 C.out.lt); replace I := Lib.hid (I.out.below b1 I.out.lt); replace R := Lib.hid (R.out.below b1 R.out.lt); replace N := Lib.hid (N.out.below b1 N.out.lt); replace BB := Lib.hid (below_more BB.out b1); replace c_0 := C.out.c0; replace c_1 := C.out.c1; replace c_2 := C.out.c2; replace c_3 := C.out.c3; replace c_4 := C.out.c4; replace c_l := C.out.lt; replace i_0 := I.out.c0; replace i_1 := I.out.c1; replace i_l := I.out.lt; replace r_0 := R.out.c0; replace r_1 := R.out.c1; replace r_l := R.out.lt; replace n_0 := N.out.c0; replace n_1 := N.out.c1; replace n_2 := N.out.c2; replace n_3 := N.out.c3; replace n_l := N.out.lt; clear b1 HD)
      | (go_at_call 21; (with_reducible refine (FO.out _).mono ?_); rintro e w2 ⟨rfl, b2⟩; replace C := Lib.hid (C.out.below b2 C.out.lt); replace I := Lib.hid (I.out.below b2 I.out.lt); replace R := Lib.hid (R.out.below b2 R.out.lt); replace N := Lib.hid (N.out.below b2 N.out.lt); replace BB := Lib.hid (below_more BB.out b2); replace c_0 := C.out.c0; replace c_1 := C.out.c1; replace c_2 := C.out.c2; replace c_3 := C.out.c3; replace c_4 := C.out.c4; replace c_l := C.out.lt; replace i_0 := I.out.c0; replace i_1 := I.out.c1; replace i_l := I.out.lt; replace r_0 := R.out.c0; replace r_1 := R.out.c1; replace r_l := R.out.lt; replace n_0 := N.out.c0; replace n_1 := N.out.c1; replace n_2 := N.out.c2; replace n_3 := N.out.c3; replace n_l := N.out.lt; clear b2 FO)
      | (go_at_call 25; (with_reducible refine (VI.out _).mono ?_); rintro e w3 ⟨rfl, b3⟩; replace C := Lib.hid (C.out.below b3 C.out.lt); replace I := Lib.hid (I.out.below b3 I.out.lt); replace R := Lib.hid (R.out.below b3 R.out.lt); replace N := Lib.hid (N.out.below b3 N.out.lt); replace BB := Lib.hid (below_more BB.out b3); replace c_0 := C.out.c0; replace c_1 := C.out.c1; replace c_2 := C.out.c2; replace c_3 := C.out.c3; replace c_4 := C.out.c4; replace c_l := C.out.lt; replace i_0 := I.out.c0; replace i_1 := I.out.c1; replace i_l := I.out.lt; replace r_0 := R.out.c0; replace r_1 := R.out.c1; replace r_l := R.out.lt; replace n_0 := N.out.c0; replace n_1 := N.out.c1; replace n_2 := N.out.c2; replace n_3 := N.out.c3; replace n_l := N.out.lt; clear b3 VI))
    go_ret
    exact ⟨by simp, BB.out⟩
  by_cases hk : (sentR (narrowR ⟨t, a, b, c, d⟩ n0 n1 n2 n3) (min h (l + u)) (max (min h (l + u)) (h - v))).2.2 = 0
  · exact nara G t a b c d l h x y n0 n1 n2 n3 u v hs il ih ix iy h0 h1 h2 h3 hu hv w q1 q2 hk
  · exact narb G t a b c d l h x y n0 n1 n2 n3 u v hs il ih ix iy h0 h1 h2 h3 hu hv w q1 q2 hk
end Go.Proofs.Ytkeahbdeddjoeaa
