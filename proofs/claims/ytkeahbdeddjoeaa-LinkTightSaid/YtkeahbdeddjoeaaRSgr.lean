/- Layer 10: the reference's Sent, Got and Round (gen/gen_ref.py writes this). -/
import Derived.Test.YtkeahbdeddjoeaaNMath
namespace Go.Proofs.Ytkeahbdeddjoeaa
open Go.RowKit Go
set_option linter.unusedVariables false
set_option linter.unusedSimpArgs false

set_option maxRecDepth 100000 in
set_option maxHeartbeats 8000000 in
theorem rsent_any (t a b c d l h : Int) (hs : (Ch.mk t a b c d).Int64) (il : I64 l) (ih : I64 h) (w : World) :
    Calls Try.prog 16 #[chV ⟨t, a, b, c, d⟩, rgV l h] w (Gives (.tuple #[rgV (sentR ⟨t, a, b, c, d⟩ l h).1 (sentR ⟨t, a, b, c, d⟩ l h).2.1, .int .i64 (sentR ⟨t, a, b, c, d⟩ l h).2.2]) w) := by
  have bad : ¬ (Ch.mk t a b c d).Form ∨ ¬ IvOk l h → sentR ⟨t, a, b, c, d⟩ l h = (0, 0, 1) := fun z => if_neg (fun k => by rcases z with z | z; exact z k.1; exact z k.2)
  by_cases q1 : (Ch.mk t a b c d).Form
  case neg =>
    have FO := Lib.hid (rform_any ⟨t, a, b, c, d⟩ false ⟨fun h => (by cases h), fun h => absurd h q1⟩)
    have VI := Lib.hid (rvalid_any l h (decide (IvOk l h)) (by simp))
    rw [bad (.inl q1)]
    generalize decide (IvOk l h) = q2 at VI
    clear q1 bad hs il ih
    unfold chV at FO
    unfold rgV at VI
    dsimp only at FO VI
    unfold chV rgV
    dsimp only
    obtain ⟨W, hW⟩ : ∃ W, (((w.alloc (.cells #[.int .i64 t, .int .i64 a, .int .i64 b, .int .i64 c, .int .i64 d] 24)).alloc (.cells #[.int .i64 l, .int .i64 h] 26)).alloc (.cells #[.int .i64 0, .int .i64 0] 26)) = W := ⟨_, rfl⟩
    have C : Hid (Five W (w.heap.size) 24 (.int .i64 t) (.int .i64 a) (.int .i64 b) (.int .i64 c) (.int .i64 d)) := by
      rw [← hW]
      have k := Five.new w 24 (.int .i64 t) (.int .i64 a) (.int .i64 b) (.int .i64 c) (.int .i64 d)
      exact ((k).alloc _).alloc _
    have I : Hid (Two W (w.heap.size + 1) 26 (.int .i64 l) (.int .i64 h)) := by
      rw [← hW]
      have k := Two.new (w.alloc (.cells #[.int .i64 t, .int .i64 a, .int .i64 b, .int .i64 c, .int .i64 d] 24)) 26 (.int .i64 l) (.int .i64 h)
      rw [show (w.alloc (.cells #[.int .i64 t, .int .i64 a, .int .i64 b, .int .i64 c, .int .i64 d] 24)).heap.size = w.heap.size + 1 by simp] at k
      exact (k).alloc _
    have O : Hid (Two W (w.heap.size + 1 + 1) 26 (.int .i64 0) (.int .i64 0)) := by
      rw [← hW]
      have k := Two.new ((w.alloc (.cells #[.int .i64 t, .int .i64 a, .int .i64 b, .int .i64 c, .int .i64 d] 24)).alloc (.cells #[.int .i64 l, .int .i64 h] 26)) 26 (.int .i64 0) (.int .i64 0)
      rw [show ((w.alloc (.cells #[.int .i64 t, .int .i64 a, .int .i64 b, .int .i64 c, .int .i64 d] 24)).alloc (.cells #[.int .i64 l, .int .i64 h] 26)).heap.size = w.heap.size + 1 + 1 by simp] at k
      exact k
    have BB : Hid (Below w.heap.size w W) := by rw [← hW]; exact ((below_alloc w _).alloc (by simp) _).alloc (by simp; omega) _
    have c_0 := C.out.c0
    have c_1 := C.out.c1
    have c_2 := C.out.c2
    have c_3 := C.out.c3
    have c_4 := C.out.c4
    have c_l := C.out.lt
    have i_0 := I.out.c0
    have i_1 := I.out.c1
    have i_l := I.out.lt
    have o_0 := O.out.c0
    have o_1 := O.out.c1
    have o_l := O.out.lt
    have o_f0 := O.out.free 0
    have o_f1 := O.out.free 1
    go_enter Try.func16, Try.ntmps16
    go_wp2_with (first
      | (go_at_call 21; (with_reducible refine (FO.out _).mono ?_); rintro e w1 ⟨rfl, b1⟩; replace C := Lib.hid (C.out.below b1 C.out.lt); replace I := Lib.hid (I.out.below b1 I.out.lt); replace O := Lib.hid (O.out.below b1 O.out.lt); replace BB := Lib.hid (below_more BB.out b1); replace c_0 := C.out.c0; replace c_1 := C.out.c1; replace c_2 := C.out.c2; replace c_3 := C.out.c3; replace c_4 := C.out.c4; replace c_l := C.out.lt; replace i_0 := I.out.c0; replace i_1 := I.out.c1; replace i_l := I.out.lt; replace o_0 := O.out.c0; replace o_1 := O.out.c1; replace o_l := O.out.lt; replace o_f0 := O.out.free 0; replace o_f1 := O.out.free 1; clear b1 FO)
      | (go_at_call 25; (with_reducible refine (VI.out _).mono ?_); rintro e w2 ⟨rfl, b2⟩; replace C := Lib.hid (C.out.below b2 C.out.lt); replace I := Lib.hid (I.out.below b2 I.out.lt); replace O := Lib.hid (O.out.below b2 O.out.lt); replace BB := Lib.hid (below_more BB.out b2); replace c_0 := C.out.c0; replace c_1 := C.out.c1; replace c_2 := C.out.c2; replace c_3 := C.out.c3; replace c_4 := C.out.c4; replace c_l := C.out.lt; replace i_0 := I.out.c0; replace i_1 := I.out.c1; replace i_l := I.out.lt; replace o_0 := O.out.c0; replace o_1 := O.out.c1; replace o_l := O.out.lt; replace o_f0 := O.out.free 0; replace o_f1 := O.out.free 1; clear b2 VI))
    refine bodyPost_ret (v := .tuple #[.agg #[.int .i64 (0), .int .i64 (0)], .int .i64 1]) (by simp [results, Try.results16, go_sem, o_0, o_1, o_l]) rfl ⟨rfl, ?_⟩
    exact (BB.out.setCell (p := ⟨w.heap.size + 1 + 1, 0, none⟩) (show w.heap.size ≤ w.heap.size + 1 + 1 by omega) _).setCell (p := ⟨w.heap.size + 1 + 1, 1, none⟩) (show w.heap.size ≤ w.heap.size + 1 + 1 by omega) _
  have FO := Lib.hid (rform_any ⟨t, a, b, c, d⟩ true ⟨fun _ => q1, fun _ => rfl⟩)
  by_cases q2 : IvOk l h
  case neg =>
    have VI := Lib.hid (rvalid_any l h false ⟨fun h => (by cases h), fun h => absurd h q2⟩)
    rw [bad (.inr q2)]
    clear q1 q2 bad hs il ih
    unfold chV at FO
    unfold rgV at VI
    dsimp only at FO VI
    unfold chV rgV
    dsimp only
    obtain ⟨W, hW⟩ : ∃ W, (((w.alloc (.cells #[.int .i64 t, .int .i64 a, .int .i64 b, .int .i64 c, .int .i64 d] 24)).alloc (.cells #[.int .i64 l, .int .i64 h] 26)).alloc (.cells #[.int .i64 0, .int .i64 0] 26)) = W := ⟨_, rfl⟩
    have C : Hid (Five W (w.heap.size) 24 (.int .i64 t) (.int .i64 a) (.int .i64 b) (.int .i64 c) (.int .i64 d)) := by
      rw [← hW]
      have k := Five.new w 24 (.int .i64 t) (.int .i64 a) (.int .i64 b) (.int .i64 c) (.int .i64 d)
      exact ((k).alloc _).alloc _
    have I : Hid (Two W (w.heap.size + 1) 26 (.int .i64 l) (.int .i64 h)) := by
      rw [← hW]
      have k := Two.new (w.alloc (.cells #[.int .i64 t, .int .i64 a, .int .i64 b, .int .i64 c, .int .i64 d] 24)) 26 (.int .i64 l) (.int .i64 h)
      rw [show (w.alloc (.cells #[.int .i64 t, .int .i64 a, .int .i64 b, .int .i64 c, .int .i64 d] 24)).heap.size = w.heap.size + 1 by simp] at k
      exact (k).alloc _
    have O : Hid (Two W (w.heap.size + 1 + 1) 26 (.int .i64 0) (.int .i64 0)) := by
      rw [← hW]
      have k := Two.new ((w.alloc (.cells #[.int .i64 t, .int .i64 a, .int .i64 b, .int .i64 c, .int .i64 d] 24)).alloc (.cells #[.int .i64 l, .int .i64 h] 26)) 26 (.int .i64 0) (.int .i64 0)
      rw [show ((w.alloc (.cells #[.int .i64 t, .int .i64 a, .int .i64 b, .int .i64 c, .int .i64 d] 24)).alloc (.cells #[.int .i64 l, .int .i64 h] 26)).heap.size = w.heap.size + 1 + 1 by simp] at k
      exact k
    have BB : Hid (Below w.heap.size w W) := by rw [← hW]; exact ((below_alloc w _).alloc (by simp) _).alloc (by simp; omega) _
    have c_0 := C.out.c0
    have c_1 := C.out.c1
    have c_2 := C.out.c2
    have c_3 := C.out.c3
    have c_4 := C.out.c4
    have c_l := C.out.lt
    have i_0 := I.out.c0
    have i_1 := I.out.c1
    have i_l := I.out.lt
    have o_0 := O.out.c0
    have o_1 := O.out.c1
    have o_l := O.out.lt
    have o_f0 := O.out.free 0
    have o_f1 := O.out.free 1
    go_enter Try.func16, Try.ntmps16
    go_wp2_with (first
      | (go_at_call 21; (with_reducible refine (FO.out _).mono ?_); rintro e w1 ⟨rfl, b1⟩; replace C := Lib.hid (C.out.below b1 C.out.lt); replace I := Lib.hid (I.out.below b1 I.out.lt); replace O := Lib.hid (O.out.below b1 O.out.lt); replace BB := Lib.hid (below_more BB.out b1); replace c_0 := C.out.c0; replace c_1 := C.out.c1; replace c_2 := C.out.c2; replace c_3 := C.out.c3; replace c_4 := C.out.c4; replace c_l := C.out.lt; replace i_0 := I.out.c0; replace i_1 := I.out.c1; replace i_l := I.out.lt; replace o_0 := O.out.c0; replace o_1 := O.out.c1; replace o_l := O.out.lt; replace o_f0 := O.out.free 0; replace o_f1 := O.out.free 1; clear b1 FO)
      | (go_at_call 25; (with_reducible refine (VI.out _).mono ?_); rintro e w2 ⟨rfl, b2⟩; replace C := Lib.hid (C.out.below b2 C.out.lt); replace I := Lib.hid (I.out.below b2 I.out.lt); replace O := Lib.hid (O.out.below b2 O.out.lt); replace BB := Lib.hid (below_more BB.out b2); replace c_0 := C.out.c0; replace c_1 := C.out.c1; replace c_2 := C.out.c2; replace c_3 := C.out.c3; replace c_4 := C.out.c4; replace c_l := C.out.lt; replace i_0 := I.out.c0; replace i_1 := I.out.c1; replace i_l := I.out.lt; replace o_0 := O.out.c0; replace o_1 := O.out.c1; replace o_l := O.out.lt; replace o_f0 := O.out.free 0; replace o_f1 := O.out.free 1; clear b2 VI))
    refine bodyPost_ret (v := .tuple #[.agg #[.int .i64 (0), .int .i64 (0)], .int .i64 1]) (by simp [results, Try.results16, go_sem, o_0, o_1, o_l]) rfl ⟨rfl, ?_⟩
    exact (BB.out.setCell (p := ⟨w.heap.size + 1 + 1, 0, none⟩) (show w.heap.size ≤ w.heap.size + 1 + 1 by omega) _).setCell (p := ⟨w.heap.size + 1 + 1, 1, none⟩) (show w.heap.size ≤ w.heap.size + 1 + 1 by omega) _
  have VI := Lib.hid (rvalid_any l h true ⟨fun _ => q2, fun _ => rfl⟩)
  have Q1 := Lib.hid q1
  have Q2 := Lib.hid q2
  obtain ⟨⟨a1, a2, a3⟩, c1, c2, c3⟩ := q1
  dsimp only at a1 a2 a3 c1 c2 c3
  obtain ⟨i1, i2, i3⟩ := q2
  unfold chV at FO
  unfold rgV at VI
  dsimp only at FO VI
  clear bad
  by_cases g : h - a < 0
  · rw [show sentR ⟨t, a, b, c, d⟩ l h = (0, 0, 22) from (if_pos ⟨Q1.out, Q2.out⟩).trans (if_pos g)]
    have dg : decide (h - a < 0) = true := by simp; omega
    clear g
    clear Q1 Q2 hs il ih
    unfold chV rgV
    dsimp only
    obtain ⟨W, hW⟩ : ∃ W, (((w.alloc (.cells #[.int .i64 t, .int .i64 a, .int .i64 b, .int .i64 c, .int .i64 d] 24)).alloc (.cells #[.int .i64 l, .int .i64 h] 26)).alloc (.cells #[.int .i64 0, .int .i64 0] 26)) = W := ⟨_, rfl⟩
    have C : Hid (Five W (w.heap.size) 24 (.int .i64 t) (.int .i64 a) (.int .i64 b) (.int .i64 c) (.int .i64 d)) := by
      rw [← hW]
      have k := Five.new w 24 (.int .i64 t) (.int .i64 a) (.int .i64 b) (.int .i64 c) (.int .i64 d)
      exact ((k).alloc _).alloc _
    have I : Hid (Two W (w.heap.size + 1) 26 (.int .i64 l) (.int .i64 h)) := by
      rw [← hW]
      have k := Two.new (w.alloc (.cells #[.int .i64 t, .int .i64 a, .int .i64 b, .int .i64 c, .int .i64 d] 24)) 26 (.int .i64 l) (.int .i64 h)
      rw [show (w.alloc (.cells #[.int .i64 t, .int .i64 a, .int .i64 b, .int .i64 c, .int .i64 d] 24)).heap.size = w.heap.size + 1 by simp] at k
      exact (k).alloc _
    have O : Hid (Two W (w.heap.size + 1 + 1) 26 (.int .i64 0) (.int .i64 0)) := by
      rw [← hW]
      have k := Two.new ((w.alloc (.cells #[.int .i64 t, .int .i64 a, .int .i64 b, .int .i64 c, .int .i64 d] 24)).alloc (.cells #[.int .i64 l, .int .i64 h] 26)) 26 (.int .i64 0) (.int .i64 0)
      rw [show ((w.alloc (.cells #[.int .i64 t, .int .i64 a, .int .i64 b, .int .i64 c, .int .i64 d] 24)).alloc (.cells #[.int .i64 l, .int .i64 h] 26)).heap.size = w.heap.size + 1 + 1 by simp] at k
      exact k
    have BB : Hid (Below w.heap.size w W) := by rw [← hW]; exact ((below_alloc w _).alloc (by simp) _).alloc (by simp; omega) _
    have c_0 := C.out.c0
    have c_1 := C.out.c1
    have c_2 := C.out.c2
    have c_3 := C.out.c3
    have c_4 := C.out.c4
    have c_l := C.out.lt
    have i_0 := I.out.c0
    have i_1 := I.out.c1
    have i_l := I.out.lt
    have o_0 := O.out.c0
    have o_1 := O.out.c1
    have o_l := O.out.lt
    have o_f0 := O.out.free 0
    have o_f1 := O.out.free 1
    go_enter Try.func16, Try.ntmps16
    go_wp2_with (first
      | (go_at_call 21; (with_reducible refine (FO.out _).mono ?_); rintro e w1 ⟨rfl, b1⟩; replace C := Lib.hid (C.out.below b1 C.out.lt); replace I := Lib.hid (I.out.below b1 I.out.lt); replace O := Lib.hid (O.out.below b1 O.out.lt); replace BB := Lib.hid (below_more BB.out b1); replace c_0 := C.out.c0; replace c_1 := C.out.c1; replace c_2 := C.out.c2; replace c_3 := C.out.c3; replace c_4 := C.out.c4; replace c_l := C.out.lt; replace i_0 := I.out.c0; replace i_1 := I.out.c1; replace i_l := I.out.lt; replace o_0 := O.out.c0; replace o_1 := O.out.c1; replace o_l := O.out.lt; replace o_f0 := O.out.free 0; replace o_f1 := O.out.free 1; clear b1 FO)
      | (go_at_call 25; (with_reducible refine (VI.out _).mono ?_); rintro e w2 ⟨rfl, b2⟩; replace C := Lib.hid (C.out.below b2 C.out.lt); replace I := Lib.hid (I.out.below b2 I.out.lt); replace O := Lib.hid (O.out.below b2 O.out.lt); replace BB := Lib.hid (below_more BB.out b2); replace c_0 := C.out.c0; replace c_1 := C.out.c1; replace c_2 := C.out.c2; replace c_3 := C.out.c3; replace c_4 := C.out.c4; replace c_l := C.out.lt; replace i_0 := I.out.c0; replace i_1 := I.out.c1; replace i_l := I.out.lt; replace o_0 := O.out.c0; replace o_1 := O.out.c1; replace o_l := O.out.lt; replace o_f0 := O.out.free 0; replace o_f1 := O.out.free 1; clear b2 VI))
    refine bodyPost_ret (v := .tuple #[.agg #[.int .i64 (0), .int .i64 (0)], .int .i64 22]) (by simp [results, Try.results16, go_sem, o_0, o_1, o_l]) rfl ⟨rfl, ?_⟩
    exact (BB.out.setCell (p := ⟨w.heap.size + 1 + 1, 0, none⟩) (show w.heap.size ≤ w.heap.size + 1 + 1 by omega) _).setCell (p := ⟨w.heap.size + 1 + 1, 1, none⟩) (show w.heap.size ≤ w.heap.size + 1 + 1 by omega) _
  · rw [sent_is Q1.out Q2.out (by dsimp only; omega)]
    have dg : decide (h - a < 0) = false := by simp; omega
    clear g
    clear Q1 Q2 hs il ih
    unfold chV rgV
    dsimp only
    obtain ⟨W, hW⟩ : ∃ W, (((w.alloc (.cells #[.int .i64 t, .int .i64 a, .int .i64 b, .int .i64 c, .int .i64 d] 24)).alloc (.cells #[.int .i64 l, .int .i64 h] 26)).alloc (.cells #[.int .i64 0, .int .i64 0] 26)) = W := ⟨_, rfl⟩
    have C : Hid (Five W (w.heap.size) 24 (.int .i64 t) (.int .i64 a) (.int .i64 b) (.int .i64 c) (.int .i64 d)) := by
      rw [← hW]
      have k := Five.new w 24 (.int .i64 t) (.int .i64 a) (.int .i64 b) (.int .i64 c) (.int .i64 d)
      exact ((k).alloc _).alloc _
    have I : Hid (Two W (w.heap.size + 1) 26 (.int .i64 l) (.int .i64 h)) := by
      rw [← hW]
      have k := Two.new (w.alloc (.cells #[.int .i64 t, .int .i64 a, .int .i64 b, .int .i64 c, .int .i64 d] 24)) 26 (.int .i64 l) (.int .i64 h)
      rw [show (w.alloc (.cells #[.int .i64 t, .int .i64 a, .int .i64 b, .int .i64 c, .int .i64 d] 24)).heap.size = w.heap.size + 1 by simp] at k
      exact (k).alloc _
    have O : Hid (Two W (w.heap.size + 1 + 1) 26 (.int .i64 0) (.int .i64 0)) := by
      rw [← hW]
      have k := Two.new ((w.alloc (.cells #[.int .i64 t, .int .i64 a, .int .i64 b, .int .i64 c, .int .i64 d] 24)).alloc (.cells #[.int .i64 l, .int .i64 h] 26)) 26 (.int .i64 0) (.int .i64 0)
      rw [show ((w.alloc (.cells #[.int .i64 t, .int .i64 a, .int .i64 b, .int .i64 c, .int .i64 d] 24)).alloc (.cells #[.int .i64 l, .int .i64 h] 26)).heap.size = w.heap.size + 1 + 1 by simp] at k
      exact k
    have BB : Hid (Below w.heap.size w W) := by rw [← hW]; exact ((below_alloc w _).alloc (by simp) _).alloc (by simp; omega) _
    have c_0 := C.out.c0
    have c_1 := C.out.c1
    have c_2 := C.out.c2
    have c_3 := C.out.c3
    have c_4 := C.out.c4
    have c_l := C.out.lt
    have i_0 := I.out.c0
    have i_1 := I.out.c1
    have i_l := I.out.lt
    have o_0 := O.out.c0
    have o_1 := O.out.c1
    have o_l := O.out.lt
    have o_f0 := O.out.free 0
    have o_f1 := O.out.free 1
    go_enter Try.func16, Try.ntmps16
    go_wp2_with (first
      | (go_at_call 21; (with_reducible refine (FO.out _).mono ?_); rintro e w1 ⟨rfl, b1⟩; replace C := Lib.hid (C.out.below b1 C.out.lt); replace I := Lib.hid (I.out.below b1 I.out.lt); replace O := Lib.hid (O.out.below b1 O.out.lt); replace BB := Lib.hid (below_more BB.out b1); replace c_0 := C.out.c0; replace c_1 := C.out.c1; replace c_2 := C.out.c2; replace c_3 := C.out.c3; replace c_4 := C.out.c4; replace c_l := C.out.lt; replace i_0 := I.out.c0; replace i_1 := I.out.c1; replace i_l := I.out.lt; replace o_0 := O.out.c0; replace o_1 := O.out.c1; replace o_l := O.out.lt; replace o_f0 := O.out.free 0; replace o_f1 := O.out.free 1; clear b1 FO)
      | (go_at_call 25; (with_reducible refine (VI.out _).mono ?_); rintro e w2 ⟨rfl, b2⟩; replace C := Lib.hid (C.out.below b2 C.out.lt); replace I := Lib.hid (I.out.below b2 I.out.lt); replace O := Lib.hid (O.out.below b2 O.out.lt); replace BB := Lib.hid (below_more BB.out b2); replace c_0 := C.out.c0; replace c_1 := C.out.c1; replace c_2 := C.out.c2; replace c_3 := C.out.c3; replace c_4 := C.out.c4; replace c_l := C.out.lt; replace i_0 := I.out.c0; replace i_1 := I.out.c1; replace i_l := I.out.lt; replace o_0 := O.out.c0; replace o_1 := O.out.c1; replace o_l := O.out.lt; replace o_f0 := O.out.free 0; replace o_f1 := O.out.free 1; clear b2 VI))
    refine bodyPost_ret (v := .tuple #[.agg #[.int .i64 (max 0 (l - b)), .int .i64 (h - a)], .int .i64 0]) (by simp [results, Try.results16, go_sem, o_0, o_1, o_l]) rfl ⟨rfl, ?_⟩
    exact (BB.out.setCell (p := ⟨w.heap.size + 1 + 1, 0, none⟩) (show w.heap.size ≤ w.heap.size + 1 + 1 by omega) _).setCell (p := ⟨w.heap.size + 1 + 1, 1, none⟩) (show w.heap.size ≤ w.heap.size + 1 + 1 by omega) _

set_option maxRecDepth 100000 in
set_option maxHeartbeats 8000000 in
theorem rgot_any (t a b c d l h : Int) (hs : (Ch.mk t a b c d).Int64) (il : I64 l) (ih : I64 h) (w : World) :
    Calls Try.prog 18 #[chV ⟨t, a, b, c, d⟩, rgV l h] w (Gives (.tuple #[rgV (gotR ⟨t, a, b, c, d⟩ l h).1 (gotR ⟨t, a, b, c, d⟩ l h).2.1, .int .i64 (gotR ⟨t, a, b, c, d⟩ l h).2.2]) w) := by
  have bad : ¬ (Ch.mk t a b c d).Form ∨ ¬ IvOk l h → gotR ⟨t, a, b, c, d⟩ l h = (0, 0, 1) := fun z => if_neg (fun k => by rcases z with z | z; exact z k.1; exact z k.2)
  by_cases q1 : (Ch.mk t a b c d).Form
  case neg =>
    have FO := Lib.hid (rform_any ⟨t, a, b, c, d⟩ false ⟨fun h => (by cases h), fun h => absurd h q1⟩)
    have VI := Lib.hid (rvalid_any l h (decide (IvOk l h)) (by simp))
    rw [bad (.inl q1)]
    generalize decide (IvOk l h) = q2 at VI
    clear q1 bad hs il ih
    unfold chV at FO
    unfold rgV at VI
    dsimp only at FO VI
    unfold chV rgV
    dsimp only
    obtain ⟨W, hW⟩ : ∃ W, (((w.alloc (.cells #[.int .i64 t, .int .i64 a, .int .i64 b, .int .i64 c, .int .i64 d] 24)).alloc (.cells #[.int .i64 l, .int .i64 h] 26)).alloc (.cells #[.int .i64 0, .int .i64 0] 26)) = W := ⟨_, rfl⟩
    have C : Hid (Five W (w.heap.size) 24 (.int .i64 t) (.int .i64 a) (.int .i64 b) (.int .i64 c) (.int .i64 d)) := by
      rw [← hW]
      have k := Five.new w 24 (.int .i64 t) (.int .i64 a) (.int .i64 b) (.int .i64 c) (.int .i64 d)
      exact ((k).alloc _).alloc _
    have I : Hid (Two W (w.heap.size + 1) 26 (.int .i64 l) (.int .i64 h)) := by
      rw [← hW]
      have k := Two.new (w.alloc (.cells #[.int .i64 t, .int .i64 a, .int .i64 b, .int .i64 c, .int .i64 d] 24)) 26 (.int .i64 l) (.int .i64 h)
      rw [show (w.alloc (.cells #[.int .i64 t, .int .i64 a, .int .i64 b, .int .i64 c, .int .i64 d] 24)).heap.size = w.heap.size + 1 by simp] at k
      exact (k).alloc _
    have O : Hid (Two W (w.heap.size + 1 + 1) 26 (.int .i64 0) (.int .i64 0)) := by
      rw [← hW]
      have k := Two.new ((w.alloc (.cells #[.int .i64 t, .int .i64 a, .int .i64 b, .int .i64 c, .int .i64 d] 24)).alloc (.cells #[.int .i64 l, .int .i64 h] 26)) 26 (.int .i64 0) (.int .i64 0)
      rw [show ((w.alloc (.cells #[.int .i64 t, .int .i64 a, .int .i64 b, .int .i64 c, .int .i64 d] 24)).alloc (.cells #[.int .i64 l, .int .i64 h] 26)).heap.size = w.heap.size + 1 + 1 by simp] at k
      exact k
    have BB : Hid (Below w.heap.size w W) := by rw [← hW]; exact ((below_alloc w _).alloc (by simp) _).alloc (by simp; omega) _
    have c_0 := C.out.c0
    have c_1 := C.out.c1
    have c_2 := C.out.c2
    have c_3 := C.out.c3
    have c_4 := C.out.c4
    have c_l := C.out.lt
    have i_0 := I.out.c0
    have i_1 := I.out.c1
    have i_l := I.out.lt
    have o_0 := O.out.c0
    have o_1 := O.out.c1
    have o_l := O.out.lt
    have o_f0 := O.out.free 0
    have o_f1 := O.out.free 1
    go_enter Try.func18, Try.ntmps18
    go_wp2_with (first
      | (go_at_call 21; (with_reducible refine (FO.out _).mono ?_); rintro e w1 ⟨rfl, b1⟩; replace C := Lib.hid (C.out.below b1 C.out.lt); replace I := Lib.hid (I.out.below b1 I.out.lt); replace O := Lib.hid (O.out.below b1 O.out.lt); replace BB := Lib.hid (below_more BB.out b1); replace c_0 := C.out.c0; replace c_1 := C.out.c1; replace c_2 := C.out.c2; replace c_3 := C.out.c3; replace c_4 := C.out.c4; replace c_l := C.out.lt; replace i_0 := I.out.c0; replace i_1 := I.out.c1; replace i_l := I.out.lt; replace o_0 := O.out.c0; replace o_1 := O.out.c1; replace o_l := O.out.lt; replace o_f0 := O.out.free 0; replace o_f1 := O.out.free 1; clear b1 FO)
      | (go_at_call 25; (with_reducible refine (VI.out _).mono ?_); rintro e w2 ⟨rfl, b2⟩; replace C := Lib.hid (C.out.below b2 C.out.lt); replace I := Lib.hid (I.out.below b2 I.out.lt); replace O := Lib.hid (O.out.below b2 O.out.lt); replace BB := Lib.hid (below_more BB.out b2); replace c_0 := C.out.c0; replace c_1 := C.out.c1; replace c_2 := C.out.c2; replace c_3 := C.out.c3; replace c_4 := C.out.c4; replace c_l := C.out.lt; replace i_0 := I.out.c0; replace i_1 := I.out.c1; replace i_l := I.out.lt; replace o_0 := O.out.c0; replace o_1 := O.out.c1; replace o_l := O.out.lt; replace o_f0 := O.out.free 0; replace o_f1 := O.out.free 1; clear b2 VI))
    refine bodyPost_ret (v := .tuple #[.agg #[.int .i64 (0), .int .i64 (0)], .int .i64 1]) (by simp [results, Try.results18, go_sem, o_0, o_1, o_l]) rfl ⟨rfl, ?_⟩
    exact (BB.out.setCell (p := ⟨w.heap.size + 1 + 1, 0, none⟩) (show w.heap.size ≤ w.heap.size + 1 + 1 by omega) _).setCell (p := ⟨w.heap.size + 1 + 1, 1, none⟩) (show w.heap.size ≤ w.heap.size + 1 + 1 by omega) _
  have FO := Lib.hid (rform_any ⟨t, a, b, c, d⟩ true ⟨fun _ => q1, fun _ => rfl⟩)
  by_cases q2 : IvOk l h
  case neg =>
    have VI := Lib.hid (rvalid_any l h false ⟨fun h => (by cases h), fun h => absurd h q2⟩)
    rw [bad (.inr q2)]
    clear q1 q2 bad hs il ih
    unfold chV at FO
    unfold rgV at VI
    dsimp only at FO VI
    unfold chV rgV
    dsimp only
    obtain ⟨W, hW⟩ : ∃ W, (((w.alloc (.cells #[.int .i64 t, .int .i64 a, .int .i64 b, .int .i64 c, .int .i64 d] 24)).alloc (.cells #[.int .i64 l, .int .i64 h] 26)).alloc (.cells #[.int .i64 0, .int .i64 0] 26)) = W := ⟨_, rfl⟩
    have C : Hid (Five W (w.heap.size) 24 (.int .i64 t) (.int .i64 a) (.int .i64 b) (.int .i64 c) (.int .i64 d)) := by
      rw [← hW]
      have k := Five.new w 24 (.int .i64 t) (.int .i64 a) (.int .i64 b) (.int .i64 c) (.int .i64 d)
      exact ((k).alloc _).alloc _
    have I : Hid (Two W (w.heap.size + 1) 26 (.int .i64 l) (.int .i64 h)) := by
      rw [← hW]
      have k := Two.new (w.alloc (.cells #[.int .i64 t, .int .i64 a, .int .i64 b, .int .i64 c, .int .i64 d] 24)) 26 (.int .i64 l) (.int .i64 h)
      rw [show (w.alloc (.cells #[.int .i64 t, .int .i64 a, .int .i64 b, .int .i64 c, .int .i64 d] 24)).heap.size = w.heap.size + 1 by simp] at k
      exact (k).alloc _
    have O : Hid (Two W (w.heap.size + 1 + 1) 26 (.int .i64 0) (.int .i64 0)) := by
      rw [← hW]
      have k := Two.new ((w.alloc (.cells #[.int .i64 t, .int .i64 a, .int .i64 b, .int .i64 c, .int .i64 d] 24)).alloc (.cells #[.int .i64 l, .int .i64 h] 26)) 26 (.int .i64 0) (.int .i64 0)
      rw [show ((w.alloc (.cells #[.int .i64 t, .int .i64 a, .int .i64 b, .int .i64 c, .int .i64 d] 24)).alloc (.cells #[.int .i64 l, .int .i64 h] 26)).heap.size = w.heap.size + 1 + 1 by simp] at k
      exact k
    have BB : Hid (Below w.heap.size w W) := by rw [← hW]; exact ((below_alloc w _).alloc (by simp) _).alloc (by simp; omega) _
    have c_0 := C.out.c0
    have c_1 := C.out.c1
    have c_2 := C.out.c2
    have c_3 := C.out.c3
    have c_4 := C.out.c4
    have c_l := C.out.lt
    have i_0 := I.out.c0
    have i_1 := I.out.c1
    have i_l := I.out.lt
    have o_0 := O.out.c0
    have o_1 := O.out.c1
    have o_l := O.out.lt
    have o_f0 := O.out.free 0
    have o_f1 := O.out.free 1
    go_enter Try.func18, Try.ntmps18
    go_wp2_with (first
      | (go_at_call 21; (with_reducible refine (FO.out _).mono ?_); rintro e w1 ⟨rfl, b1⟩; replace C := Lib.hid (C.out.below b1 C.out.lt); replace I := Lib.hid (I.out.below b1 I.out.lt); replace O := Lib.hid (O.out.below b1 O.out.lt); replace BB := Lib.hid (below_more BB.out b1); replace c_0 := C.out.c0; replace c_1 := C.out.c1; replace c_2 := C.out.c2; replace c_3 := C.out.c3; replace c_4 := C.out.c4; replace c_l := C.out.lt; replace i_0 := I.out.c0; replace i_1 := I.out.c1; replace i_l := I.out.lt; replace o_0 := O.out.c0; replace o_1 := O.out.c1; replace o_l := O.out.lt; replace o_f0 := O.out.free 0; replace o_f1 := O.out.free 1; clear b1 FO)
      | (go_at_call 25; (with_reducible refine (VI.out _).mono ?_); rintro e w2 ⟨rfl, b2⟩; replace C := Lib.hid (C.out.below b2 C.out.lt); replace I := Lib.hid (I.out.below b2 I.out.lt); replace O := Lib.hid (O.out.below b2 O.out.lt); replace BB := Lib.hid (below_more BB.out b2); replace c_0 := C.out.c0; replace c_1 := C.out.c1; replace c_2 := C.out.c2; replace c_3 := C.out.c3; replace c_4 := C.out.c4; replace c_l := C.out.lt; replace i_0 := I.out.c0; replace i_1 := I.out.c1; replace i_l := I.out.lt; replace o_0 := O.out.c0; replace o_1 := O.out.c1; replace o_l := O.out.lt; replace o_f0 := O.out.free 0; replace o_f1 := O.out.free 1; clear b2 VI))
    refine bodyPost_ret (v := .tuple #[.agg #[.int .i64 (0), .int .i64 (0)], .int .i64 1]) (by simp [results, Try.results18, go_sem, o_0, o_1, o_l]) rfl ⟨rfl, ?_⟩
    exact (BB.out.setCell (p := ⟨w.heap.size + 1 + 1, 0, none⟩) (show w.heap.size ≤ w.heap.size + 1 + 1 by omega) _).setCell (p := ⟨w.heap.size + 1 + 1, 1, none⟩) (show w.heap.size ≤ w.heap.size + 1 + 1 by omega) _
  have VI := Lib.hid (rvalid_any l h true ⟨fun _ => q2, fun _ => rfl⟩)
  have Q1 := Lib.hid q1
  have Q2 := Lib.hid q2
  obtain ⟨⟨a1, a2, a3⟩, c1, c2, c3⟩ := q1
  dsimp only at a1 a2 a3 c1 c2 c3
  obtain ⟨i1, i2, i3⟩ := q2
  unfold chV at FO
  unfold rgV at VI
  dsimp only at FO VI
  clear bad
  by_cases g : 3000000000000000 < h + d
  · rw [got_err Q1.out Q2.out g]
    have dg : decide (3000000000000000 < h + d) = true := by simp; omega
    clear g
    clear Q1 Q2 hs il ih
    unfold chV rgV
    dsimp only
    obtain ⟨W, hW⟩ : ∃ W, (((w.alloc (.cells #[.int .i64 t, .int .i64 a, .int .i64 b, .int .i64 c, .int .i64 d] 24)).alloc (.cells #[.int .i64 l, .int .i64 h] 26)).alloc (.cells #[.int .i64 0, .int .i64 0] 26)) = W := ⟨_, rfl⟩
    have C : Hid (Five W (w.heap.size) 24 (.int .i64 t) (.int .i64 a) (.int .i64 b) (.int .i64 c) (.int .i64 d)) := by
      rw [← hW]
      have k := Five.new w 24 (.int .i64 t) (.int .i64 a) (.int .i64 b) (.int .i64 c) (.int .i64 d)
      exact ((k).alloc _).alloc _
    have I : Hid (Two W (w.heap.size + 1) 26 (.int .i64 l) (.int .i64 h)) := by
      rw [← hW]
      have k := Two.new (w.alloc (.cells #[.int .i64 t, .int .i64 a, .int .i64 b, .int .i64 c, .int .i64 d] 24)) 26 (.int .i64 l) (.int .i64 h)
      rw [show (w.alloc (.cells #[.int .i64 t, .int .i64 a, .int .i64 b, .int .i64 c, .int .i64 d] 24)).heap.size = w.heap.size + 1 by simp] at k
      exact (k).alloc _
    have O : Hid (Two W (w.heap.size + 1 + 1) 26 (.int .i64 0) (.int .i64 0)) := by
      rw [← hW]
      have k := Two.new ((w.alloc (.cells #[.int .i64 t, .int .i64 a, .int .i64 b, .int .i64 c, .int .i64 d] 24)).alloc (.cells #[.int .i64 l, .int .i64 h] 26)) 26 (.int .i64 0) (.int .i64 0)
      rw [show ((w.alloc (.cells #[.int .i64 t, .int .i64 a, .int .i64 b, .int .i64 c, .int .i64 d] 24)).alloc (.cells #[.int .i64 l, .int .i64 h] 26)).heap.size = w.heap.size + 1 + 1 by simp] at k
      exact k
    have BB : Hid (Below w.heap.size w W) := by rw [← hW]; exact ((below_alloc w _).alloc (by simp) _).alloc (by simp; omega) _
    have c_0 := C.out.c0
    have c_1 := C.out.c1
    have c_2 := C.out.c2
    have c_3 := C.out.c3
    have c_4 := C.out.c4
    have c_l := C.out.lt
    have i_0 := I.out.c0
    have i_1 := I.out.c1
    have i_l := I.out.lt
    have o_0 := O.out.c0
    have o_1 := O.out.c1
    have o_l := O.out.lt
    have o_f0 := O.out.free 0
    have o_f1 := O.out.free 1
    go_enter Try.func18, Try.ntmps18
    go_wp2_with (first
      | (go_at_call 21; (with_reducible refine (FO.out _).mono ?_); rintro e w1 ⟨rfl, b1⟩; replace C := Lib.hid (C.out.below b1 C.out.lt); replace I := Lib.hid (I.out.below b1 I.out.lt); replace O := Lib.hid (O.out.below b1 O.out.lt); replace BB := Lib.hid (below_more BB.out b1); replace c_0 := C.out.c0; replace c_1 := C.out.c1; replace c_2 := C.out.c2; replace c_3 := C.out.c3; replace c_4 := C.out.c4; replace c_l := C.out.lt; replace i_0 := I.out.c0; replace i_1 := I.out.c1; replace i_l := I.out.lt; replace o_0 := O.out.c0; replace o_1 := O.out.c1; replace o_l := O.out.lt; replace o_f0 := O.out.free 0; replace o_f1 := O.out.free 1; clear b1 FO)
      | (go_at_call 25; (with_reducible refine (VI.out _).mono ?_); rintro e w2 ⟨rfl, b2⟩; replace C := Lib.hid (C.out.below b2 C.out.lt); replace I := Lib.hid (I.out.below b2 I.out.lt); replace O := Lib.hid (O.out.below b2 O.out.lt); replace BB := Lib.hid (below_more BB.out b2); replace c_0 := C.out.c0; replace c_1 := C.out.c1; replace c_2 := C.out.c2; replace c_3 := C.out.c3; replace c_4 := C.out.c4; replace c_l := C.out.lt; replace i_0 := I.out.c0; replace i_1 := I.out.c1; replace i_l := I.out.lt; replace o_0 := O.out.c0; replace o_1 := O.out.c1; replace o_l := O.out.lt; replace o_f0 := O.out.free 0; replace o_f1 := O.out.free 1; clear b2 VI))
    refine bodyPost_ret (v := .tuple #[.agg #[.int .i64 (0), .int .i64 (0)], .int .i64 3]) (by simp [results, Try.results18, go_sem, o_0, o_1, o_l]) rfl ⟨rfl, ?_⟩
    exact (BB.out.setCell (p := ⟨w.heap.size + 1 + 1, 0, none⟩) (show w.heap.size ≤ w.heap.size + 1 + 1 by omega) _).setCell (p := ⟨w.heap.size + 1 + 1, 1, none⟩) (show w.heap.size ≤ w.heap.size + 1 + 1 by omega) _
  · rw [got_is Q1.out Q2.out (by dsimp only; omega)]
    have dg : decide (3000000000000000 < h + d) = false := by simp; omega
    clear g
    clear Q1 Q2 hs il ih
    unfold chV rgV
    dsimp only
    obtain ⟨W, hW⟩ : ∃ W, (((w.alloc (.cells #[.int .i64 t, .int .i64 a, .int .i64 b, .int .i64 c, .int .i64 d] 24)).alloc (.cells #[.int .i64 l, .int .i64 h] 26)).alloc (.cells #[.int .i64 0, .int .i64 0] 26)) = W := ⟨_, rfl⟩
    have C : Hid (Five W (w.heap.size) 24 (.int .i64 t) (.int .i64 a) (.int .i64 b) (.int .i64 c) (.int .i64 d)) := by
      rw [← hW]
      have k := Five.new w 24 (.int .i64 t) (.int .i64 a) (.int .i64 b) (.int .i64 c) (.int .i64 d)
      exact ((k).alloc _).alloc _
    have I : Hid (Two W (w.heap.size + 1) 26 (.int .i64 l) (.int .i64 h)) := by
      rw [← hW]
      have k := Two.new (w.alloc (.cells #[.int .i64 t, .int .i64 a, .int .i64 b, .int .i64 c, .int .i64 d] 24)) 26 (.int .i64 l) (.int .i64 h)
      rw [show (w.alloc (.cells #[.int .i64 t, .int .i64 a, .int .i64 b, .int .i64 c, .int .i64 d] 24)).heap.size = w.heap.size + 1 by simp] at k
      exact (k).alloc _
    have O : Hid (Two W (w.heap.size + 1 + 1) 26 (.int .i64 0) (.int .i64 0)) := by
      rw [← hW]
      have k := Two.new ((w.alloc (.cells #[.int .i64 t, .int .i64 a, .int .i64 b, .int .i64 c, .int .i64 d] 24)).alloc (.cells #[.int .i64 l, .int .i64 h] 26)) 26 (.int .i64 0) (.int .i64 0)
      rw [show ((w.alloc (.cells #[.int .i64 t, .int .i64 a, .int .i64 b, .int .i64 c, .int .i64 d] 24)).alloc (.cells #[.int .i64 l, .int .i64 h] 26)).heap.size = w.heap.size + 1 + 1 by simp] at k
      exact k
    have BB : Hid (Below w.heap.size w W) := by rw [← hW]; exact ((below_alloc w _).alloc (by simp) _).alloc (by simp; omega) _
    have c_0 := C.out.c0
    have c_1 := C.out.c1
    have c_2 := C.out.c2
    have c_3 := C.out.c3
    have c_4 := C.out.c4
    have c_l := C.out.lt
    have i_0 := I.out.c0
    have i_1 := I.out.c1
    have i_l := I.out.lt
    have o_0 := O.out.c0
    have o_1 := O.out.c1
    have o_l := O.out.lt
    have o_f0 := O.out.free 0
    have o_f1 := O.out.free 1
    go_enter Try.func18, Try.ntmps18
    go_wp2_with (first
      | (go_at_call 21; (with_reducible refine (FO.out _).mono ?_); rintro e w1 ⟨rfl, b1⟩; replace C := Lib.hid (C.out.below b1 C.out.lt); replace I := Lib.hid (I.out.below b1 I.out.lt); replace O := Lib.hid (O.out.below b1 O.out.lt); replace BB := Lib.hid (below_more BB.out b1); replace c_0 := C.out.c0; replace c_1 := C.out.c1; replace c_2 := C.out.c2; replace c_3 := C.out.c3; replace c_4 := C.out.c4; replace c_l := C.out.lt; replace i_0 := I.out.c0; replace i_1 := I.out.c1; replace i_l := I.out.lt; replace o_0 := O.out.c0; replace o_1 := O.out.c1; replace o_l := O.out.lt; replace o_f0 := O.out.free 0; replace o_f1 := O.out.free 1; clear b1 FO)
      | (go_at_call 25; (with_reducible refine (VI.out _).mono ?_); rintro e w2 ⟨rfl, b2⟩; replace C := Lib.hid (C.out.below b2 C.out.lt); replace I := Lib.hid (I.out.below b2 I.out.lt); replace O := Lib.hid (O.out.below b2 O.out.lt); replace BB := Lib.hid (below_more BB.out b2); replace c_0 := C.out.c0; replace c_1 := C.out.c1; replace c_2 := C.out.c2; replace c_3 := C.out.c3; replace c_4 := C.out.c4; replace c_l := C.out.lt; replace i_0 := I.out.c0; replace i_1 := I.out.c1; replace i_l := I.out.lt; replace o_0 := O.out.c0; replace o_1 := O.out.c1; replace o_l := O.out.lt; replace o_f0 := O.out.free 0; replace o_f1 := O.out.free 1; clear b2 VI))
    refine bodyPost_ret (v := .tuple #[.agg #[.int .i64 (l + c), .int .i64 (h + d)], .int .i64 0]) (by simp [results, Try.results18, go_sem, o_0, o_1, o_l]) rfl ⟨rfl, ?_⟩
    exact (BB.out.setCell (p := ⟨w.heap.size + 1 + 1, 0, none⟩) (show w.heap.size ≤ w.heap.size + 1 + 1 by omega) _).setCell (p := ⟨w.heap.size + 1 + 1, 1, none⟩) (show w.heap.size ≤ w.heap.size + 1 + 1 by omega) _

set_option maxRecDepth 100000 in
set_option maxHeartbeats 8000000 in
theorem rround_any (t a b c d l h x y : Int) (hs : (Ch.mk t a b c d).Int64) (il : I64 l) (ih : I64 h) (w : World) :
    Calls Try.prog 20 #[chV ⟨t, a, b, c, d⟩, rgV l h, rgV x y] w (Gives (.tuple #[rgV (roundR ⟨t, a, b, c, d⟩ l h x y).1 (roundR ⟨t, a, b, c, d⟩ l h x y).2.1, .int .i64 (roundR ⟨t, a, b, c, d⟩ l h x y).2.2]) w) := by
  have bad : ¬ (Ch.mk t a b c d).Form ∨ ¬ IvOk l h → roundR ⟨t, a, b, c, d⟩ l h x y = (0, 0, 1) := fun z => if_neg (fun k => by rcases z with z | z; exact z k.1; exact z k.2.1)
  by_cases q1 : (Ch.mk t a b c d).Form
  case neg =>
    have FO := Lib.hid (rform_any ⟨t, a, b, c, d⟩ false ⟨fun h => (by cases h), fun h => absurd h q1⟩)
    have VI := Lib.hid (rvalid_any l h (decide (IvOk l h)) (by simp))
    rw [bad (.inl q1)]
    generalize decide (IvOk l h) = q2 at VI
    clear q1 bad hs il ih
    unfold chV at FO
    unfold rgV at VI
    dsimp only at FO VI
    unfold chV rgV
    dsimp only
    obtain ⟨W, hW⟩ : ∃ W, ((((w.alloc (.cells #[.int .i64 t, .int .i64 a, .int .i64 b, .int .i64 c, .int .i64 d] 24)).alloc (.cells #[.int .i64 l, .int .i64 h] 26)).alloc (.cells #[.int .i64 x, .int .i64 y] 27)).alloc (.cells #[.int .i64 0, .int .i64 0] 26)) = W := ⟨_, rfl⟩
    have C : Hid (Five W (w.heap.size) 24 (.int .i64 t) (.int .i64 a) (.int .i64 b) (.int .i64 c) (.int .i64 d)) := by
      rw [← hW]
      have k := Five.new w 24 (.int .i64 t) (.int .i64 a) (.int .i64 b) (.int .i64 c) (.int .i64 d)
      exact (((k).alloc _).alloc _).alloc _
    have I : Hid (Two W (w.heap.size + 1) 26 (.int .i64 l) (.int .i64 h)) := by
      rw [← hW]
      have k := Two.new (w.alloc (.cells #[.int .i64 t, .int .i64 a, .int .i64 b, .int .i64 c, .int .i64 d] 24)) 26 (.int .i64 l) (.int .i64 h)
      rw [show (w.alloc (.cells #[.int .i64 t, .int .i64 a, .int .i64 b, .int .i64 c, .int .i64 d] 24)).heap.size = w.heap.size + 1 by simp] at k
      exact ((k).alloc _).alloc _
    have R : Hid (Two W (w.heap.size + 1 + 1) 27 (.int .i64 x) (.int .i64 y)) := by
      rw [← hW]
      have k := Two.new ((w.alloc (.cells #[.int .i64 t, .int .i64 a, .int .i64 b, .int .i64 c, .int .i64 d] 24)).alloc (.cells #[.int .i64 l, .int .i64 h] 26)) 27 (.int .i64 x) (.int .i64 y)
      rw [show ((w.alloc (.cells #[.int .i64 t, .int .i64 a, .int .i64 b, .int .i64 c, .int .i64 d] 24)).alloc (.cells #[.int .i64 l, .int .i64 h] 26)).heap.size = w.heap.size + 1 + 1 by simp] at k
      exact (k).alloc _
    have O : Hid (Two W (w.heap.size + 1 + 1 + 1) 26 (.int .i64 0) (.int .i64 0)) := by
      rw [← hW]
      have k := Two.new (((w.alloc (.cells #[.int .i64 t, .int .i64 a, .int .i64 b, .int .i64 c, .int .i64 d] 24)).alloc (.cells #[.int .i64 l, .int .i64 h] 26)).alloc (.cells #[.int .i64 x, .int .i64 y] 27)) 26 (.int .i64 0) (.int .i64 0)
      rw [show (((w.alloc (.cells #[.int .i64 t, .int .i64 a, .int .i64 b, .int .i64 c, .int .i64 d] 24)).alloc (.cells #[.int .i64 l, .int .i64 h] 26)).alloc (.cells #[.int .i64 x, .int .i64 y] 27)).heap.size = w.heap.size + 1 + 1 + 1 by simp] at k
      exact k
    have BB : Hid (Below w.heap.size w W) := by rw [← hW]; exact (((below_alloc w _).alloc (by simp) _).alloc (by simp; omega) _).alloc (by simp; omega) _
    have c_0 := C.out.c0
    have c_1 := C.out.c1
    have c_2 := C.out.c2
    have c_3 := C.out.c3
    have c_4 := C.out.c4
    have c_l := C.out.lt
    have i_0 := I.out.c0
    have i_1 := I.out.c1
    have i_l := I.out.lt
    have r_0 := R.out.c0
    have r_1 := R.out.c1
    have r_l := R.out.lt
    have o_0 := O.out.c0
    have o_1 := O.out.c1
    have o_l := O.out.lt
    have o_f0 := O.out.free 0
    have o_f1 := O.out.free 1
    go_enter Try.func20, Try.ntmps20
    go_wp2_with (first
      | (go_at_call 21; (with_reducible refine (FO.out _).mono ?_); rintro e w1 ⟨rfl, b1⟩; replace C := Lib.hid (C.out.below b1 C.out.lt); replace I := Lib.hid (I.out.below b1 I.out.lt); replace R := Lib.hid (R.out.below b1 R.out.lt); replace O := Lib.hid (O.out.below b1 O.out.lt); replace BB := Lib.hid (below_more BB.out b1); replace c_0 := C.out.c0; replace c_1 := C.out.c1; replace c_2 := C.out.c2; replace c_3 := C.out.c3; replace c_4 := C.out.c4; replace c_l := C.out.lt; replace i_0 := I.out.c0; replace i_1 := I.out.c1; replace i_l := I.out.lt; replace r_0 := R.out.c0; replace r_1 := R.out.c1; replace r_l := R.out.lt; replace o_0 := O.out.c0; replace o_1 := O.out.c1; replace o_l := O.out.lt; replace o_f0 := O.out.free 0; replace o_f1 := O.out.free 1; clear b1 FO)
      | (go_at_call 25; (with_reducible refine (VI.out _).mono ?_); rintro e w2 ⟨rfl, b2⟩; replace C := Lib.hid (C.out.below b2 C.out.lt); replace I := Lib.hid (I.out.below b2 I.out.lt); replace R := Lib.hid (R.out.below b2 R.out.lt); replace O := Lib.hid (O.out.below b2 O.out.lt); replace BB := Lib.hid (below_more BB.out b2); replace c_0 := C.out.c0; replace c_1 := C.out.c1; replace c_2 := C.out.c2; replace c_3 := C.out.c3; replace c_4 := C.out.c4; replace c_l := C.out.lt; replace i_0 := I.out.c0; replace i_1 := I.out.c1; replace i_l := I.out.lt; replace r_0 := R.out.c0; replace r_1 := R.out.c1; replace r_l := R.out.lt; replace o_0 := O.out.c0; replace o_1 := O.out.c1; replace o_l := O.out.lt; replace o_f0 := O.out.free 0; replace o_f1 := O.out.free 1; clear b2 VI))
    refine bodyPost_ret (v := .tuple #[.agg #[.int .i64 (0), .int .i64 (0)], .int .i64 1]) (by simp [results, Try.results20, go_sem, o_0, o_1, o_l]) rfl ⟨rfl, ?_⟩
    exact (BB.out.setCell (p := ⟨w.heap.size + 1 + 1 + 1, 0, none⟩) (show w.heap.size ≤ w.heap.size + 1 + 1 + 1 by omega) _).setCell (p := ⟨w.heap.size + 1 + 1 + 1, 1, none⟩) (show w.heap.size ≤ w.heap.size + 1 + 1 + 1 by omega) _
  have FO := Lib.hid (rform_any ⟨t, a, b, c, d⟩ true ⟨fun _ => q1, fun _ => rfl⟩)
  by_cases q2 : IvOk l h
  case neg =>
    have VI := Lib.hid (rvalid_any l h false ⟨fun h => (by cases h), fun h => absurd h q2⟩)
    rw [bad (.inr q2)]
    clear q1 q2 bad hs il ih
    unfold chV at FO
    unfold rgV at VI
    dsimp only at FO VI
    unfold chV rgV
    dsimp only
    obtain ⟨W, hW⟩ : ∃ W, ((((w.alloc (.cells #[.int .i64 t, .int .i64 a, .int .i64 b, .int .i64 c, .int .i64 d] 24)).alloc (.cells #[.int .i64 l, .int .i64 h] 26)).alloc (.cells #[.int .i64 x, .int .i64 y] 27)).alloc (.cells #[.int .i64 0, .int .i64 0] 26)) = W := ⟨_, rfl⟩
    have C : Hid (Five W (w.heap.size) 24 (.int .i64 t) (.int .i64 a) (.int .i64 b) (.int .i64 c) (.int .i64 d)) := by
      rw [← hW]
      have k := Five.new w 24 (.int .i64 t) (.int .i64 a) (.int .i64 b) (.int .i64 c) (.int .i64 d)
      exact (((k).alloc _).alloc _).alloc _
    have I : Hid (Two W (w.heap.size + 1) 26 (.int .i64 l) (.int .i64 h)) := by
      rw [← hW]
      have k := Two.new (w.alloc (.cells #[.int .i64 t, .int .i64 a, .int .i64 b, .int .i64 c, .int .i64 d] 24)) 26 (.int .i64 l) (.int .i64 h)
      rw [show (w.alloc (.cells #[.int .i64 t, .int .i64 a, .int .i64 b, .int .i64 c, .int .i64 d] 24)).heap.size = w.heap.size + 1 by simp] at k
      exact ((k).alloc _).alloc _
    have R : Hid (Two W (w.heap.size + 1 + 1) 27 (.int .i64 x) (.int .i64 y)) := by
      rw [← hW]
      have k := Two.new ((w.alloc (.cells #[.int .i64 t, .int .i64 a, .int .i64 b, .int .i64 c, .int .i64 d] 24)).alloc (.cells #[.int .i64 l, .int .i64 h] 26)) 27 (.int .i64 x) (.int .i64 y)
      rw [show ((w.alloc (.cells #[.int .i64 t, .int .i64 a, .int .i64 b, .int .i64 c, .int .i64 d] 24)).alloc (.cells #[.int .i64 l, .int .i64 h] 26)).heap.size = w.heap.size + 1 + 1 by simp] at k
      exact (k).alloc _
    have O : Hid (Two W (w.heap.size + 1 + 1 + 1) 26 (.int .i64 0) (.int .i64 0)) := by
      rw [← hW]
      have k := Two.new (((w.alloc (.cells #[.int .i64 t, .int .i64 a, .int .i64 b, .int .i64 c, .int .i64 d] 24)).alloc (.cells #[.int .i64 l, .int .i64 h] 26)).alloc (.cells #[.int .i64 x, .int .i64 y] 27)) 26 (.int .i64 0) (.int .i64 0)
      rw [show (((w.alloc (.cells #[.int .i64 t, .int .i64 a, .int .i64 b, .int .i64 c, .int .i64 d] 24)).alloc (.cells #[.int .i64 l, .int .i64 h] 26)).alloc (.cells #[.int .i64 x, .int .i64 y] 27)).heap.size = w.heap.size + 1 + 1 + 1 by simp] at k
      exact k
    have BB : Hid (Below w.heap.size w W) := by rw [← hW]; exact (((below_alloc w _).alloc (by simp) _).alloc (by simp; omega) _).alloc (by simp; omega) _
    have c_0 := C.out.c0
    have c_1 := C.out.c1
    have c_2 := C.out.c2
    have c_3 := C.out.c3
    have c_4 := C.out.c4
    have c_l := C.out.lt
    have i_0 := I.out.c0
    have i_1 := I.out.c1
    have i_l := I.out.lt
    have r_0 := R.out.c0
    have r_1 := R.out.c1
    have r_l := R.out.lt
    have o_0 := O.out.c0
    have o_1 := O.out.c1
    have o_l := O.out.lt
    have o_f0 := O.out.free 0
    have o_f1 := O.out.free 1
    go_enter Try.func20, Try.ntmps20
    go_wp2_with (first
      | (go_at_call 21; (with_reducible refine (FO.out _).mono ?_); rintro e w1 ⟨rfl, b1⟩; replace C := Lib.hid (C.out.below b1 C.out.lt); replace I := Lib.hid (I.out.below b1 I.out.lt); replace R := Lib.hid (R.out.below b1 R.out.lt); replace O := Lib.hid (O.out.below b1 O.out.lt); replace BB := Lib.hid (below_more BB.out b1); replace c_0 := C.out.c0; replace c_1 := C.out.c1; replace c_2 := C.out.c2; replace c_3 := C.out.c3; replace c_4 := C.out.c4; replace c_l := C.out.lt; replace i_0 := I.out.c0; replace i_1 := I.out.c1; replace i_l := I.out.lt; replace r_0 := R.out.c0; replace r_1 := R.out.c1; replace r_l := R.out.lt; replace o_0 := O.out.c0; replace o_1 := O.out.c1; replace o_l := O.out.lt; replace o_f0 := O.out.free 0; replace o_f1 := O.out.free 1; clear b1 FO)
      | (go_at_call 25; (with_reducible refine (VI.out _).mono ?_); rintro e w2 ⟨rfl, b2⟩; replace C := Lib.hid (C.out.below b2 C.out.lt); replace I := Lib.hid (I.out.below b2 I.out.lt); replace R := Lib.hid (R.out.below b2 R.out.lt); replace O := Lib.hid (O.out.below b2 O.out.lt); replace BB := Lib.hid (below_more BB.out b2); replace c_0 := C.out.c0; replace c_1 := C.out.c1; replace c_2 := C.out.c2; replace c_3 := C.out.c3; replace c_4 := C.out.c4; replace c_l := C.out.lt; replace i_0 := I.out.c0; replace i_1 := I.out.c1; replace i_l := I.out.lt; replace r_0 := R.out.c0; replace r_1 := R.out.c1; replace r_l := R.out.lt; replace o_0 := O.out.c0; replace o_1 := O.out.c1; replace o_l := O.out.lt; replace o_f0 := O.out.free 0; replace o_f1 := O.out.free 1; clear b2 VI))
    refine bodyPost_ret (v := .tuple #[.agg #[.int .i64 (0), .int .i64 (0)], .int .i64 1]) (by simp [results, Try.results20, go_sem, o_0, o_1, o_l]) rfl ⟨rfl, ?_⟩
    exact (BB.out.setCell (p := ⟨w.heap.size + 1 + 1 + 1, 0, none⟩) (show w.heap.size ≤ w.heap.size + 1 + 1 + 1 by omega) _).setCell (p := ⟨w.heap.size + 1 + 1 + 1, 1, none⟩) (show w.heap.size ≤ w.heap.size + 1 + 1 + 1 by omega) _
  have VI := Lib.hid (rvalid_any l h true ⟨fun _ => q2, fun _ => rfl⟩)
  have Q1 := Lib.hid q1
  have Q2 := Lib.hid q2
  obtain ⟨⟨a1, a2, a3⟩, c1, c2, c3⟩ := q1
  dsimp only at a1 a2 a3 c1 c2 c3
  obtain ⟨i1, i2, i3⟩ := q2
  unfold chV at FO
  unfold rgV at VI
  dsimp only at FO VI
  clear bad
  by_cases g0 : x < 0
  · rw [show roundR ⟨t, a, b, c, d⟩ l h x y = (0, 0, 1) from if_neg (fun z => by have k := z.2.2; have := k.1; omega)]
    have dg0 : decide (x < 0) = true := by simp; omega
    clear Q1 Q2 hs il ih
    unfold chV rgV
    dsimp only
    obtain ⟨W, hW⟩ : ∃ W, ((((w.alloc (.cells #[.int .i64 t, .int .i64 a, .int .i64 b, .int .i64 c, .int .i64 d] 24)).alloc (.cells #[.int .i64 l, .int .i64 h] 26)).alloc (.cells #[.int .i64 x, .int .i64 y] 27)).alloc (.cells #[.int .i64 0, .int .i64 0] 26)) = W := ⟨_, rfl⟩
    have C : Hid (Five W (w.heap.size) 24 (.int .i64 t) (.int .i64 a) (.int .i64 b) (.int .i64 c) (.int .i64 d)) := by
      rw [← hW]
      have k := Five.new w 24 (.int .i64 t) (.int .i64 a) (.int .i64 b) (.int .i64 c) (.int .i64 d)
      exact (((k).alloc _).alloc _).alloc _
    have I : Hid (Two W (w.heap.size + 1) 26 (.int .i64 l) (.int .i64 h)) := by
      rw [← hW]
      have k := Two.new (w.alloc (.cells #[.int .i64 t, .int .i64 a, .int .i64 b, .int .i64 c, .int .i64 d] 24)) 26 (.int .i64 l) (.int .i64 h)
      rw [show (w.alloc (.cells #[.int .i64 t, .int .i64 a, .int .i64 b, .int .i64 c, .int .i64 d] 24)).heap.size = w.heap.size + 1 by simp] at k
      exact ((k).alloc _).alloc _
    have R : Hid (Two W (w.heap.size + 1 + 1) 27 (.int .i64 x) (.int .i64 y)) := by
      rw [← hW]
      have k := Two.new ((w.alloc (.cells #[.int .i64 t, .int .i64 a, .int .i64 b, .int .i64 c, .int .i64 d] 24)).alloc (.cells #[.int .i64 l, .int .i64 h] 26)) 27 (.int .i64 x) (.int .i64 y)
      rw [show ((w.alloc (.cells #[.int .i64 t, .int .i64 a, .int .i64 b, .int .i64 c, .int .i64 d] 24)).alloc (.cells #[.int .i64 l, .int .i64 h] 26)).heap.size = w.heap.size + 1 + 1 by simp] at k
      exact (k).alloc _
    have O : Hid (Two W (w.heap.size + 1 + 1 + 1) 26 (.int .i64 0) (.int .i64 0)) := by
      rw [← hW]
      have k := Two.new (((w.alloc (.cells #[.int .i64 t, .int .i64 a, .int .i64 b, .int .i64 c, .int .i64 d] 24)).alloc (.cells #[.int .i64 l, .int .i64 h] 26)).alloc (.cells #[.int .i64 x, .int .i64 y] 27)) 26 (.int .i64 0) (.int .i64 0)
      rw [show (((w.alloc (.cells #[.int .i64 t, .int .i64 a, .int .i64 b, .int .i64 c, .int .i64 d] 24)).alloc (.cells #[.int .i64 l, .int .i64 h] 26)).alloc (.cells #[.int .i64 x, .int .i64 y] 27)).heap.size = w.heap.size + 1 + 1 + 1 by simp] at k
      exact k
    have BB : Hid (Below w.heap.size w W) := by rw [← hW]; exact (((below_alloc w _).alloc (by simp) _).alloc (by simp; omega) _).alloc (by simp; omega) _
    have c_0 := C.out.c0
    have c_1 := C.out.c1
    have c_2 := C.out.c2
    have c_3 := C.out.c3
    have c_4 := C.out.c4
    have c_l := C.out.lt
    have i_0 := I.out.c0
    have i_1 := I.out.c1
    have i_l := I.out.lt
    have r_0 := R.out.c0
    have r_1 := R.out.c1
    have r_l := R.out.lt
    have o_0 := O.out.c0
    have o_1 := O.out.c1
    have o_l := O.out.lt
    have o_f0 := O.out.free 0
    have o_f1 := O.out.free 1
    go_enter Try.func20, Try.ntmps20
    go_wp2_with (first
      | (go_at_call 21; (with_reducible refine (FO.out _).mono ?_); rintro e w1 ⟨rfl, b1⟩; replace C := Lib.hid (C.out.below b1 C.out.lt); replace I := Lib.hid (I.out.below b1 I.out.lt); replace R := Lib.hid (R.out.below b1 R.out.lt); replace O := Lib.hid (O.out.below b1 O.out.lt); replace BB := Lib.hid (below_more BB.out b1); replace c_0 := C.out.c0; replace c_1 := C.out.c1; replace c_2 := C.out.c2; replace c_3 := C.out.c3; replace c_4 := C.out.c4; replace c_l := C.out.lt; replace i_0 := I.out.c0; replace i_1 := I.out.c1; replace i_l := I.out.lt; replace r_0 := R.out.c0; replace r_1 := R.out.c1; replace r_l := R.out.lt; replace o_0 := O.out.c0; replace o_1 := O.out.c1; replace o_l := O.out.lt; replace o_f0 := O.out.free 0; replace o_f1 := O.out.free 1; clear b1 FO)
      | (go_at_call 25; (with_reducible refine (VI.out _).mono ?_); rintro e w2 ⟨rfl, b2⟩; replace C := Lib.hid (C.out.below b2 C.out.lt); replace I := Lib.hid (I.out.below b2 I.out.lt); replace R := Lib.hid (R.out.below b2 R.out.lt); replace O := Lib.hid (O.out.below b2 O.out.lt); replace BB := Lib.hid (below_more BB.out b2); replace c_0 := C.out.c0; replace c_1 := C.out.c1; replace c_2 := C.out.c2; replace c_3 := C.out.c3; replace c_4 := C.out.c4; replace c_l := C.out.lt; replace i_0 := I.out.c0; replace i_1 := I.out.c1; replace i_l := I.out.lt; replace r_0 := R.out.c0; replace r_1 := R.out.c1; replace r_l := R.out.lt; replace o_0 := O.out.c0; replace o_1 := O.out.c1; replace o_l := O.out.lt; replace o_f0 := O.out.free 0; replace o_f1 := O.out.free 1; clear b2 VI))
    refine bodyPost_ret (v := .tuple #[.agg #[.int .i64 (0), .int .i64 (0)], .int .i64 1]) (by simp [results, Try.results20, go_sem, o_0, o_1, o_l]) rfl ⟨rfl, ?_⟩
    exact (BB.out.setCell (p := ⟨w.heap.size + 1 + 1 + 1, 0, none⟩) (show w.heap.size ≤ w.heap.size + 1 + 1 + 1 by omega) _).setCell (p := ⟨w.heap.size + 1 + 1 + 1, 1, none⟩) (show w.heap.size ≤ w.heap.size + 1 + 1 + 1 by omega) _
  have dg0 : decide (x < 0) = false := by simp; omega
  by_cases g1 : y < x
  · rw [show roundR ⟨t, a, b, c, d⟩ l h x y = (0, 0, 1) from if_neg (fun z => by have k := z.2.2; have := k.2.1; omega)]
    have dg1 : decide (y < x) = true := by simp; omega
    clear Q1 Q2 hs il ih
    unfold chV rgV
    dsimp only
    obtain ⟨W, hW⟩ : ∃ W, ((((w.alloc (.cells #[.int .i64 t, .int .i64 a, .int .i64 b, .int .i64 c, .int .i64 d] 24)).alloc (.cells #[.int .i64 l, .int .i64 h] 26)).alloc (.cells #[.int .i64 x, .int .i64 y] 27)).alloc (.cells #[.int .i64 0, .int .i64 0] 26)) = W := ⟨_, rfl⟩
    have C : Hid (Five W (w.heap.size) 24 (.int .i64 t) (.int .i64 a) (.int .i64 b) (.int .i64 c) (.int .i64 d)) := by
      rw [← hW]
      have k := Five.new w 24 (.int .i64 t) (.int .i64 a) (.int .i64 b) (.int .i64 c) (.int .i64 d)
      exact (((k).alloc _).alloc _).alloc _
    have I : Hid (Two W (w.heap.size + 1) 26 (.int .i64 l) (.int .i64 h)) := by
      rw [← hW]
      have k := Two.new (w.alloc (.cells #[.int .i64 t, .int .i64 a, .int .i64 b, .int .i64 c, .int .i64 d] 24)) 26 (.int .i64 l) (.int .i64 h)
      rw [show (w.alloc (.cells #[.int .i64 t, .int .i64 a, .int .i64 b, .int .i64 c, .int .i64 d] 24)).heap.size = w.heap.size + 1 by simp] at k
      exact ((k).alloc _).alloc _
    have R : Hid (Two W (w.heap.size + 1 + 1) 27 (.int .i64 x) (.int .i64 y)) := by
      rw [← hW]
      have k := Two.new ((w.alloc (.cells #[.int .i64 t, .int .i64 a, .int .i64 b, .int .i64 c, .int .i64 d] 24)).alloc (.cells #[.int .i64 l, .int .i64 h] 26)) 27 (.int .i64 x) (.int .i64 y)
      rw [show ((w.alloc (.cells #[.int .i64 t, .int .i64 a, .int .i64 b, .int .i64 c, .int .i64 d] 24)).alloc (.cells #[.int .i64 l, .int .i64 h] 26)).heap.size = w.heap.size + 1 + 1 by simp] at k
      exact (k).alloc _
    have O : Hid (Two W (w.heap.size + 1 + 1 + 1) 26 (.int .i64 0) (.int .i64 0)) := by
      rw [← hW]
      have k := Two.new (((w.alloc (.cells #[.int .i64 t, .int .i64 a, .int .i64 b, .int .i64 c, .int .i64 d] 24)).alloc (.cells #[.int .i64 l, .int .i64 h] 26)).alloc (.cells #[.int .i64 x, .int .i64 y] 27)) 26 (.int .i64 0) (.int .i64 0)
      rw [show (((w.alloc (.cells #[.int .i64 t, .int .i64 a, .int .i64 b, .int .i64 c, .int .i64 d] 24)).alloc (.cells #[.int .i64 l, .int .i64 h] 26)).alloc (.cells #[.int .i64 x, .int .i64 y] 27)).heap.size = w.heap.size + 1 + 1 + 1 by simp] at k
      exact k
    have BB : Hid (Below w.heap.size w W) := by rw [← hW]; exact (((below_alloc w _).alloc (by simp) _).alloc (by simp; omega) _).alloc (by simp; omega) _
    have c_0 := C.out.c0
    have c_1 := C.out.c1
    have c_2 := C.out.c2
    have c_3 := C.out.c3
    have c_4 := C.out.c4
    have c_l := C.out.lt
    have i_0 := I.out.c0
    have i_1 := I.out.c1
    have i_l := I.out.lt
    have r_0 := R.out.c0
    have r_1 := R.out.c1
    have r_l := R.out.lt
    have o_0 := O.out.c0
    have o_1 := O.out.c1
    have o_l := O.out.lt
    have o_f0 := O.out.free 0
    have o_f1 := O.out.free 1
    go_enter Try.func20, Try.ntmps20
    go_wp2_with (first
      | (go_at_call 21; (with_reducible refine (FO.out _).mono ?_); rintro e w1 ⟨rfl, b1⟩; replace C := Lib.hid (C.out.below b1 C.out.lt); replace I := Lib.hid (I.out.below b1 I.out.lt); replace R := Lib.hid (R.out.below b1 R.out.lt); replace O := Lib.hid (O.out.below b1 O.out.lt); replace BB := Lib.hid (below_more BB.out b1); replace c_0 := C.out.c0; replace c_1 := C.out.c1; replace c_2 := C.out.c2; replace c_3 := C.out.c3; replace c_4 := C.out.c4; replace c_l := C.out.lt; replace i_0 := I.out.c0; replace i_1 := I.out.c1; replace i_l := I.out.lt; replace r_0 := R.out.c0; replace r_1 := R.out.c1; replace r_l := R.out.lt; replace o_0 := O.out.c0; replace o_1 := O.out.c1; replace o_l := O.out.lt; replace o_f0 := O.out.free 0; replace o_f1 := O.out.free 1; clear b1 FO)
      | (go_at_call 25; (with_reducible refine (VI.out _).mono ?_); rintro e w2 ⟨rfl, b2⟩; replace C := Lib.hid (C.out.below b2 C.out.lt); replace I := Lib.hid (I.out.below b2 I.out.lt); replace R := Lib.hid (R.out.below b2 R.out.lt); replace O := Lib.hid (O.out.below b2 O.out.lt); replace BB := Lib.hid (below_more BB.out b2); replace c_0 := C.out.c0; replace c_1 := C.out.c1; replace c_2 := C.out.c2; replace c_3 := C.out.c3; replace c_4 := C.out.c4; replace c_l := C.out.lt; replace i_0 := I.out.c0; replace i_1 := I.out.c1; replace i_l := I.out.lt; replace r_0 := R.out.c0; replace r_1 := R.out.c1; replace r_l := R.out.lt; replace o_0 := O.out.c0; replace o_1 := O.out.c1; replace o_l := O.out.lt; replace o_f0 := O.out.free 0; replace o_f1 := O.out.free 1; clear b2 VI))
    refine bodyPost_ret (v := .tuple #[.agg #[.int .i64 (0), .int .i64 (0)], .int .i64 1]) (by simp [results, Try.results20, go_sem, o_0, o_1, o_l]) rfl ⟨rfl, ?_⟩
    exact (BB.out.setCell (p := ⟨w.heap.size + 1 + 1 + 1, 0, none⟩) (show w.heap.size ≤ w.heap.size + 1 + 1 + 1 by omega) _).setCell (p := ⟨w.heap.size + 1 + 1 + 1, 1, none⟩) (show w.heap.size ≤ w.heap.size + 1 + 1 + 1 by omega) _
  have dg1 : decide (y < x) = false := by simp; omega
  by_cases g2 : 3000000000000000 < y
  · rw [show roundR ⟨t, a, b, c, d⟩ l h x y = (0, 0, 1) from if_neg (fun z => by have k := z.2.2; have := k.2.2; omega)]
    have dg2 : decide (3000000000000000 < y) = true := by simp; omega
    clear Q1 Q2 hs il ih
    unfold chV rgV
    dsimp only
    obtain ⟨W, hW⟩ : ∃ W, ((((w.alloc (.cells #[.int .i64 t, .int .i64 a, .int .i64 b, .int .i64 c, .int .i64 d] 24)).alloc (.cells #[.int .i64 l, .int .i64 h] 26)).alloc (.cells #[.int .i64 x, .int .i64 y] 27)).alloc (.cells #[.int .i64 0, .int .i64 0] 26)) = W := ⟨_, rfl⟩
    have C : Hid (Five W (w.heap.size) 24 (.int .i64 t) (.int .i64 a) (.int .i64 b) (.int .i64 c) (.int .i64 d)) := by
      rw [← hW]
      have k := Five.new w 24 (.int .i64 t) (.int .i64 a) (.int .i64 b) (.int .i64 c) (.int .i64 d)
      exact (((k).alloc _).alloc _).alloc _
    have I : Hid (Two W (w.heap.size + 1) 26 (.int .i64 l) (.int .i64 h)) := by
      rw [← hW]
      have k := Two.new (w.alloc (.cells #[.int .i64 t, .int .i64 a, .int .i64 b, .int .i64 c, .int .i64 d] 24)) 26 (.int .i64 l) (.int .i64 h)
      rw [show (w.alloc (.cells #[.int .i64 t, .int .i64 a, .int .i64 b, .int .i64 c, .int .i64 d] 24)).heap.size = w.heap.size + 1 by simp] at k
      exact ((k).alloc _).alloc _
    have R : Hid (Two W (w.heap.size + 1 + 1) 27 (.int .i64 x) (.int .i64 y)) := by
      rw [← hW]
      have k := Two.new ((w.alloc (.cells #[.int .i64 t, .int .i64 a, .int .i64 b, .int .i64 c, .int .i64 d] 24)).alloc (.cells #[.int .i64 l, .int .i64 h] 26)) 27 (.int .i64 x) (.int .i64 y)
      rw [show ((w.alloc (.cells #[.int .i64 t, .int .i64 a, .int .i64 b, .int .i64 c, .int .i64 d] 24)).alloc (.cells #[.int .i64 l, .int .i64 h] 26)).heap.size = w.heap.size + 1 + 1 by simp] at k
      exact (k).alloc _
    have O : Hid (Two W (w.heap.size + 1 + 1 + 1) 26 (.int .i64 0) (.int .i64 0)) := by
      rw [← hW]
      have k := Two.new (((w.alloc (.cells #[.int .i64 t, .int .i64 a, .int .i64 b, .int .i64 c, .int .i64 d] 24)).alloc (.cells #[.int .i64 l, .int .i64 h] 26)).alloc (.cells #[.int .i64 x, .int .i64 y] 27)) 26 (.int .i64 0) (.int .i64 0)
      rw [show (((w.alloc (.cells #[.int .i64 t, .int .i64 a, .int .i64 b, .int .i64 c, .int .i64 d] 24)).alloc (.cells #[.int .i64 l, .int .i64 h] 26)).alloc (.cells #[.int .i64 x, .int .i64 y] 27)).heap.size = w.heap.size + 1 + 1 + 1 by simp] at k
      exact k
    have BB : Hid (Below w.heap.size w W) := by rw [← hW]; exact (((below_alloc w _).alloc (by simp) _).alloc (by simp; omega) _).alloc (by simp; omega) _
    have c_0 := C.out.c0
    have c_1 := C.out.c1
    have c_2 := C.out.c2
    have c_3 := C.out.c3
    have c_4 := C.out.c4
    have c_l := C.out.lt
    have i_0 := I.out.c0
    have i_1 := I.out.c1
    have i_l := I.out.lt
    have r_0 := R.out.c0
    have r_1 := R.out.c1
    have r_l := R.out.lt
    have o_0 := O.out.c0
    have o_1 := O.out.c1
    have o_l := O.out.lt
    have o_f0 := O.out.free 0
    have o_f1 := O.out.free 1
    go_enter Try.func20, Try.ntmps20
    go_wp2_with (first
      | (go_at_call 21; (with_reducible refine (FO.out _).mono ?_); rintro e w1 ⟨rfl, b1⟩; replace C := Lib.hid (C.out.below b1 C.out.lt); replace I := Lib.hid (I.out.below b1 I.out.lt); replace R := Lib.hid (R.out.below b1 R.out.lt); replace O := Lib.hid (O.out.below b1 O.out.lt); replace BB := Lib.hid (below_more BB.out b1); replace c_0 := C.out.c0; replace c_1 := C.out.c1; replace c_2 := C.out.c2; replace c_3 := C.out.c3; replace c_4 := C.out.c4; replace c_l := C.out.lt; replace i_0 := I.out.c0; replace i_1 := I.out.c1; replace i_l := I.out.lt; replace r_0 := R.out.c0; replace r_1 := R.out.c1; replace r_l := R.out.lt; replace o_0 := O.out.c0; replace o_1 := O.out.c1; replace o_l := O.out.lt; replace o_f0 := O.out.free 0; replace o_f1 := O.out.free 1; clear b1 FO)
      | (go_at_call 25; (with_reducible refine (VI.out _).mono ?_); rintro e w2 ⟨rfl, b2⟩; replace C := Lib.hid (C.out.below b2 C.out.lt); replace I := Lib.hid (I.out.below b2 I.out.lt); replace R := Lib.hid (R.out.below b2 R.out.lt); replace O := Lib.hid (O.out.below b2 O.out.lt); replace BB := Lib.hid (below_more BB.out b2); replace c_0 := C.out.c0; replace c_1 := C.out.c1; replace c_2 := C.out.c2; replace c_3 := C.out.c3; replace c_4 := C.out.c4; replace c_l := C.out.lt; replace i_0 := I.out.c0; replace i_1 := I.out.c1; replace i_l := I.out.lt; replace r_0 := R.out.c0; replace r_1 := R.out.c1; replace r_l := R.out.lt; replace o_0 := O.out.c0; replace o_1 := O.out.c1; replace o_l := O.out.lt; replace o_f0 := O.out.free 0; replace o_f1 := O.out.free 1; clear b2 VI))
    refine bodyPost_ret (v := .tuple #[.agg #[.int .i64 (0), .int .i64 (0)], .int .i64 1]) (by simp [results, Try.results20, go_sem, o_0, o_1, o_l]) rfl ⟨rfl, ?_⟩
    exact (BB.out.setCell (p := ⟨w.heap.size + 1 + 1 + 1, 0, none⟩) (show w.heap.size ≤ w.heap.size + 1 + 1 + 1 by omega) _).setCell (p := ⟨w.heap.size + 1 + 1 + 1, 1, none⟩) (show w.heap.size ≤ w.heap.size + 1 + 1 + 1 by omega) _
  have dg2 : decide (3000000000000000 < y) = false := by simp; omega
  have ie : IvOk x y := ⟨by omega, by omega, by omega⟩
  obtain ⟨p1, hp1⟩ : ∃ p, x - d = p := ⟨_, rfl⟩
  obtain ⟨p2, hp2⟩ : ∃ p, y - c = p := ⟨_, rfl⟩
  obtain ⟨p3, hp3⟩ : ∃ p, max a p1 = p := ⟨_, rfl⟩
  obtain ⟨p4, hp4⟩ : ∃ p, min b p2 = p := ⟨_, rfl⟩
  have RB : p4 < p3 ∨ h - p3 < 0 → roundR ⟨t, a, b, c, d⟩ l h x y = (0, 0, 22) := fun z => (if_pos ⟨Q1.out, Q2.out, ie⟩).trans (if_pos (by dsimp only; omega))
  have RG : ¬ (p4 < p3 ∨ h - p3 < 0) → roundR ⟨t, a, b, c, d⟩ l h x y = (max 0 (l - p4), h - p3, 0) := fun z => by
    have k := round_is (s := ⟨t, a, b, c, d⟩) (l := l) (h := h) (x := x) (y := y) Q1.out Q2.out ie (by dsimp only; omega) (by dsimp only; omega)
    dsimp only at k
    rw [hp1, hp2, hp3, hp4] at k
    exact k
  have b3 : 0 ≤ p3 ∧ p3 ≤ 3000000000000000 := by omega
  have b4 : -1000000 ≤ p4 ∧ p4 ≤ 1000000 := by omega
  by_cases g3 : p4 < p3
  · rw [RB (.inl g3)]
    have dg3 : decide (p4 < p3) = true := by simp; omega
    clear RB RG
    clear ie Q1 Q2 hs il ih
    unfold chV rgV
    dsimp only
    obtain ⟨W, hW⟩ : ∃ W, ((((w.alloc (.cells #[.int .i64 t, .int .i64 a, .int .i64 b, .int .i64 c, .int .i64 d] 24)).alloc (.cells #[.int .i64 l, .int .i64 h] 26)).alloc (.cells #[.int .i64 x, .int .i64 y] 27)).alloc (.cells #[.int .i64 0, .int .i64 0] 26)) = W := ⟨_, rfl⟩
    have C : Hid (Five W (w.heap.size) 24 (.int .i64 t) (.int .i64 a) (.int .i64 b) (.int .i64 c) (.int .i64 d)) := by
      rw [← hW]
      have k := Five.new w 24 (.int .i64 t) (.int .i64 a) (.int .i64 b) (.int .i64 c) (.int .i64 d)
      exact (((k).alloc _).alloc _).alloc _
    have I : Hid (Two W (w.heap.size + 1) 26 (.int .i64 l) (.int .i64 h)) := by
      rw [← hW]
      have k := Two.new (w.alloc (.cells #[.int .i64 t, .int .i64 a, .int .i64 b, .int .i64 c, .int .i64 d] 24)) 26 (.int .i64 l) (.int .i64 h)
      rw [show (w.alloc (.cells #[.int .i64 t, .int .i64 a, .int .i64 b, .int .i64 c, .int .i64 d] 24)).heap.size = w.heap.size + 1 by simp] at k
      exact ((k).alloc _).alloc _
    have R : Hid (Two W (w.heap.size + 1 + 1) 27 (.int .i64 x) (.int .i64 y)) := by
      rw [← hW]
      have k := Two.new ((w.alloc (.cells #[.int .i64 t, .int .i64 a, .int .i64 b, .int .i64 c, .int .i64 d] 24)).alloc (.cells #[.int .i64 l, .int .i64 h] 26)) 27 (.int .i64 x) (.int .i64 y)
      rw [show ((w.alloc (.cells #[.int .i64 t, .int .i64 a, .int .i64 b, .int .i64 c, .int .i64 d] 24)).alloc (.cells #[.int .i64 l, .int .i64 h] 26)).heap.size = w.heap.size + 1 + 1 by simp] at k
      exact (k).alloc _
    have O : Hid (Two W (w.heap.size + 1 + 1 + 1) 26 (.int .i64 0) (.int .i64 0)) := by
      rw [← hW]
      have k := Two.new (((w.alloc (.cells #[.int .i64 t, .int .i64 a, .int .i64 b, .int .i64 c, .int .i64 d] 24)).alloc (.cells #[.int .i64 l, .int .i64 h] 26)).alloc (.cells #[.int .i64 x, .int .i64 y] 27)) 26 (.int .i64 0) (.int .i64 0)
      rw [show (((w.alloc (.cells #[.int .i64 t, .int .i64 a, .int .i64 b, .int .i64 c, .int .i64 d] 24)).alloc (.cells #[.int .i64 l, .int .i64 h] 26)).alloc (.cells #[.int .i64 x, .int .i64 y] 27)).heap.size = w.heap.size + 1 + 1 + 1 by simp] at k
      exact k
    have BB : Hid (Below w.heap.size w W) := by rw [← hW]; exact (((below_alloc w _).alloc (by simp) _).alloc (by simp; omega) _).alloc (by simp; omega) _
    have c_0 := C.out.c0
    have c_1 := C.out.c1
    have c_2 := C.out.c2
    have c_3 := C.out.c3
    have c_4 := C.out.c4
    have c_l := C.out.lt
    have i_0 := I.out.c0
    have i_1 := I.out.c1
    have i_l := I.out.lt
    have r_0 := R.out.c0
    have r_1 := R.out.c1
    have r_l := R.out.lt
    have o_0 := O.out.c0
    have o_1 := O.out.c1
    have o_l := O.out.lt
    have o_f0 := O.out.free 0
    have o_f1 := O.out.free 1
    go_enter Try.func20, Try.ntmps20
    go_wp2_with (first
      | (go_at_call 21; (with_reducible refine (FO.out _).mono ?_); rintro e w1 ⟨rfl, b1⟩; replace C := Lib.hid (C.out.below b1 C.out.lt); replace I := Lib.hid (I.out.below b1 I.out.lt); replace R := Lib.hid (R.out.below b1 R.out.lt); replace O := Lib.hid (O.out.below b1 O.out.lt); replace BB := Lib.hid (below_more BB.out b1); replace c_0 := C.out.c0; replace c_1 := C.out.c1; replace c_2 := C.out.c2; replace c_3 := C.out.c3; replace c_4 := C.out.c4; replace c_l := C.out.lt; replace i_0 := I.out.c0; replace i_1 := I.out.c1; replace i_l := I.out.lt; replace r_0 := R.out.c0; replace r_1 := R.out.c1; replace r_l := R.out.lt; replace o_0 := O.out.c0; replace o_1 := O.out.c1; replace o_l := O.out.lt; replace o_f0 := O.out.free 0; replace o_f1 := O.out.free 1; clear b1 FO)
      | (go_at_call 25; (with_reducible refine (VI.out _).mono ?_); rintro e w2 ⟨rfl, b2⟩; replace C := Lib.hid (C.out.below b2 C.out.lt); replace I := Lib.hid (I.out.below b2 I.out.lt); replace R := Lib.hid (R.out.below b2 R.out.lt); replace O := Lib.hid (O.out.below b2 O.out.lt); replace BB := Lib.hid (below_more BB.out b2); replace c_0 := C.out.c0; replace c_1 := C.out.c1; replace c_2 := C.out.c2; replace c_3 := C.out.c3; replace c_4 := C.out.c4; replace c_l := C.out.lt; replace i_0 := I.out.c0; replace i_1 := I.out.c1; replace i_l := I.out.lt; replace r_0 := R.out.c0; replace r_1 := R.out.c1; replace r_l := R.out.lt; replace o_0 := O.out.c0; replace o_1 := O.out.c1; replace o_l := O.out.lt; replace o_f0 := O.out.free 0; replace o_f1 := O.out.free 1; clear b2 VI))
    refine bodyPost_ret (v := .tuple #[.agg #[.int .i64 (0), .int .i64 (0)], .int .i64 22]) (by simp [results, Try.results20, go_sem, o_0, o_1, o_l]) rfl ⟨rfl, ?_⟩
    exact (BB.out.setCell (p := ⟨w.heap.size + 1 + 1 + 1, 0, none⟩) (show w.heap.size ≤ w.heap.size + 1 + 1 + 1 by omega) _).setCell (p := ⟨w.heap.size + 1 + 1 + 1, 1, none⟩) (show w.heap.size ≤ w.heap.size + 1 + 1 + 1 by omega) _
  have dg3 : decide (p4 < p3) = false := by simp; omega
  by_cases g4 : h - p3 < 0
  · rw [RB (.inr g4)]
    have dg4 : decide (h - p3 < 0) = true := by simp; omega
    clear RB RG
    clear ie Q1 Q2 hs il ih
    unfold chV rgV
    dsimp only
    obtain ⟨W, hW⟩ : ∃ W, ((((w.alloc (.cells #[.int .i64 t, .int .i64 a, .int .i64 b, .int .i64 c, .int .i64 d] 24)).alloc (.cells #[.int .i64 l, .int .i64 h] 26)).alloc (.cells #[.int .i64 x, .int .i64 y] 27)).alloc (.cells #[.int .i64 0, .int .i64 0] 26)) = W := ⟨_, rfl⟩
    have C : Hid (Five W (w.heap.size) 24 (.int .i64 t) (.int .i64 a) (.int .i64 b) (.int .i64 c) (.int .i64 d)) := by
      rw [← hW]
      have k := Five.new w 24 (.int .i64 t) (.int .i64 a) (.int .i64 b) (.int .i64 c) (.int .i64 d)
      exact (((k).alloc _).alloc _).alloc _
    have I : Hid (Two W (w.heap.size + 1) 26 (.int .i64 l) (.int .i64 h)) := by
      rw [← hW]
      have k := Two.new (w.alloc (.cells #[.int .i64 t, .int .i64 a, .int .i64 b, .int .i64 c, .int .i64 d] 24)) 26 (.int .i64 l) (.int .i64 h)
      rw [show (w.alloc (.cells #[.int .i64 t, .int .i64 a, .int .i64 b, .int .i64 c, .int .i64 d] 24)).heap.size = w.heap.size + 1 by simp] at k
      exact ((k).alloc _).alloc _
    have R : Hid (Two W (w.heap.size + 1 + 1) 27 (.int .i64 x) (.int .i64 y)) := by
      rw [← hW]
      have k := Two.new ((w.alloc (.cells #[.int .i64 t, .int .i64 a, .int .i64 b, .int .i64 c, .int .i64 d] 24)).alloc (.cells #[.int .i64 l, .int .i64 h] 26)) 27 (.int .i64 x) (.int .i64 y)
      rw [show ((w.alloc (.cells #[.int .i64 t, .int .i64 a, .int .i64 b, .int .i64 c, .int .i64 d] 24)).alloc (.cells #[.int .i64 l, .int .i64 h] 26)).heap.size = w.heap.size + 1 + 1 by simp] at k
      exact (k).alloc _
    have O : Hid (Two W (w.heap.size + 1 + 1 + 1) 26 (.int .i64 0) (.int .i64 0)) := by
      rw [← hW]
      have k := Two.new (((w.alloc (.cells #[.int .i64 t, .int .i64 a, .int .i64 b, .int .i64 c, .int .i64 d] 24)).alloc (.cells #[.int .i64 l, .int .i64 h] 26)).alloc (.cells #[.int .i64 x, .int .i64 y] 27)) 26 (.int .i64 0) (.int .i64 0)
      rw [show (((w.alloc (.cells #[.int .i64 t, .int .i64 a, .int .i64 b, .int .i64 c, .int .i64 d] 24)).alloc (.cells #[.int .i64 l, .int .i64 h] 26)).alloc (.cells #[.int .i64 x, .int .i64 y] 27)).heap.size = w.heap.size + 1 + 1 + 1 by simp] at k
      exact k
    have BB : Hid (Below w.heap.size w W) := by rw [← hW]; exact (((below_alloc w _).alloc (by simp) _).alloc (by simp; omega) _).alloc (by simp; omega) _
    have c_0 := C.out.c0
    have c_1 := C.out.c1
    have c_2 := C.out.c2
    have c_3 := C.out.c3
    have c_4 := C.out.c4
    have c_l := C.out.lt
    have i_0 := I.out.c0
    have i_1 := I.out.c1
    have i_l := I.out.lt
    have r_0 := R.out.c0
    have r_1 := R.out.c1
    have r_l := R.out.lt
    have o_0 := O.out.c0
    have o_1 := O.out.c1
    have o_l := O.out.lt
    have o_f0 := O.out.free 0
    have o_f1 := O.out.free 1
    go_enter Try.func20, Try.ntmps20
    go_wp2_with (first
      | (go_at_call 21; (with_reducible refine (FO.out _).mono ?_); rintro e w1 ⟨rfl, b1⟩; replace C := Lib.hid (C.out.below b1 C.out.lt); replace I := Lib.hid (I.out.below b1 I.out.lt); replace R := Lib.hid (R.out.below b1 R.out.lt); replace O := Lib.hid (O.out.below b1 O.out.lt); replace BB := Lib.hid (below_more BB.out b1); replace c_0 := C.out.c0; replace c_1 := C.out.c1; replace c_2 := C.out.c2; replace c_3 := C.out.c3; replace c_4 := C.out.c4; replace c_l := C.out.lt; replace i_0 := I.out.c0; replace i_1 := I.out.c1; replace i_l := I.out.lt; replace r_0 := R.out.c0; replace r_1 := R.out.c1; replace r_l := R.out.lt; replace o_0 := O.out.c0; replace o_1 := O.out.c1; replace o_l := O.out.lt; replace o_f0 := O.out.free 0; replace o_f1 := O.out.free 1; clear b1 FO)
      | (go_at_call 25; (with_reducible refine (VI.out _).mono ?_); rintro e w2 ⟨rfl, b2⟩; replace C := Lib.hid (C.out.below b2 C.out.lt); replace I := Lib.hid (I.out.below b2 I.out.lt); replace R := Lib.hid (R.out.below b2 R.out.lt); replace O := Lib.hid (O.out.below b2 O.out.lt); replace BB := Lib.hid (below_more BB.out b2); replace c_0 := C.out.c0; replace c_1 := C.out.c1; replace c_2 := C.out.c2; replace c_3 := C.out.c3; replace c_4 := C.out.c4; replace c_l := C.out.lt; replace i_0 := I.out.c0; replace i_1 := I.out.c1; replace i_l := I.out.lt; replace r_0 := R.out.c0; replace r_1 := R.out.c1; replace r_l := R.out.lt; replace o_0 := O.out.c0; replace o_1 := O.out.c1; replace o_l := O.out.lt; replace o_f0 := O.out.free 0; replace o_f1 := O.out.free 1; clear b2 VI))
    refine bodyPost_ret (v := .tuple #[.agg #[.int .i64 (0), .int .i64 (0)], .int .i64 22]) (by simp [results, Try.results20, go_sem, o_0, o_1, o_l]) rfl ⟨rfl, ?_⟩
    exact (BB.out.setCell (p := ⟨w.heap.size + 1 + 1 + 1, 0, none⟩) (show w.heap.size ≤ w.heap.size + 1 + 1 + 1 by omega) _).setCell (p := ⟨w.heap.size + 1 + 1 + 1, 1, none⟩) (show w.heap.size ≤ w.heap.size + 1 + 1 + 1 by omega) _
  have dg4 : decide (h - p3 < 0) = false := by simp; omega
  rw [RG (by omega)]
  clear RB RG
  clear ie Q1 Q2 hs il ih
  unfold chV rgV
  dsimp only
  obtain ⟨W, hW⟩ : ∃ W, ((((w.alloc (.cells #[.int .i64 t, .int .i64 a, .int .i64 b, .int .i64 c, .int .i64 d] 24)).alloc (.cells #[.int .i64 l, .int .i64 h] 26)).alloc (.cells #[.int .i64 x, .int .i64 y] 27)).alloc (.cells #[.int .i64 0, .int .i64 0] 26)) = W := ⟨_, rfl⟩
  have C : Hid (Five W (w.heap.size) 24 (.int .i64 t) (.int .i64 a) (.int .i64 b) (.int .i64 c) (.int .i64 d)) := by
    rw [← hW]
    have k := Five.new w 24 (.int .i64 t) (.int .i64 a) (.int .i64 b) (.int .i64 c) (.int .i64 d)
    exact (((k).alloc _).alloc _).alloc _
  have I : Hid (Two W (w.heap.size + 1) 26 (.int .i64 l) (.int .i64 h)) := by
    rw [← hW]
    have k := Two.new (w.alloc (.cells #[.int .i64 t, .int .i64 a, .int .i64 b, .int .i64 c, .int .i64 d] 24)) 26 (.int .i64 l) (.int .i64 h)
    rw [show (w.alloc (.cells #[.int .i64 t, .int .i64 a, .int .i64 b, .int .i64 c, .int .i64 d] 24)).heap.size = w.heap.size + 1 by simp] at k
    exact ((k).alloc _).alloc _
  have R : Hid (Two W (w.heap.size + 1 + 1) 27 (.int .i64 x) (.int .i64 y)) := by
    rw [← hW]
    have k := Two.new ((w.alloc (.cells #[.int .i64 t, .int .i64 a, .int .i64 b, .int .i64 c, .int .i64 d] 24)).alloc (.cells #[.int .i64 l, .int .i64 h] 26)) 27 (.int .i64 x) (.int .i64 y)
    rw [show ((w.alloc (.cells #[.int .i64 t, .int .i64 a, .int .i64 b, .int .i64 c, .int .i64 d] 24)).alloc (.cells #[.int .i64 l, .int .i64 h] 26)).heap.size = w.heap.size + 1 + 1 by simp] at k
    exact (k).alloc _
  have O : Hid (Two W (w.heap.size + 1 + 1 + 1) 26 (.int .i64 0) (.int .i64 0)) := by
    rw [← hW]
    have k := Two.new (((w.alloc (.cells #[.int .i64 t, .int .i64 a, .int .i64 b, .int .i64 c, .int .i64 d] 24)).alloc (.cells #[.int .i64 l, .int .i64 h] 26)).alloc (.cells #[.int .i64 x, .int .i64 y] 27)) 26 (.int .i64 0) (.int .i64 0)
    rw [show (((w.alloc (.cells #[.int .i64 t, .int .i64 a, .int .i64 b, .int .i64 c, .int .i64 d] 24)).alloc (.cells #[.int .i64 l, .int .i64 h] 26)).alloc (.cells #[.int .i64 x, .int .i64 y] 27)).heap.size = w.heap.size + 1 + 1 + 1 by simp] at k
    exact k
  have BB : Hid (Below w.heap.size w W) := by rw [← hW]; exact (((below_alloc w _).alloc (by simp) _).alloc (by simp; omega) _).alloc (by simp; omega) _
  have c_0 := C.out.c0
  have c_1 := C.out.c1
  have c_2 := C.out.c2
  have c_3 := C.out.c3
  have c_4 := C.out.c4
  have c_l := C.out.lt
  have i_0 := I.out.c0
  have i_1 := I.out.c1
  have i_l := I.out.lt
  have r_0 := R.out.c0
  have r_1 := R.out.c1
  have r_l := R.out.lt
  have o_0 := O.out.c0
  have o_1 := O.out.c1
  have o_l := O.out.lt
  have o_f0 := O.out.free 0
  have o_f1 := O.out.free 1
  go_enter Try.func20, Try.ntmps20
  go_wp2_with (first
    | (go_at_call 21; (with_reducible refine (FO.out _).mono ?_); rintro e w1 ⟨rfl, b1⟩; replace C := Lib.hid (C.out.below b1 C.out.lt); replace I := Lib.hid (I.out.below b1 I.out.lt); replace R := Lib.hid (R.out.below b1 R.out.lt); replace O := Lib.hid (O.out.below b1 O.out.lt); replace BB := Lib.hid (below_more BB.out b1); replace c_0 := C.out.c0; replace c_1 := C.out.c1; replace c_2 := C.out.c2; replace c_3 := C.out.c3; replace c_4 := C.out.c4; replace c_l := C.out.lt; replace i_0 := I.out.c0; replace i_1 := I.out.c1; replace i_l := I.out.lt; replace r_0 := R.out.c0; replace r_1 := R.out.c1; replace r_l := R.out.lt; replace o_0 := O.out.c0; replace o_1 := O.out.c1; replace o_l := O.out.lt; replace o_f0 := O.out.free 0; replace o_f1 := O.out.free 1; clear b1 FO)
    | (go_at_call 25; (with_reducible refine (VI.out _).mono ?_); rintro e w2 ⟨rfl, b2⟩; replace C := Lib.hid (C.out.below b2 C.out.lt); replace I := Lib.hid (I.out.below b2 I.out.lt); replace R := Lib.hid (R.out.below b2 R.out.lt); replace O := Lib.hid (O.out.below b2 O.out.lt); replace BB := Lib.hid (below_more BB.out b2); replace c_0 := C.out.c0; replace c_1 := C.out.c1; replace c_2 := C.out.c2; replace c_3 := C.out.c3; replace c_4 := C.out.c4; replace c_l := C.out.lt; replace i_0 := I.out.c0; replace i_1 := I.out.c1; replace i_l := I.out.lt; replace r_0 := R.out.c0; replace r_1 := R.out.c1; replace r_l := R.out.lt; replace o_0 := O.out.c0; replace o_1 := O.out.c1; replace o_l := O.out.lt; replace o_f0 := O.out.free 0; replace o_f1 := O.out.free 1; clear b2 VI))
  refine bodyPost_ret (v := .tuple #[.agg #[.int .i64 (max 0 (l - p4)), .int .i64 (h - p3)], .int .i64 0]) (by simp [results, Try.results20, go_sem, o_0, o_1, o_l]) rfl ⟨rfl, ?_⟩
  exact (BB.out.setCell (p := ⟨w.heap.size + 1 + 1 + 1, 0, none⟩) (show w.heap.size ≤ w.heap.size + 1 + 1 + 1 by omega) _).setCell (p := ⟨w.heap.size + 1 + 1 + 1, 1, none⟩) (show w.heap.size ≤ w.heap.size + 1 + 1 + 1 by omega) _
end Go.Proofs.Ytkeahbdeddjoeaa
