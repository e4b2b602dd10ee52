/- Layer 10: package link's closures, answered, Sent, Got and Round (gen/gen_prog.py writes this). -/
import Derived.Test.YtkeahbdeddjoeaaGSm
namespace Go.Proofs.Ytkeahbdeddjoeaa
open Go.RowKit Go
set_option linter.unusedVariables false
set_option linter.unusedSimpArgs false

set_option maxRecDepth 100000 in
set_option maxHeartbeats 8000000 in
theorem gsent1_any (t a b c d l h : Int) (gc gs : Nat) (hf : (Ch.mk t a b c d).Form) (hi : IvOk l h) (v : Int × Int × Int) (hv : (if h - a < 0 then (0, 0, 22) else (max 0 (l - b), h - a, 0)) = v) (w : World) (hC : Five w gc 24 (.int .i64 t) (.int .i64 a) (.int .i64 b) (.int .i64 c) (.int .i64 d)) (hS : Two w gs 26 (.int .i64 l) (.int .i64 h)) :
    Calls Try.prog 36 #[.pointer (some ⟨gs, 0, none⟩), .pointer (some ⟨gc, 0, none⟩)] w (Gives (.tuple #[rgV v.1 v.2.1, .int .i64 v.2.2]) w) := by
  obtain ⟨⟨a1, a2, a3⟩, c1, c2, c3⟩ := hf
  obtain ⟨i1, i2, i3⟩ := id hi
  dsimp only at a1 a2 a3 c1 c2 c3
  have BE := Lib.hid (gbefore_any l h a b hi (by omega) (by omega) (by omega) (by omega) v hv)
  clear hv
  obtain ⟨v1, v2, v3⟩ := v
  unfold rgV at BE ⊢
  dsimp only at BE ⊢
  obtain ⟨W, hW⟩ : ∃ W, w.alloc (.cells #[.int .i64 0, .int .i64 0] 26) = W := ⟨_, rfl⟩
  have C : Hid (Five W (gc) 24 (.int .i64 t) (.int .i64 a) (.int .i64 b) (.int .i64 c) (.int .i64 d)) := by rw [← hW]; exact hC.alloc _
  have S : Hid (Two W (gs) 26 (.int .i64 l) (.int .i64 h)) := by rw [← hW]; exact hS.alloc _
  have R : Hid (Two W (w.heap.size) 26 (.int .i64 0) (.int .i64 0)) := by rw [← hW]; exact Two.new w 26 (.int .i64 0) (.int .i64 0)
  have Gr : Hid (w.heap.size ≤ w.heap.size) := Nat.le_refl _
  have BB : Hid (Below w.heap.size w W) := by rw [← hW]; exact below_alloc w _
  clear hC hS
  have c_0 := C.out.c0
  have c_1 := C.out.c1
  have c_2 := C.out.c2
  have c_3 := C.out.c3
  have c_4 := C.out.c4
  have c_l := C.out.lt
  have s_0 := S.out.c0
  have s_1 := S.out.c1
  have s_l := S.out.lt
  have r_0 := R.out.c0
  have r_1 := R.out.c1
  have r_l := R.out.lt
  have r_f0 := R.out.free 0
  have r_f1 := R.out.free 1
  go_enter Try.func36, Try.ntmps36
  go_wp2_with (go_at_call 37; (with_reducible refine (BE.out _).mono ?_); rintro e w1 ⟨rfl, b1⟩; replace C := Lib.hid (C.out.below b1 C.out.lt); replace S := Lib.hid (S.out.below b1 S.out.lt); replace R := Lib.hid (R.out.below b1 R.out.lt); replace BB := Lib.hid (below_more BB.out b1); replace c_0 := C.out.c0; replace c_1 := C.out.c1; replace c_2 := C.out.c2; replace c_3 := C.out.c3; replace c_4 := C.out.c4; replace c_l := C.out.lt; replace s_0 := S.out.c0; replace s_1 := S.out.c1; replace s_l := S.out.lt; replace r_0 := R.out.c0; replace r_1 := R.out.c1; replace r_l := R.out.lt; replace r_f0 := R.out.free 0; replace r_f1 := R.out.free 1; clear b1 BE)
  refine bodyPost_ret (v := .tuple #[.agg #[.int .i64 (v1), .int .i64 (v2)], .int .i64 v3]) (by simp [results, Try.results36, go_sem, r_0, r_1, r_l]) rfl ⟨rfl, ?_⟩
  have bz := BB.out.setCell (p := ⟨w.heap.size, 0, none⟩) (by first | exact Gr.out | (show w.heap.size ≤ w.heap.size; omega)) (.int .i64 (v1))
  have bz2 := bz.setCell (p := ⟨w.heap.size, 1, none⟩) (by first | exact Gr.out | (show w.heap.size ≤ w.heap.size; omega)) (.int .i64 (v2))
  exact bz2
set_option maxRecDepth 100000 in
set_option maxHeartbeats 8000000 in
theorem ggot1_any (t a b c d l h : Int) (gc gs : Nat) (hf : (Ch.mk t a b c d).Form) (hi : IvOk l h) (v : Int × Int × Int) (hv : (if 3000000000000000 < h + d then (0, 0, 3) else (l + c, h + d, 0)) = v) (w : World) (hC : Five w gc 24 (.int .i64 t) (.int .i64 a) (.int .i64 b) (.int .i64 c) (.int .i64 d)) (hS : Two w gs 26 (.int .i64 l) (.int .i64 h)) :
    Calls Try.prog 38 #[.pointer (some ⟨gs, 0, none⟩), .pointer (some ⟨gc, 0, none⟩)] w (Gives (.tuple #[rgV v.1 v.2.1, .int .i64 v.2.2]) w) := by
  obtain ⟨⟨a1, a2, a3⟩, c1, c2, c3⟩ := hf
  obtain ⟨i1, i2, i3⟩ := id hi
  dsimp only at a1 a2 a3 c1 c2 c3
  unfold rgV
  by_cases g : 3000000000000000 < h + d
  · rw [if_pos g] at hv
    subst hv
    have dg : decide (3000000000000000 < h + d) = true := by simp; omega
    dsimp only
    clear g hi
    obtain ⟨W, hW⟩ : ∃ W, w.alloc (.cells #[.int .i64 0, .int .i64 0] 26) = W := ⟨_, rfl⟩
    have C : Hid (Five W (gc) 24 (.int .i64 t) (.int .i64 a) (.int .i64 b) (.int .i64 c) (.int .i64 d)) := by rw [← hW]; exact hC.alloc _
    have S : Hid (Two W (gs) 26 (.int .i64 l) (.int .i64 h)) := by rw [← hW]; exact hS.alloc _
    have R : Hid (Two W (w.heap.size) 26 (.int .i64 0) (.int .i64 0)) := by rw [← hW]; exact Two.new w 26 (.int .i64 0) (.int .i64 0)
    have Gr : Hid (w.heap.size ≤ w.heap.size) := Nat.le_refl _
    have BB : Hid (Below w.heap.size w W) := by rw [← hW]; exact below_alloc w _
    clear hC hS
    have c_0 := C.out.c0
    have c_1 := C.out.c1
    have c_2 := C.out.c2
    have c_3 := C.out.c3
    have c_4 := C.out.c4
    have c_l := C.out.lt
    have s_0 := S.out.c0
    have s_1 := S.out.c1
    have s_l := S.out.lt
    have r_0 := R.out.c0
    have r_1 := R.out.c1
    have r_l := R.out.lt
    have r_f0 := R.out.free 0
    have r_f1 := R.out.free 1
    have RN : Hid (Two (W.alloc (.cells #[.int .i64 (l + c), .int .i64 (h + d)] 26)) w.heap.size 26 (.int .i64 0) (.int .i64 0)) := R.out.alloc _
    have n_0 := RN.out.c0
    have n_1 := RN.out.c1
    have n_l := RN.out.lt
    have n_f0 := RN.out.free 0
    have n_f1 := RN.out.free 1
    clear RN
    go_enter Try.func38, Try.ntmps38
    go_wp2_with fail
    refine bodyPost_ret (v := .tuple #[.agg #[.int .i64 (0), .int .i64 (0)], .int .i64 3]) (by simp [results, Try.results38, go_sem, r_0, r_1, r_l, n_0, n_1, n_l]) rfl ⟨rfl, ?_⟩
    have bz := BB.out.setCell (p := ⟨w.heap.size, 0, none⟩) (by first | exact Gr.out | (show w.heap.size ≤ w.heap.size; omega)) (.int .i64 (0))
    have bz2 := bz.setCell (p := ⟨w.heap.size, 1, none⟩) (by first | exact Gr.out | (show w.heap.size ≤ w.heap.size; omega)) (.int .i64 (0))
    exact bz2.alloc bz2.size _
  · rw [if_neg g] at hv
    subst hv
    have dg : decide (3000000000000000 < h + d) = false := by simp; omega
    dsimp only
    clear g hi
    obtain ⟨W, hW⟩ : ∃ W, w.alloc (.cells #[.int .i64 0, .int .i64 0] 26) = W := ⟨_, rfl⟩
    have C : Hid (Five W (gc) 24 (.int .i64 t) (.int .i64 a) (.int .i64 b) (.int .i64 c) (.int .i64 d)) := by rw [← hW]; exact hC.alloc _
    have S : Hid (Two W (gs) 26 (.int .i64 l) (.int .i64 h)) := by rw [← hW]; exact hS.alloc _
    have R : Hid (Two W (w.heap.size) 26 (.int .i64 0) (.int .i64 0)) := by rw [← hW]; exact Two.new w 26 (.int .i64 0) (.int .i64 0)
    have Gr : Hid (w.heap.size ≤ w.heap.size) := Nat.le_refl _
    have BB : Hid (Below w.heap.size w W) := by rw [← hW]; exact below_alloc w _
    clear hC hS
    have c_0 := C.out.c0
    have c_1 := C.out.c1
    have c_2 := C.out.c2
    have c_3 := C.out.c3
    have c_4 := C.out.c4
    have c_l := C.out.lt
    have s_0 := S.out.c0
    have s_1 := S.out.c1
    have s_l := S.out.lt
    have r_0 := R.out.c0
    have r_1 := R.out.c1
    have r_l := R.out.lt
    have r_f0 := R.out.free 0
    have r_f1 := R.out.free 1
    have RN : Hid (Two (W.alloc (.cells #[.int .i64 (l + c), .int .i64 (h + d)] 26)) w.heap.size 26 (.int .i64 0) (.int .i64 0)) := R.out.alloc _
    have n_0 := RN.out.c0
    have n_1 := RN.out.c1
    have n_l := RN.out.lt
    have n_f0 := RN.out.free 0
    have n_f1 := RN.out.free 1
    clear RN
    go_enter Try.func38, Try.ntmps38
    go_wp2_with fail
    refine bodyPost_ret (v := .tuple #[.agg #[.int .i64 (l + c), .int .i64 (h + d)], .int .i64 0]) (by simp [results, Try.results38, go_sem, r_0, r_1, r_l, n_0, n_1, n_l]) rfl ⟨rfl, ?_⟩
    have bz := BB.out.setCell (p := ⟨w.heap.size, 0, none⟩) (by first | exact Gr.out | (show w.heap.size ≤ w.heap.size; omega)) (.int .i64 (l + c))
    have bz2 := bz.setCell (p := ⟨w.heap.size, 1, none⟩) (by first | exact Gr.out | (show w.heap.size ≤ w.heap.size; omega)) (.int .i64 (h + d))
    exact bz2.alloc bz2.size _
set_option maxRecDepth 100000 in
set_option maxHeartbeats 8000000 in
theorem ground1_any (t a b c d l h x y : Int) (gc gs ge : Nat) (hf : (Ch.mk t a b c d).Form) (hi : IvOk l h) (hx : I64 x) (hy : I64 y) (v : Int × Int × Int) (hv : (if IvOk x y then (if min b (y - c) < max a (x - d) ∨ h - max a (x - d) < 0 then (0, 0, 22) else (max 0 (l - min b (y - c)), h - max a (x - d), 0)) else (0, 0, 1)) = v) (w : World) (hC : Five w gc 24 (.int .i64 t) (.int .i64 a) (.int .i64 b) (.int .i64 c) (.int .i64 d)) (hS : Two w gs 26 (.int .i64 l) (.int .i64 h)) (hE : Two w ge 27 (.int .i64 x) (.int .i64 y)) :
    Calls Try.prog 39 #[.pointer (some ⟨ge, 0, none⟩), .pointer (some ⟨gc, 0, none⟩), .pointer (some ⟨gs, 0, none⟩)] w (Gives (.tuple #[rgV v.1 v.2.1, .int .i64 v.2.2]) w) := by
  obtain ⟨⟨a1, a2, a3⟩, c1, c2, c3⟩ := hf
  obtain ⟨i1, i2, i3⟩ := id hi
  dsimp only at a1 a2 a3 c1 c2 c3
  obtain ⟨x1, x2⟩ := hx
  obtain ⟨y1, y2⟩ := hy
  by_cases q : IvOk x y
  · have VE := Lib.hid (gvalid_any x y true ⟨fun _ => q, fun _ => rfl⟩)
    rw [if_pos q] at hv
    obtain ⟨q1, q2, q3⟩ := q
    obtain ⟨p, hp⟩ : ∃ p, max a (x - d) = p := ⟨_, rfl⟩
    obtain ⟨q, hq⟩ : ∃ q, min b (y - c) = q := ⟨_, rfl⟩
    rw [hp, hq] at hv
    by_cases g : q < p
    · rw [if_pos (.inl g)] at hv
      subst hv
      have dg : decide (q < p) = true := by simp; omega
      clear g hi
      unfold rgV at VE ⊢
      dsimp only
      obtain ⟨W, hW⟩ : ∃ W, w.alloc (.cells #[.int .i64 0, .int .i64 0] 26) = W := ⟨_, rfl⟩
      have E : Hid (Two W (ge) 27 (.int .i64 x) (.int .i64 y)) := by rw [← hW]; exact hE.alloc _
      have C : Hid (Five W (gc) 24 (.int .i64 t) (.int .i64 a) (.int .i64 b) (.int .i64 c) (.int .i64 d)) := by rw [← hW]; exact hC.alloc _
      have S : Hid (Two W (gs) 26 (.int .i64 l) (.int .i64 h)) := by rw [← hW]; exact hS.alloc _
      have R : Hid (Two W (w.heap.size) 26 (.int .i64 0) (.int .i64 0)) := by rw [← hW]; exact Two.new w 26 (.int .i64 0) (.int .i64 0)
      have Gr : Hid (w.heap.size ≤ w.heap.size) := Nat.le_refl _
      have BB : Hid (Below w.heap.size w W) := by rw [← hW]; exact below_alloc w _
      clear hE hC hS
      have e_0 := E.out.c0
      have e_1 := E.out.c1
      have e_l := E.out.lt
      have c_0 := C.out.c0
      have c_1 := C.out.c1
      have c_2 := C.out.c2
      have c_3 := C.out.c3
      have c_4 := C.out.c4
      have c_l := C.out.lt
      have s_0 := S.out.c0
      have s_1 := S.out.c1
      have s_l := S.out.lt
      have r_0 := R.out.c0
      have r_1 := R.out.c1
      have r_l := R.out.lt
      have r_f0 := R.out.free 0
      have r_f1 := R.out.free 1
      go_enter Try.func39, Try.ntmps39
      go_wp2_with (go_at_call 28; (with_reducible refine (VE.out _).mono ?_); rintro e w1 ⟨rfl, b1⟩; have B9 := Lib.hid (below_more BB.out b1); replace E := Lib.hid (E.out.below b1 E.out.lt); replace C := Lib.hid (C.out.below b1 C.out.lt); replace S := Lib.hid (S.out.below b1 S.out.lt); replace R := Lib.hid (R.out.below b1 R.out.lt); replace BB := Lib.hid (below_more BB.out b1); replace e_0 := E.out.c0; replace e_1 := E.out.c1; replace e_l := E.out.lt; replace c_0 := C.out.c0; replace c_1 := C.out.c1; replace c_2 := C.out.c2; replace c_3 := C.out.c3; replace c_4 := C.out.c4; replace c_l := C.out.lt; replace s_0 := S.out.c0; replace s_1 := S.out.c1; replace s_l := S.out.lt; replace r_0 := R.out.c0; replace r_1 := R.out.c1; replace r_l := R.out.lt; replace r_f0 := R.out.free 0; replace r_f1 := R.out.free 1; have NEro := Lib.hid (Nat.ne_of_lt R.out.lt); have Go := Lib.hid BB.out.size; have Ea := Lib.hid (E.out.alloc (.cells #[.int .i64 p, .int .i64 q] 27)); have Ca := Lib.hid (C.out.alloc (.cells #[.int .i64 p, .int .i64 q] 27)); have Sa := Lib.hid (S.out.alloc (.cells #[.int .i64 p, .int .i64 q] 27)); have Ra := Lib.hid (R.out.alloc (.cells #[.int .i64 p, .int .i64 q] 27)); have Oa := Lib.hid (Two.new w1 27 (.int .i64 p) (.int .i64 q)); have ea_0 := Ea.out.c0; have ea_1 := Ea.out.c1; have ea_l := Ea.out.lt; have ca_0 := Ca.out.c0; have ca_1 := Ca.out.c1; have ca_2 := Ca.out.c2; have ca_3 := Ca.out.c3; have ca_4 := Ca.out.c4; have ca_l := Ca.out.lt; have sa_0 := Sa.out.c0; have sa_1 := Sa.out.c1; have sa_l := Sa.out.lt; have ra_0 := Ra.out.c0; have ra_1 := Ra.out.c1; have ra_l := Ra.out.lt; have ra_f0 := Ra.out.free 0; have ra_f1 := Ra.out.free 1; have oa_0 := Oa.out.c0; have oa_1 := Oa.out.c1; have oa_l := Oa.out.lt; replace BB := Lib.hid (BB.out.alloc BB.out.size (.cells #[.int .i64 p, .int .i64 q] 27)); replace E := Ea; replace C := Ca; replace S := Sa; replace R := Ra; have O := Oa; clear Ea Ca Sa Ra Oa; clear b1 VE)
      refine bodyPost_ret (v := .tuple #[.agg #[.int .i64 (0), .int .i64 (0)], .int .i64 22]) (by simp [results, Try.results39, go_sem, r_0, r_1, r_l]) rfl ⟨rfl, ?_⟩
      have bz := B9.out.setCell (p := ⟨w.heap.size, 0, none⟩) (by first | exact Gr.out | (show w.heap.size ≤ w.heap.size; omega)) (.int .i64 (0))
      have bz2 := bz.setCell (p := ⟨w.heap.size, 1, none⟩) (by first | exact Gr.out | (show w.heap.size ≤ w.heap.size; omega)) (.int .i64 (0))
      exact bz2.alloc bz2.size _
    · have BE := Lib.hid (gbefore_any l h p q hi (by omega) (by omega) (by omega) (by omega) v (by rw [← hv]; by_cases k : h - p < 0 <;> simp [k, g]))
      have dg : decide (q < p) = false := by simp; omega
      clear g hi hv
      obtain ⟨v1, v2, v3⟩ := v
      unfold rgV at VE BE ⊢
      dsimp only at BE ⊢
      obtain ⟨W, hW⟩ : ∃ W, w.alloc (.cells #[.int .i64 0, .int .i64 0] 26) = W := ⟨_, rfl⟩
      have E : Hid (Two W (ge) 27 (.int .i64 x) (.int .i64 y)) := by rw [← hW]; exact hE.alloc _
      have C : Hid (Five W (gc) 24 (.int .i64 t) (.int .i64 a) (.int .i64 b) (.int .i64 c) (.int .i64 d)) := by rw [← hW]; exact hC.alloc _
      have S : Hid (Two W (gs) 26 (.int .i64 l) (.int .i64 h)) := by rw [← hW]; exact hS.alloc _
      have R : Hid (Two W (w.heap.size) 26 (.int .i64 0) (.int .i64 0)) := by rw [← hW]; exact Two.new w 26 (.int .i64 0) (.int .i64 0)
      have Gr : Hid (w.heap.size ≤ w.heap.size) := Nat.le_refl _
      have BB : Hid (Below w.heap.size w W) := by rw [← hW]; exact below_alloc w _
      clear hE hC hS
      have e_0 := E.out.c0
      have e_1 := E.out.c1
      have e_l := E.out.lt
      have c_0 := C.out.c0
      have c_1 := C.out.c1
      have c_2 := C.out.c2
      have c_3 := C.out.c3
      have c_4 := C.out.c4
      have c_l := C.out.lt
      have s_0 := S.out.c0
      have s_1 := S.out.c1
      have s_l := S.out.lt
      have r_0 := R.out.c0
      have r_1 := R.out.c1
      have r_l := R.out.lt
      have r_f0 := R.out.free 0
      have r_f1 := R.out.free 1
      go_enter Try.func39, Try.ntmps39
      go_wp2_with (first
        | (go_at_call 28; (with_reducible refine (VE.out _).mono ?_); rintro e w1 ⟨rfl, b1⟩; replace E := Lib.hid (E.out.below b1 E.out.lt); replace C := Lib.hid (C.out.below b1 C.out.lt); replace S := Lib.hid (S.out.below b1 S.out.lt); replace R := Lib.hid (R.out.below b1 R.out.lt); replace BB := Lib.hid (below_more BB.out b1); replace e_0 := E.out.c0; replace e_1 := E.out.c1; replace e_l := E.out.lt; replace c_0 := C.out.c0; replace c_1 := C.out.c1; replace c_2 := C.out.c2; replace c_3 := C.out.c3; replace c_4 := C.out.c4; replace c_l := C.out.lt; replace s_0 := S.out.c0; replace s_1 := S.out.c1; replace s_l := S.out.lt; replace r_0 := R.out.c0; replace r_1 := R.out.c1; replace r_l := R.out.lt; replace r_f0 := R.out.free 0; replace r_f1 := R.out.free 1; have NEro := Lib.hid (Nat.ne_of_lt R.out.lt); have Go := Lib.hid BB.out.size; have Ea := Lib.hid (E.out.alloc (.cells #[.int .i64 p, .int .i64 q] 27)); have Ca := Lib.hid (C.out.alloc (.cells #[.int .i64 p, .int .i64 q] 27)); have Sa := Lib.hid (S.out.alloc (.cells #[.int .i64 p, .int .i64 q] 27)); have Ra := Lib.hid (R.out.alloc (.cells #[.int .i64 p, .int .i64 q] 27)); have Oa := Lib.hid (Two.new w1 27 (.int .i64 p) (.int .i64 q)); have ea_0 := Ea.out.c0; have ea_1 := Ea.out.c1; have ea_l := Ea.out.lt; have ca_0 := Ca.out.c0; have ca_1 := Ca.out.c1; have ca_2 := Ca.out.c2; have ca_3 := Ca.out.c3; have ca_4 := Ca.out.c4; have ca_l := Ca.out.lt; have sa_0 := Sa.out.c0; have sa_1 := Sa.out.c1; have sa_l := Sa.out.lt; have ra_0 := Ra.out.c0; have ra_1 := Ra.out.c1; have ra_l := Ra.out.lt; have ra_f0 := Ra.out.free 0; have ra_f1 := Ra.out.free 1; have oa_0 := Oa.out.c0; have oa_1 := Oa.out.c1; have oa_l := Oa.out.lt; replace BB := Lib.hid (BB.out.alloc BB.out.size (.cells #[.int .i64 p, .int .i64 q] 27)); replace E := Ea; replace C := Ca; replace S := Sa; replace R := Ra; have O := Oa; clear Ea Ca Sa Ra Oa; clear b1 VE)
        | (go_at_call 37; (with_reducible refine (BE.out _).mono ?_); rintro e w2 ⟨rfl, b2⟩; replace E := Lib.hid (E.out.below b2 E.out.lt); replace C := Lib.hid (C.out.below b2 C.out.lt); replace S := Lib.hid (S.out.below b2 S.out.lt); replace R := Lib.hid (R.out.below b2 R.out.lt); replace O := Lib.hid (O.out.below b2 O.out.lt); replace BB := Lib.hid (below_more BB.out b2); replace e_0 := E.out.c0; replace e_1 := E.out.c1; replace e_l := E.out.lt; replace c_0 := C.out.c0; replace c_1 := C.out.c1; replace c_2 := C.out.c2; replace c_3 := C.out.c3; replace c_4 := C.out.c4; replace c_l := C.out.lt; replace s_0 := S.out.c0; replace s_1 := S.out.c1; replace s_l := S.out.lt; replace r_0 := R.out.c0; replace r_1 := R.out.c1; replace r_l := R.out.lt; replace r_f0 := R.out.free 0; replace r_f1 := R.out.free 1; replace o_0 := O.out.c0; replace o_1 := O.out.c1; replace o_l := O.out.lt; clear b2 BE))
      refine bodyPost_ret (v := .tuple #[.agg #[.int .i64 (v1), .int .i64 (v2)], .int .i64 v3]) (by simp [results, Try.results39, go_sem, r_0, r_1, r_l]) rfl ⟨rfl, ?_⟩
      have bz := BB.out.setCell (p := ⟨w.heap.size, 0, none⟩) (by first | exact Gr.out | (show w.heap.size ≤ w.heap.size; omega)) (.int .i64 (v1))
      have bz2 := bz.setCell (p := ⟨w.heap.size, 1, none⟩) (by first | exact Gr.out | (show w.heap.size ≤ w.heap.size; omega)) (.int .i64 (v2))
      exact bz2
  · have VE := Lib.hid (gvalid_any x y false ⟨fun h => (by cases h), fun h => absurd h q⟩)
    rw [if_neg q] at hv
    subst hv
    clear q hi
    unfold rgV at VE ⊢
    dsimp only
    obtain ⟨W, hW⟩ : ∃ W, w.alloc (.cells #[.int .i64 0, .int .i64 0] 26) = W := ⟨_, rfl⟩
    have E : Hid (Two W (ge) 27 (.int .i64 x) (.int .i64 y)) := by rw [← hW]; exact hE.alloc _
    have C : Hid (Five W (gc) 24 (.int .i64 t) (.int .i64 a) (.int .i64 b) (.int .i64 c) (.int .i64 d)) := by rw [← hW]; exact hC.alloc _
    have S : Hid (Two W (gs) 26 (.int .i64 l) (.int .i64 h)) := by rw [← hW]; exact hS.alloc _
    have R : Hid (Two W (w.heap.size) 26 (.int .i64 0) (.int .i64 0)) := by rw [← hW]; exact Two.new w 26 (.int .i64 0) (.int .i64 0)
    have Gr : Hid (w.heap.size ≤ w.heap.size) := Nat.le_refl _
    have BB : Hid (Below w.heap.size w W) := by rw [← hW]; exact below_alloc w _
    clear hE hC hS
    have e_0 := E.out.c0
    have e_1 := E.out.c1
    have e_l := E.out.lt
    have c_0 := C.out.c0
    have c_1 := C.out.c1
    have c_2 := C.out.c2
    have c_3 := C.out.c3
    have c_4 := C.out.c4
    have c_l := C.out.lt
    have s_0 := S.out.c0
    have s_1 := S.out.c1
    have s_l := S.out.lt
    have r_0 := R.out.c0
    have r_1 := R.out.c1
    have r_l := R.out.lt
    have r_f0 := R.out.free 0
    have r_f1 := R.out.free 1
    go_enter Try.func39, Try.ntmps39
    go_wp2_with (go_at_call 28; (with_reducible refine (VE.out _).mono ?_); rintro e w1 ⟨rfl, b1⟩; replace E := Lib.hid (E.out.below b1 E.out.lt); replace C := Lib.hid (C.out.below b1 C.out.lt); replace S := Lib.hid (S.out.below b1 S.out.lt); replace R := Lib.hid (R.out.below b1 R.out.lt); replace BB := Lib.hid (below_more BB.out b1); replace e_0 := E.out.c0; replace e_1 := E.out.c1; replace e_l := E.out.lt; replace c_0 := C.out.c0; replace c_1 := C.out.c1; replace c_2 := C.out.c2; replace c_3 := C.out.c3; replace c_4 := C.out.c4; replace c_l := C.out.lt; replace s_0 := S.out.c0; replace s_1 := S.out.c1; replace s_l := S.out.lt; replace r_0 := R.out.c0; replace r_1 := R.out.c1; replace r_l := R.out.lt; replace r_f0 := R.out.free 0; replace r_f1 := R.out.free 1; clear b1 VE)
    refine bodyPost_ret (v := .tuple #[.agg #[.int .i64 (0), .int .i64 (0)], .int .i64 1]) (by simp [results, Try.results39, go_sem, r_0, r_1, r_l]) rfl ⟨rfl, ?_⟩
    have bz := BB.out.setCell (p := ⟨w.heap.size, 0, none⟩) (by first | exact Gr.out | (show w.heap.size ≤ w.heap.size; omega)) (.int .i64 (0))
    have bz2 := bz.setCell (p := ⟨w.heap.size, 1, none⟩) (by first | exact Gr.out | (show w.heap.size ≤ w.heap.size; omega)) (.int .i64 (0))
    exact bz2
set_option maxRecDepth 100000 in
set_option maxHeartbeats 8000000 in
theorem ganswer_sent (t a b c d l h : Int) (gs gc : Nat) (hs : (Ch.mk t a b c d).Int64) (il : I64 l) (ih : I64 h) (v u : Int × Int × Int) (w : World) (hu : (if (Ch.mk t a b c d).Form ∧ IvOk l h then v else (0, 0, 1)) = u)
    (H : (Ch.mk t a b c d).Form → IvOk l h → ∀ W, Below w.heap.size w W → Calls Try.prog 36 #[.pointer (some ⟨gs, 0, none⟩), .pointer (some ⟨gc, 0, none⟩)] W (Gives (.tuple #[rgV v.1 v.2.1, .int .i64 v.2.2]) W)) :
    Calls Try.prog 35 #[chV ⟨t, a, b, c, d⟩, rgV l h, .func (.func 36) #[] #[.pointer (some ⟨gs, 0, none⟩), .pointer (some ⟨gc, 0, none⟩)]] w (Gives (.tuple #[rgV u.1 u.2.1, .int .i64 u.2.2]) w) := by
  by_cases q1 : (Ch.mk t a b c d).Form
  · have FO := Lib.hid (gform_any ⟨t, a, b, c, d⟩ true ⟨fun _ => q1, fun _ => rfl⟩)
    by_cases q2 : IvOk l h
    · have VI := Lib.hid (gvalid_any l h true ⟨fun _ => q2, fun _ => rfl⟩)
      rw [if_pos ⟨q1, q2⟩] at hu
      subst hu
      have FN := Lib.hid (H q1 q2)
      clear H q1 q2
      obtain ⟨v1, v2, v3⟩ := v
      unfold chV at FO
      unfold rgV at VI FN
      unfold chV rgV
      dsimp only at *
      obtain ⟨W, hW⟩ : ∃ W, (((w.alloc (.cells #[.int .i64 t, .int .i64 a, .int .i64 b, .int .i64 c, .int .i64 d] 24)).alloc (.cells #[.int .i64 l, .int .i64 h] 26)).alloc (.cells #[.int .i64 0, .int .i64 0] 26)) = W := ⟨_, rfl⟩
      have C : Hid (Five W (w.heap.size) 24 (.int .i64 t) (.int .i64 a) (.int .i64 b) (.int .i64 c) (.int .i64 d)) := by
        rw [← hW]
        have k := Five.new w 24 (.int .i64 t) (.int .i64 a) (.int .i64 b) (.int .i64 c) (.int .i64 d)
        exact ((k).alloc _).alloc _
      have S : Hid (Two W (w.heap.size + 1) 26 (.int .i64 l) (.int .i64 h)) := by
        rw [← hW]
        have k := Two.new (w.alloc (.cells #[.int .i64 t, .int .i64 a, .int .i64 b, .int .i64 c, .int .i64 d] 24)) 26 (.int .i64 l) (.int .i64 h)
        rw [show (w.alloc (.cells #[.int .i64 t, .int .i64 a, .int .i64 b, .int .i64 c, .int .i64 d] 24)).heap.size = w.heap.size + 1 by simp] at k
        exact (k).alloc _
      have R : Hid (Two W (w.heap.size + 1 + 1) 26 (.int .i64 0) (.int .i64 0)) := by
        rw [← hW]
        have k := Two.new ((w.alloc (.cells #[.int .i64 t, .int .i64 a, .int .i64 b, .int .i64 c, .int .i64 d] 24)).alloc (.cells #[.int .i64 l, .int .i64 h] 26)) 26 (.int .i64 0) (.int .i64 0)
        rw [show ((w.alloc (.cells #[.int .i64 t, .int .i64 a, .int .i64 b, .int .i64 c, .int .i64 d] 24)).alloc (.cells #[.int .i64 l, .int .i64 h] 26)).heap.size = w.heap.size + 1 + 1 by simp] at k
        exact k
      have BB : Hid (Below w.heap.size w W) := by rw [← hW]; exact ((below_alloc w _).alloc (by simp) _).alloc (by simp; omega) _
      have c_0 := C.out.c0
      have c_1 := C.out.c1
      have c_2 := C.out.c2
      have c_3 := C.out.c3
      have c_4 := C.out.c4
      have c_l := C.out.lt
      have s_0 := S.out.c0
      have s_1 := S.out.c1
      have s_l := S.out.lt
      have r_0 := R.out.c0
      have r_1 := R.out.c1
      have r_l := R.out.lt
      have r_f0 := R.out.free 0
      have r_f1 := R.out.free 1
      have Gr : Hid (w.heap.size ≤ w.heap.size + 1 + 1) := by unfold Hid; omega
      go_enter Try.func35, Try.ntmps35
      go_wp2_with (first
        | (go_at_call 34; (with_reducible refine (FO.out _).mono ?_); rintro e w1 ⟨rfl, b1⟩; replace C := Lib.hid (C.out.below b1 C.out.lt); replace S := Lib.hid (S.out.below b1 S.out.lt); replace R := Lib.hid (R.out.below b1 R.out.lt); replace BB := Lib.hid (below_more BB.out b1); replace c_0 := C.out.c0; replace c_1 := C.out.c1; replace c_2 := C.out.c2; replace c_3 := C.out.c3; replace c_4 := C.out.c4; replace c_l := C.out.lt; replace s_0 := S.out.c0; replace s_1 := S.out.c1; replace s_l := S.out.lt; replace r_0 := R.out.c0; replace r_1 := R.out.c1; replace r_l := R.out.lt; replace r_f0 := R.out.free 0; replace r_f1 := R.out.free 1; clear b1 FO)
        | (go_at_call 28; (with_reducible refine (VI.out _).mono ?_); rintro e w2 ⟨rfl, b2⟩; replace C := Lib.hid (C.out.below b2 C.out.lt); replace S := Lib.hid (S.out.below b2 S.out.lt); replace R := Lib.hid (R.out.below b2 R.out.lt); replace BB := Lib.hid (below_more BB.out b2); replace c_0 := C.out.c0; replace c_1 := C.out.c1; replace c_2 := C.out.c2; replace c_3 := C.out.c3; replace c_4 := C.out.c4; replace c_l := C.out.lt; replace s_0 := S.out.c0; replace s_1 := S.out.c1; replace s_l := S.out.lt; replace r_0 := R.out.c0; replace r_1 := R.out.c1; replace r_l := R.out.lt; replace r_f0 := R.out.free 0; replace r_f1 := R.out.free 1; clear b2 VI)
        | (go_at_call 36; (with_reducible refine (FN.out _ BB.out).mono ?_); rintro e w3 ⟨rfl, b3⟩; replace C := Lib.hid (C.out.below b3 C.out.lt); replace S := Lib.hid (S.out.below b3 S.out.lt); replace R := Lib.hid (R.out.below b3 R.out.lt); replace BB := Lib.hid (below_more BB.out b3); replace c_0 := C.out.c0; replace c_1 := C.out.c1; replace c_2 := C.out.c2; replace c_3 := C.out.c3; replace c_4 := C.out.c4; replace c_l := C.out.lt; replace s_0 := S.out.c0; replace s_1 := S.out.c1; replace s_l := S.out.lt; replace r_0 := R.out.c0; replace r_1 := R.out.c1; replace r_l := R.out.lt; replace r_f0 := R.out.free 0; replace r_f1 := R.out.free 1; clear b3 FN))
      refine bodyPost_ret (v := .tuple #[.agg #[.int .i64 (v1), .int .i64 (v2)], .int .i64 v3]) (by simp [results, Try.results35, go_sem, r_0, r_1, r_l]) rfl ⟨rfl, ?_⟩
      have bz := BB.out.setCell (p := ⟨w.heap.size + 1 + 1, 0, none⟩) (by first | exact Gr.out | (show w.heap.size ≤ w.heap.size + 1 + 1; omega)) (.int .i64 (v1))
      have bz2 := bz.setCell (p := ⟨w.heap.size + 1 + 1, 1, none⟩) (by first | exact Gr.out | (show w.heap.size ≤ w.heap.size + 1 + 1; omega)) (.int .i64 (v2))
      exact bz2
    · have VI := Lib.hid (gvalid_any l h false ⟨fun h => (by cases h), fun h => absurd h q2⟩)
      rw [if_neg (fun k => q2 k.2)] at hu
      subst hu
      clear H q1 q2
      unfold chV at FO
      unfold rgV at VI
      unfold chV rgV
      dsimp only at *
      obtain ⟨W, hW⟩ : ∃ W, (((w.alloc (.cells #[.int .i64 t, .int .i64 a, .int .i64 b, .int .i64 c, .int .i64 d] 24)).alloc (.cells #[.int .i64 l, .int .i64 h] 26)).alloc (.cells #[.int .i64 0, .int .i64 0] 26)) = W := ⟨_, rfl⟩
      have C : Hid (Five W (w.heap.size) 24 (.int .i64 t) (.int .i64 a) (.int .i64 b) (.int .i64 c) (.int .i64 d)) := by
        rw [← hW]
        have k := Five.new w 24 (.int .i64 t) (.int .i64 a) (.int .i64 b) (.int .i64 c) (.int .i64 d)
        exact ((k).alloc _).alloc _
      have S : Hid (Two W (w.heap.size + 1) 26 (.int .i64 l) (.int .i64 h)) := by
        rw [← hW]
        have k := Two.new (w.alloc (.cells #[.int .i64 t, .int .i64 a, .int .i64 b, .int .i64 c, .int .i64 d] 24)) 26 (.int .i64 l) (.int .i64 h)
        rw [show (w.alloc (.cells #[.int .i64 t, .int .i64 a, .int .i64 b, .int .i64 c, .int .i64 d] 24)).heap.size = w.heap.size + 1 by simp] at k
        exact (k).alloc _
      have R : Hid (Two W (w.heap.size + 1 + 1) 26 (.int .i64 0) (.int .i64 0)) := by
        rw [← hW]
        have k := Two.new ((w.alloc (.cells #[.int .i64 t, .int .i64 a, .int .i64 b, .int .i64 c, .int .i64 d] 24)).alloc (.cells #[.int .i64 l, .int .i64 h] 26)) 26 (.int .i64 0) (.int .i64 0)
        rw [show ((w.alloc (.cells #[.int .i64 t, .int .i64 a, .int .i64 b, .int .i64 c, .int .i64 d] 24)).alloc (.cells #[.int .i64 l, .int .i64 h] 26)).heap.size = w.heap.size + 1 + 1 by simp] at k
        exact k
      have BB : Hid (Below w.heap.size w W) := by rw [← hW]; exact ((below_alloc w _).alloc (by simp) _).alloc (by simp; omega) _
      have c_0 := C.out.c0
      have c_1 := C.out.c1
      have c_2 := C.out.c2
      have c_3 := C.out.c3
      have c_4 := C.out.c4
      have c_l := C.out.lt
      have s_0 := S.out.c0
      have s_1 := S.out.c1
      have s_l := S.out.lt
      have r_0 := R.out.c0
      have r_1 := R.out.c1
      have r_l := R.out.lt
      have r_f0 := R.out.free 0
      have r_f1 := R.out.free 1
      have Gr : Hid (w.heap.size ≤ w.heap.size + 1 + 1) := by unfold Hid; omega
      go_enter Try.func35, Try.ntmps35
      go_wp2_with (first
        | (go_at_call 34; (with_reducible refine (FO.out _).mono ?_); rintro e w1 ⟨rfl, b1⟩; replace C := Lib.hid (C.out.below b1 C.out.lt); replace S := Lib.hid (S.out.below b1 S.out.lt); replace R := Lib.hid (R.out.below b1 R.out.lt); replace BB := Lib.hid (below_more BB.out b1); replace c_0 := C.out.c0; replace c_1 := C.out.c1; replace c_2 := C.out.c2; replace c_3 := C.out.c3; replace c_4 := C.out.c4; replace c_l := C.out.lt; replace s_0 := S.out.c0; replace s_1 := S.out.c1; replace s_l := S.out.lt; replace r_0 := R.out.c0; replace r_1 := R.out.c1; replace r_l := R.out.lt; replace r_f0 := R.out.free 0; replace r_f1 := R.out.free 1; clear b1 FO)
        | (go_at_call 28; (with_reducible refine (VI.out _).mono ?_); rintro e w2 ⟨rfl, b2⟩; replace C := Lib.hid (C.out.below b2 C.out.lt); replace S := Lib.hid (S.out.below b2 S.out.lt); replace R := Lib.hid (R.out.below b2 R.out.lt); replace BB := Lib.hid (below_more BB.out b2); replace c_0 := C.out.c0; replace c_1 := C.out.c1; replace c_2 := C.out.c2; replace c_3 := C.out.c3; replace c_4 := C.out.c4; replace c_l := C.out.lt; replace s_0 := S.out.c0; replace s_1 := S.out.c1; replace s_l := S.out.lt; replace r_0 := R.out.c0; replace r_1 := R.out.c1; replace r_l := R.out.lt; replace r_f0 := R.out.free 0; replace r_f1 := R.out.free 1; clear b2 VI))
      refine bodyPost_ret (v := .tuple #[.agg #[.int .i64 (0), .int .i64 (0)], .int .i64 1]) (by simp [results, Try.results35, go_sem, r_0, r_1, r_l]) rfl ⟨rfl, ?_⟩
      have bz := BB.out.setCell (p := ⟨w.heap.size + 1 + 1, 0, none⟩) (by first | exact Gr.out | (show w.heap.size ≤ w.heap.size + 1 + 1; omega)) (.int .i64 (0))
      have bz2 := bz.setCell (p := ⟨w.heap.size + 1 + 1, 1, none⟩) (by first | exact Gr.out | (show w.heap.size ≤ w.heap.size + 1 + 1; omega)) (.int .i64 (0))
      exact bz2
  · have FO := Lib.hid (gform_any ⟨t, a, b, c, d⟩ false ⟨fun h => (by cases h), fun h => absurd h q1⟩)
    rw [if_neg (fun k => q1 k.1)] at hu
    subst hu
    clear H q1
    unfold chV at FO
    unfold chV rgV
    dsimp only at *
    obtain ⟨W, hW⟩ : ∃ W, (((w.alloc (.cells #[.int .i64 t, .int .i64 a, .int .i64 b, .int .i64 c, .int .i64 d] 24)).alloc (.cells #[.int .i64 l, .int .i64 h] 26)).alloc (.cells #[.int .i64 0, .int .i64 0] 26)) = W := ⟨_, rfl⟩
    have C : Hid (Five W (w.heap.size) 24 (.int .i64 t) (.int .i64 a) (.int .i64 b) (.int .i64 c) (.int .i64 d)) := by
      rw [← hW]
      have k := Five.new w 24 (.int .i64 t) (.int .i64 a) (.int .i64 b) (.int .i64 c) (.int .i64 d)
      exact ((k).alloc _).alloc _
    have S : Hid (Two W (w.heap.size + 1) 26 (.int .i64 l) (.int .i64 h)) := by
      rw [← hW]
      have k := Two.new (w.alloc (.cells #[.int .i64 t, .int .i64 a, .int .i64 b, .int .i64 c, .int .i64 d] 24)) 26 (.int .i64 l) (.int .i64 h)
      rw [show (w.alloc (.cells #[.int .i64 t, .int .i64 a, .int .i64 b, .int .i64 c, .int .i64 d] 24)).heap.size = w.heap.size + 1 by simp] at k
      exact (k).alloc _
    have R : Hid (Two W (w.heap.size + 1 + 1) 26 (.int .i64 0) (.int .i64 0)) := by
      rw [← hW]
      have k := Two.new ((w.alloc (.cells #[.int .i64 t, .int .i64 a, .int .i64 b, .int .i64 c, .int .i64 d] 24)).alloc (.cells #[.int .i64 l, .int .i64 h] 26)) 26 (.int .i64 0) (.int .i64 0)
      rw [show ((w.alloc (.cells #[.int .i64 t, .int .i64 a, .int .i64 b, .int .i64 c, .int .i64 d] 24)).alloc (.cells #[.int .i64 l, .int .i64 h] 26)).heap.size = w.heap.size + 1 + 1 by simp] at k
      exact k
    have BB : Hid (Below w.heap.size w W) := by rw [← hW]; exact ((below_alloc w _).alloc (by simp) _).alloc (by simp; omega) _
    have c_0 := C.out.c0
    have c_1 := C.out.c1
    have c_2 := C.out.c2
    have c_3 := C.out.c3
    have c_4 := C.out.c4
    have c_l := C.out.lt
    have s_0 := S.out.c0
    have s_1 := S.out.c1
    have s_l := S.out.lt
    have r_0 := R.out.c0
    have r_1 := R.out.c1
    have r_l := R.out.lt
    have r_f0 := R.out.free 0
    have r_f1 := R.out.free 1
    have Gr : Hid (w.heap.size ≤ w.heap.size + 1 + 1) := by unfold Hid; omega
    go_enter Try.func35, Try.ntmps35
    go_wp2_with (go_at_call 34; (with_reducible refine (FO.out _).mono ?_); rintro e w1 ⟨rfl, b1⟩; replace C := Lib.hid (C.out.below b1 C.out.lt); replace S := Lib.hid (S.out.below b1 S.out.lt); replace R := Lib.hid (R.out.below b1 R.out.lt); replace BB := Lib.hid (below_more BB.out b1); replace c_0 := C.out.c0; replace c_1 := C.out.c1; replace c_2 := C.out.c2; replace c_3 := C.out.c3; replace c_4 := C.out.c4; replace c_l := C.out.lt; replace s_0 := S.out.c0; replace s_1 := S.out.c1; replace s_l := S.out.lt; replace r_0 := R.out.c0; replace r_1 := R.out.c1; replace r_l := R.out.lt; replace r_f0 := R.out.free 0; replace r_f1 := R.out.free 1; clear b1 FO)
    refine bodyPost_ret (v := .tuple #[.agg #[.int .i64 (0), .int .i64 (0)], .int .i64 1]) (by simp [results, Try.results35, go_sem, r_0, r_1, r_l]) rfl ⟨rfl, ?_⟩
    have bz := BB.out.setCell (p := ⟨w.heap.size + 1 + 1, 0, none⟩) (by first | exact Gr.out | (show w.heap.size ≤ w.heap.size + 1 + 1; omega)) (.int .i64 (0))
    have bz2 := bz.setCell (p := ⟨w.heap.size + 1 + 1, 1, none⟩) (by first | exact Gr.out | (show w.heap.size ≤ w.heap.size + 1 + 1; omega)) (.int .i64 (0))
    exact bz2
set_option maxRecDepth 100000 in
set_option maxHeartbeats 8000000 in
theorem ganswer_got (t a b c d l h : Int) (gs gc : Nat) (hs : (Ch.mk t a b c d).Int64) (il : I64 l) (ih : I64 h) (v u : Int × Int × Int) (w : World) (hu : (if (Ch.mk t a b c d).Form ∧ IvOk l h then v else (0, 0, 1)) = u)
    (H : (Ch.mk t a b c d).Form → IvOk l h → ∀ W, Below w.heap.size w W → Calls Try.prog 38 #[.pointer (some ⟨gs, 0, none⟩), .pointer (some ⟨gc, 0, none⟩)] W (Gives (.tuple #[rgV v.1 v.2.1, .int .i64 v.2.2]) W)) :
    Calls Try.prog 35 #[chV ⟨t, a, b, c, d⟩, rgV l h, .func (.func 38) #[] #[.pointer (some ⟨gs, 0, none⟩), .pointer (some ⟨gc, 0, none⟩)]] w (Gives (.tuple #[rgV u.1 u.2.1, .int .i64 u.2.2]) w) := by
  by_cases q1 : (Ch.mk t a b c d).Form
  · have FO := Lib.hid (gform_any ⟨t, a, b, c, d⟩ true ⟨fun _ => q1, fun _ => rfl⟩)
    by_cases q2 : IvOk l h
    · have VI := Lib.hid (gvalid_any l h true ⟨fun _ => q2, fun _ => rfl⟩)
      rw [if_pos ⟨q1, q2⟩] at hu
      subst hu
      have FN := Lib.hid (H q1 q2)
      clear H q1 q2
      obtain ⟨v1, v2, v3⟩ := v
      unfold chV at FO
      unfold rgV at VI FN
      unfold chV rgV
      dsimp only at *
      obtain ⟨W, hW⟩ : ∃ W, (((w.alloc (.cells #[.int .i64 t, .int .i64 a, .int .i64 b, .int .i64 c, .int .i64 d] 24)).alloc (.cells #[.int .i64 l, .int .i64 h] 26)).alloc (.cells #[.int .i64 0, .int .i64 0] 26)) = W := ⟨_, rfl⟩
      have C : Hid (Five W (w.heap.size) 24 (.int .i64 t) (.int .i64 a) (.int .i64 b) (.int .i64 c) (.int .i64 d)) := by
        rw [← hW]
        have k := Five.new w 24 (.int .i64 t) (.int .i64 a) (.int .i64 b) (.int .i64 c) (.int .i64 d)
        exact ((k).alloc _).alloc _
      have S : Hid (Two W (w.heap.size + 1) 26 (.int .i64 l) (.int .i64 h)) := by
        rw [← hW]
        have k := Two.new (w.alloc (.cells #[.int .i64 t, .int .i64 a, .int .i64 b, .int .i64 c, .int .i64 d] 24)) 26 (.int .i64 l) (.int .i64 h)
        rw [show (w.alloc (.cells #[.int .i64 t, .int .i64 a, .int .i64 b, .int .i64 c, .int .i64 d] 24)).heap.size = w.heap.size + 1 by simp] at k
        exact (k).alloc _
      have R : Hid (Two W (w.heap.size + 1 + 1) 26 (.int .i64 0) (.int .i64 0)) := by
        rw [← hW]
        have k := Two.new ((w.alloc (.cells #[.int .i64 t, .int .i64 a, .int .i64 b, .int .i64 c, .int .i64 d] 24)).alloc (.cells #[.int .i64 l, .int .i64 h] 26)) 26 (.int .i64 0) (.int .i64 0)
        rw [show ((w.alloc (.cells #[.int .i64 t, .int .i64 a, .int .i64 b, .int .i64 c, .int .i64 d] 24)).alloc (.cells #[.int .i64 l, .int .i64 h] 26)).heap.size = w.heap.size + 1 + 1 by simp] at k
        exact k
      have BB : Hid (Below w.heap.size w W) := by rw [← hW]; exact ((below_alloc w _).alloc (by simp) _).alloc (by simp; omega) _
      have c_0 := C.out.c0
      have c_1 := C.out.c1
      have c_2 := C.out.c2
      have c_3 := C.out.c3
      have c_4 := C.out.c4
      have c_l := C.out.lt
      have s_0 := S.out.c0
      have s_1 := S.out.c1
      have s_l := S.out.lt
      have r_0 := R.out.c0
      have r_1 := R.out.c1
      have r_l := R.out.lt
      have r_f0 := R.out.free 0
      have r_f1 := R.out.free 1
      have Gr : Hid (w.heap.size ≤ w.heap.size + 1 + 1) := by unfold Hid; omega
      go_enter Try.func35, Try.ntmps35
      go_wp2_with (first
        | (go_at_call 34; (with_reducible refine (FO.out _).mono ?_); rintro e w1 ⟨rfl, b1⟩; replace C := Lib.hid (C.out.below b1 C.out.lt); replace S := Lib.hid (S.out.below b1 S.out.lt); replace R := Lib.hid (R.out.below b1 R.out.lt); replace BB := Lib.hid (below_more BB.out b1); replace c_0 := C.out.c0; replace c_1 := C.out.c1; replace c_2 := C.out.c2; replace c_3 := C.out.c3; replace c_4 := C.out.c4; replace c_l := C.out.lt; replace s_0 := S.out.c0; replace s_1 := S.out.c1; replace s_l := S.out.lt; replace r_0 := R.out.c0; replace r_1 := R.out.c1; replace r_l := R.out.lt; replace r_f0 := R.out.free 0; replace r_f1 := R.out.free 1; clear b1 FO)
        | (go_at_call 28; (with_reducible refine (VI.out _).mono ?_); rintro e w2 ⟨rfl, b2⟩; replace C := Lib.hid (C.out.below b2 C.out.lt); replace S := Lib.hid (S.out.below b2 S.out.lt); replace R := Lib.hid (R.out.below b2 R.out.lt); replace BB := Lib.hid (below_more BB.out b2); replace c_0 := C.out.c0; replace c_1 := C.out.c1; replace c_2 := C.out.c2; replace c_3 := C.out.c3; replace c_4 := C.out.c4; replace c_l := C.out.lt; replace s_0 := S.out.c0; replace s_1 := S.out.c1; replace s_l := S.out.lt; replace r_0 := R.out.c0; replace r_1 := R.out.c1; replace r_l := R.out.lt; replace r_f0 := R.out.free 0; replace r_f1 := R.out.free 1; clear b2 VI)
        | (go_at_call 38; (with_reducible refine (FN.out _ BB.out).mono ?_); rintro e w3 ⟨rfl, b3⟩; replace C := Lib.hid (C.out.below b3 C.out.lt); replace S := Lib.hid (S.out.below b3 S.out.lt); replace R := Lib.hid (R.out.below b3 R.out.lt); replace BB := Lib.hid (below_more BB.out b3); replace c_0 := C.out.c0; replace c_1 := C.out.c1; replace c_2 := C.out.c2; replace c_3 := C.out.c3; replace c_4 := C.out.c4; replace c_l := C.out.lt; replace s_0 := S.out.c0; replace s_1 := S.out.c1; replace s_l := S.out.lt; replace r_0 := R.out.c0; replace r_1 := R.out.c1; replace r_l := R.out.lt; replace r_f0 := R.out.free 0; replace r_f1 := R.out.free 1; clear b3 FN))
      refine bodyPost_ret (v := .tuple #[.agg #[.int .i64 (v1), .int .i64 (v2)], .int .i64 v3]) (by simp [results, Try.results35, go_sem, r_0, r_1, r_l]) rfl ⟨rfl, ?_⟩
      have bz := BB.out.setCell (p := ⟨w.heap.size + 1 + 1, 0, none⟩) (by first | exact Gr.out | (show w.heap.size ≤ w.heap.size + 1 + 1; omega)) (.int .i64 (v1))
      have bz2 := bz.setCell (p := ⟨w.heap.size + 1 + 1, 1, none⟩) (by first | exact Gr.out | (show w.heap.size ≤ w.heap.size + 1 + 1; omega)) (.int .i64 (v2))
      exact bz2
    · have VI := Lib.hid (gvalid_any l h false ⟨fun h => (by cases h), fun h => absurd h q2⟩)
      rw [if_neg (fun k => q2 k.2)] at hu
      subst hu
      clear H q1 q2
      unfold chV at FO
      unfold rgV at VI
      unfold chV rgV
      dsimp only at *
      obtain ⟨W, hW⟩ : ∃ W, (((w.alloc (.cells #[.int .i64 t, .int .i64 a, .int .i64 b, .int .i64 c, .int .i64 d] 24)).alloc (.cells #[.int .i64 l, .int .i64 h] 26)).alloc (.cells #[.int .i64 0, .int .i64 0] 26)) = W := ⟨_, rfl⟩
      have C : Hid (Five W (w.heap.size) 24 (.int .i64 t) (.int .i64 a) (.int .i64 b) (.int .i64 c) (.int .i64 d)) := by
        rw [← hW]
        have k := Five.new w 24 (.int .i64 t) (.int .i64 a) (.int .i64 b) (.int .i64 c) (.int .i64 d)
        exact ((k).alloc _).alloc _
      have S : Hid (Two W (w.heap.size + 1) 26 (.int .i64 l) (.int .i64 h)) := by
        rw [← hW]
        have k := Two.new (w.alloc (.cells #[.int .i64 t, .int .i64 a, .int .i64 b, .int .i64 c, .int .i64 d] 24)) 26 (.int .i64 l) (.int .i64 h)
        rw [show (w.alloc (.cells #[.int .i64 t, .int .i64 a, .int .i64 b, .int .i64 c, .int .i64 d] 24)).heap.size = w.heap.size + 1 by simp] at k
        exact (k).alloc _
      have R : Hid (Two W (w.heap.size + 1 + 1) 26 (.int .i64 0) (.int .i64 0)) := by
        rw [← hW]
        have k := Two.new ((w.alloc (.cells #[.int .i64 t, .int .i64 a, .int .i64 b, .int .i64 c, .int .i64 d] 24)).alloc (.cells #[.int .i64 l, .int .i64 h] 26)) 26 (.int .i64 0) (.int .i64 0)
        rw [show ((w.alloc (.cells #[.int .i64 t, .int .i64 a, .int .i64 b, .int .i64 c, .int .i64 d] 24)).alloc (.cells #[.int .i64 l, .int .i64 h] 26)).heap.size = w.heap.size + 1 + 1 by simp] at k
        exact k
      have BB : Hid (Below w.heap.size w W) := by rw [← hW]; exact ((below_alloc w _).alloc (by simp) _).alloc (by simp; omega) _
      have c_0 := C.out.c0
      have c_1 := C.out.c1
      have c_2 := C.out.c2
      have c_3 := C.out.c3
      have c_4 := C.out.c4
      have c_l := C.out.lt
      have s_0 := S.out.c0
      have s_1 := S.out.c1
      have s_l := S.out.lt
      have r_0 := R.out.c0
      have r_1 := R.out.c1
      have r_l := R.out.lt
      have r_f0 := R.out.free 0
      have r_f1 := R.out.free 1
      have Gr : Hid (w.heap.size ≤ w.heap.size + 1 + 1) := by unfold Hid; omega
      go_enter Try.func35, Try.ntmps35
      go_wp2_with (first
        | (go_at_call 34; (with_reducible refine (FO.out _).mono ?_); rintro e w1 ⟨rfl, b1⟩; replace C := Lib.hid (C.out.below b1 C.out.lt); replace S := Lib.hid (S.out.below b1 S.out.lt); replace R := Lib.hid (R.out.below b1 R.out.lt); replace BB := Lib.hid (below_more BB.out b1); replace c_0 := C.out.c0; replace c_1 := C.out.c1; replace c_2 := C.out.c2; replace c_3 := C.out.c3; replace c_4 := C.out.c4; replace c_l := C.out.lt; replace s_0 := S.out.c0; replace s_1 := S.out.c1; replace s_l := S.out.lt; replace r_0 := R.out.c0; replace r_1 := R.out.c1; replace r_l := R.out.lt; replace r_f0 := R.out.free 0; replace r_f1 := R.out.free 1; clear b1 FO)
        | (go_at_call 28; (with_reducible refine (VI.out _).mono ?_); rintro e w2 ⟨rfl, b2⟩; replace C := Lib.hid (C.out.below b2 C.out.lt); replace S := Lib.hid (S.out.below b2 S.out.lt); replace R := Lib.hid (R.out.below b2 R.out.lt); replace BB := Lib.hid (below_more BB.out b2); replace c_0 := C.out.c0; replace c_1 := C.out.c1; replace c_2 := C.out.c2; replace c_3 := C.out.c3; replace c_4 := C.out.c4; replace c_l := C.out.lt; replace s_0 := S.out.c0; replace s_1 := S.out.c1; replace s_l := S.out.lt; replace r_0 := R.out.c0; replace r_1 := R.out.c1; replace r_l := R.out.lt; replace r_f0 := R.out.free 0; replace r_f1 := R.out.free 1; clear b2 VI))
      refine bodyPost_ret (v := .tuple #[.agg #[.int .i64 (0), .int .i64 (0)], .int .i64 1]) (by simp [results, Try.results35, go_sem, r_0, r_1, r_l]) rfl ⟨rfl, ?_⟩
      have bz := BB.out.setCell (p := ⟨w.heap.size + 1 + 1, 0, none⟩) (by first | exact Gr.out | (show w.heap.size ≤ w.heap.size + 1 + 1; omega)) (.int .i64 (0))
      have bz2 := bz.setCell (p := ⟨w.heap.size + 1 + 1, 1, none⟩) (by first | exact Gr.out | (show w.heap.size ≤ w.heap.size + 1 + 1; omega)) (.int .i64 (0))
      exact bz2
  · have FO := Lib.hid (gform_any ⟨t, a, b, c, d⟩ false ⟨fun h => (by cases h), fun h => absurd h q1⟩)
    rw [if_neg (fun k => q1 k.1)] at hu
    subst hu
    clear H q1
    unfold chV at FO
    unfold chV rgV
    dsimp only at *
    obtain ⟨W, hW⟩ : ∃ W, (((w.alloc (.cells #[.int .i64 t, .int .i64 a, .int .i64 b, .int .i64 c, .int .i64 d] 24)).alloc (.cells #[.int .i64 l, .int .i64 h] 26)).alloc (.cells #[.int .i64 0, .int .i64 0] 26)) = W := ⟨_, rfl⟩
    have C : Hid (Five W (w.heap.size) 24 (.int .i64 t) (.int .i64 a) (.int .i64 b) (.int .i64 c) (.int .i64 d)) := by
      rw [← hW]
      have k := Five.new w 24 (.int .i64 t) (.int .i64 a) (.int .i64 b) (.int .i64 c) (.int .i64 d)
      exact ((k).alloc _).alloc _
    have S : Hid (Two W (w.heap.size + 1) 26 (.int .i64 l) (.int .i64 h)) := by
      rw [← hW]
      have k := Two.new (w.alloc (.cells #[.int .i64 t, .int .i64 a, .int .i64 b, .int .i64 c, .int .i64 d] 24)) 26 (.int .i64 l) (.int .i64 h)
      rw [show (w.alloc (.cells #[.int .i64 t, .int .i64 a, .int .i64 b, .int .i64 c, .int .i64 d] 24)).heap.size = w.heap.size + 1 by simp] at k
      exact (k).alloc _
    have R : Hid (Two W (w.heap.size + 1 + 1) 26 (.int .i64 0) (.int .i64 0)) := by
      rw [← hW]
      have k := Two.new ((w.alloc (.cells #[.int .i64 t, .int .i64 a, .int .i64 b, .int .i64 c, .int .i64 d] 24)).alloc (.cells #[.int .i64 l, .int .i64 h] 26)) 26 (.int .i64 0) (.int .i64 0)
      rw [show ((w.alloc (.cells #[.int .i64 t, .int .i64 a, .int .i64 b, .int .i64 c, .int .i64 d] 24)).alloc (.cells #[.int .i64 l, .int .i64 h] 26)).heap.size = w.heap.size + 1 + 1 by simp] at k
      exact k
    have BB : Hid (Below w.heap.size w W) := by rw [← hW]; exact ((below_alloc w _).alloc (by simp) _).alloc (by simp; omega) _
    have c_0 := C.out.c0
    have c_1 := C.out.c1
    have c_2 := C.out.c2
    have c_3 := C.out.c3
    have c_4 := C.out.c4
    have c_l := C.out.lt
    have s_0 := S.out.c0
    have s_1 := S.out.c1
    have s_l := S.out.lt
    have r_0 := R.out.c0
    have r_1 := R.out.c1
    have r_l := R.out.lt
    have r_f0 := R.out.free 0
    have r_f1 := R.out.free 1
    have Gr : Hid (w.heap.size ≤ w.heap.size + 1 + 1) := by unfold Hid; omega
    go_enter Try.func35, Try.ntmps35
    go_wp2_with (go_at_call 34; (with_reducible refine (FO.out _).mono ?_); rintro e w1 ⟨rfl, b1⟩; replace C := Lib.hid (C.out.below b1 C.out.lt); replace S := Lib.hid (S.out.below b1 S.out.lt); replace R := Lib.hid (R.out.below b1 R.out.lt); replace BB := Lib.hid (below_more BB.out b1); replace c_0 := C.out.c0; replace c_1 := C.out.c1; replace c_2 := C.out.c2; replace c_3 := C.out.c3; replace c_4 := C.out.c4; replace c_l := C.out.lt; replace s_0 := S.out.c0; replace s_1 := S.out.c1; replace s_l := S.out.lt; replace r_0 := R.out.c0; replace r_1 := R.out.c1; replace r_l := R.out.lt; replace r_f0 := R.out.free 0; replace r_f1 := R.out.free 1; clear b1 FO)
    refine bodyPost_ret (v := .tuple #[.agg #[.int .i64 (0), .int .i64 (0)], .int .i64 1]) (by simp [results, Try.results35, go_sem, r_0, r_1, r_l]) rfl ⟨rfl, ?_⟩
    have bz := BB.out.setCell (p := ⟨w.heap.size + 1 + 1, 0, none⟩) (by first | exact Gr.out | (show w.heap.size ≤ w.heap.size + 1 + 1; omega)) (.int .i64 (0))
    have bz2 := bz.setCell (p := ⟨w.heap.size + 1 + 1, 1, none⟩) (by first | exact Gr.out | (show w.heap.size ≤ w.heap.size + 1 + 1; omega)) (.int .i64 (0))
    exact bz2
set_option maxRecDepth 100000 in
set_option maxHeartbeats 8000000 in
theorem ganswer_round (t a b c d l h : Int) (ge gc gs : Nat) (hs : (Ch.mk t a b c d).Int64) (il : I64 l) (ih : I64 h) (v u : Int × Int × Int) (w : World) (hu : (if (Ch.mk t a b c d).Form ∧ IvOk l h then v else (0, 0, 1)) = u)
    (H : (Ch.mk t a b c d).Form → IvOk l h → ∀ W, Below w.heap.size w W → Calls Try.prog 39 #[.pointer (some ⟨ge, 0, none⟩), .pointer (some ⟨gc, 0, none⟩), .pointer (some ⟨gs, 0, none⟩)] W (Gives (.tuple #[rgV v.1 v.2.1, .int .i64 v.2.2]) W)) :
    Calls Try.prog 35 #[chV ⟨t, a, b, c, d⟩, rgV l h, .func (.func 39) #[] #[.pointer (some ⟨ge, 0, none⟩), .pointer (some ⟨gc, 0, none⟩), .pointer (some ⟨gs, 0, none⟩)]] w (Gives (.tuple #[rgV u.1 u.2.1, .int .i64 u.2.2]) w) := by
  by_cases q1 : (Ch.mk t a b c d).Form
  · have FO := Lib.hid (gform_any ⟨t, a, b, c, d⟩ true ⟨fun _ => q1, fun _ => rfl⟩)
    by_cases q2 : IvOk l h
    · have VI := Lib.hid (gvalid_any l h true ⟨fun _ => q2, fun _ => rfl⟩)
      rw [if_pos ⟨q1, q2⟩] at hu
      subst hu
      have FN := Lib.hid (H q1 q2)
      clear H q1 q2
      obtain ⟨v1, v2, v3⟩ := v
      unfold chV at FO
      unfold rgV at VI FN
      unfold chV rgV
      dsimp only at *
      obtain ⟨W, hW⟩ : ∃ W, (((w.alloc (.cells #[.int .i64 t, .int .i64 a, .int .i64 b, .int .i64 c, .int .i64 d] 24)).alloc (.cells #[.int .i64 l, .int .i64 h] 26)).alloc (.cells #[.int .i64 0, .int .i64 0] 26)) = W := ⟨_, rfl⟩
      have C : Hid (Five W (w.heap.size) 24 (.int .i64 t) (.int .i64 a) (.int .i64 b) (.int .i64 c) (.int .i64 d)) := by
        rw [← hW]
        have k := Five.new w 24 (.int .i64 t) (.int .i64 a) (.int .i64 b) (.int .i64 c) (.int .i64 d)
        exact ((k).alloc _).alloc _
      have S : Hid (Two W (w.heap.size + 1) 26 (.int .i64 l) (.int .i64 h)) := by
        rw [← hW]
        have k := Two.new (w.alloc (.cells #[.int .i64 t, .int .i64 a, .int .i64 b, .int .i64 c, .int .i64 d] 24)) 26 (.int .i64 l) (.int .i64 h)
        rw [show (w.alloc (.cells #[.int .i64 t, .int .i64 a, .int .i64 b, .int .i64 c, .int .i64 d] 24)).heap.size = w.heap.size + 1 by simp] at k
        exact (k).alloc _
      have R : Hid (Two W (w.heap.size + 1 + 1) 26 (.int .i64 0) (.int .i64 0)) := by
        rw [← hW]
        have k := Two.new ((w.alloc (.cells #[.int .i64 t, .int .i64 a, .int .i64 b, .int .i64 c, .int .i64 d] 24)).alloc (.cells #[.int .i64 l, .int .i64 h] 26)) 26 (.int .i64 0) (.int .i64 0)
        rw [show ((w.alloc (.cells #[.int .i64 t, .int .i64 a, .int .i64 b, .int .i64 c, .int .i64 d] 24)).alloc (.cells #[.int .i64 l, .int .i64 h] 26)).heap.size = w.heap.size + 1 + 1 by simp] at k
        exact k
      have BB : Hid (Below w.heap.size w W) := by rw [← hW]; exact ((below_alloc w _).alloc (by simp) _).alloc (by simp; omega) _
      have c_0 := C.out.c0
      have c_1 := C.out.c1
      have c_2 := C.out.c2
      have c_3 := C.out.c3
      have c_4 := C.out.c4
      have c_l := C.out.lt
      have s_0 := S.out.c0
      have s_1 := S.out.c1
      have s_l := S.out.lt
      have r_0 := R.out.c0
      have r_1 := R.out.c1
      have r_l := R.out.lt
      have r_f0 := R.out.free 0
      have r_f1 := R.out.free 1
      have Gr : Hid (w.heap.size ≤ w.heap.size + 1 + 1) := by unfold Hid; omega
      go_enter Try.func35, Try.ntmps35
      go_wp2_with (first
        | (go_at_call 34; (with_reducible refine (FO.out _).mono ?_); rintro e w1 ⟨rfl, b1⟩; replace C := Lib.hid (C.out.below b1 C.out.lt); replace S := Lib.hid (S.out.below b1 S.out.lt); replace R := Lib.hid (R.out.below b1 R.out.lt); replace BB := Lib.hid (below_more BB.out b1); replace c_0 := C.out.c0; replace c_1 := C.out.c1; replace c_2 := C.out.c2; replace c_3 := C.out.c3; replace c_4 := C.out.c4; replace c_l := C.out.lt; replace s_0 := S.out.c0; replace s_1 := S.out.c1; replace s_l := S.out.lt; replace r_0 := R.out.c0; replace r_1 := R.out.c1; replace r_l := R.out.lt; replace r_f0 := R.out.free 0; replace r_f1 := R.out.free 1; clear b1 FO)
        | (go_at_call 28; (with_reducible refine (VI.out _).mono ?_); rintro e w2 ⟨rfl, b2⟩; replace C := Lib.hid (C.out.below b2 C.out.lt); replace S := Lib.hid (S.out.below b2 S.out.lt); replace R := Lib.hid (R.out.below b2 R.out.lt); replace BB := Lib.hid (below_more BB.out b2); replace c_0 := C.out.c0; replace c_1 := C.out.c1; replace c_2 := C.out.c2; replace c_3 := C.out.c3; replace c_4 := C.out.c4; replace c_l := C.out.lt; replace s_0 := S.out.c0; replace s_1 := S.out.c1; replace s_l := S.out.lt; replace r_0 := R.out.c0; replace r_1 := R.out.c1; replace r_l := R.out.lt; replace r_f0 := R.out.free 0; replace r_f1 := R.out.free 1; clear b2 VI)
        | (go_at_call 39; (with_reducible refine (FN.out _ BB.out).mono ?_); rintro e w3 ⟨rfl, b3⟩; replace C := Lib.hid (C.out.below b3 C.out.lt); replace S := Lib.hid (S.out.below b3 S.out.lt); replace R := Lib.hid (R.out.below b3 R.out.lt); replace BB := Lib.hid (below_more BB.out b3); replace c_0 := C.out.c0; replace c_1 := C.out.c1; replace c_2 := C.out.c2; replace c_3 := C.out.c3; replace c_4 := C.out.c4; replace c_l := C.out.lt; replace s_0 := S.out.c0; replace s_1 := S.out.c1; replace s_l := S.out.lt; replace r_0 := R.out.c0; replace r_1 := R.out.c1; replace r_l := R.out.lt; replace r_f0 := R.out.free 0; replace r_f1 := R.out.free 1; clear b3 FN))
      refine bodyPost_ret (v := .tuple #[.agg #[.int .i64 (v1), .int .i64 (v2)], .int .i64 v3]) (by simp [results, Try.results35, go_sem, r_0, r_1, r_l]) rfl ⟨rfl, ?_⟩
      have bz := BB.out.setCell (p := ⟨w.heap.size + 1 + 1, 0, none⟩) (by first | exact Gr.out | (show w.heap.size ≤ w.heap.size + 1 + 1; omega)) (.int .i64 (v1))
      have bz2 := bz.setCell (p := ⟨w.heap.size + 1 + 1, 1, none⟩) (by first | exact Gr.out | (show w.heap.size ≤ w.heap.size + 1 + 1; omega)) (.int .i64 (v2))
      exact bz2
    · have VI := Lib.hid (gvalid_any l h false ⟨fun h => (by cases h), fun h => absurd h q2⟩)
      rw [if_neg (fun k => q2 k.2)] at hu
      subst hu
      clear H q1 q2
      unfold chV at FO
      unfold rgV at VI
      unfold chV rgV
      dsimp only at *
      obtain ⟨W, hW⟩ : ∃ W, (((w.alloc (.cells #[.int .i64 t, .int .i64 a, .int .i64 b, .int .i64 c, .int .i64 d] 24)).alloc (.cells #[.int .i64 l, .int .i64 h] 26)).alloc (.cells #[.int .i64 0, .int .i64 0] 26)) = W := ⟨_, rfl⟩
      have C : Hid (Five W (w.heap.size) 24 (.int .i64 t) (.int .i64 a) (.int .i64 b) (.int .i64 c) (.int .i64 d)) := by
        rw [← hW]
        have k := Five.new w 24 (.int .i64 t) (.int .i64 a) (.int .i64 b) (.int .i64 c) (.int .i64 d)
        exact ((k).alloc _).alloc _
      have S : Hid (Two W (w.heap.size + 1) 26 (.int .i64 l) (.int .i64 h)) := by
        rw [← hW]
        have k := Two.new (w.alloc (.cells #[.int .i64 t, .int .i64 a, .int .i64 b, .int .i64 c, .int .i64 d] 24)) 26 (.int .i64 l) (.int .i64 h)
        rw [show (w.alloc (.cells #[.int .i64 t, .int .i64 a, .int .i64 b, .int .i64 c, .int .i64 d] 24)).heap.size = w.heap.size + 1 by simp] at k
        exact (k).alloc _
      have R : Hid (Two W (w.heap.size + 1 + 1) 26 (.int .i64 0) (.int .i64 0)) := by
        rw [← hW]
        have k := Two.new ((w.alloc (.cells #[.int .i64 t, .int .i64 a, .int .i64 b, .int .i64 c, .int .i64 d] 24)).alloc (.cells #[.int .i64 l, .int .i64 h] 26)) 26 (.int .i64 0) (.int .i64 0)
        rw [show ((w.alloc (.cells #[.int .i64 t, .int .i64 a, .int .i64 b, .int .i64 c, .int .i64 d] 24)).alloc (.cells #[.int .i64 l, .int .i64 h] 26)).heap.size = w.heap.size + 1 + 1 by simp] at k
        exact k
      have BB : Hid (Below w.heap.size w W) := by rw [← hW]; exact ((below_alloc w _).alloc (by simp) _).alloc (by simp; omega) _
      have c_0 := C.out.c0
      have c_1 := C.out.c1
      have c_2 := C.out.c2
      have c_3 := C.out.c3
      have c_4 := C.out.c4
      have c_l := C.out.lt
      have s_0 := S.out.c0
      have s_1 := S.out.c1
      have s_l := S.out.lt
      have r_0 := R.out.c0
      have r_1 := R.out.c1
      have r_l := R.out.lt
      have r_f0 := R.out.free 0
      have r_f1 := R.out.free 1
      have Gr : Hid (w.heap.size ≤ w.heap.size + 1 + 1) := by unfold Hid; omega
      go_enter Try.func35, Try.ntmps35
      go_wp2_with (first
        | (go_at_call 34; (with_reducible refine (FO.out _).mono ?_); rintro e w1 ⟨rfl, b1⟩; replace C := Lib.hid (C.out.below b1 C.out.lt); replace S := Lib.hid (S.out.below b1 S.out.lt); replace R := Lib.hid (R.out.below b1 R.out.lt); replace BB := Lib.hid (below_more BB.out b1); replace c_0 := C.out.c0; replace c_1 := C.out.c1; replace c_2 := C.out.c2; replace c_3 := C.out.c3; replace c_4 := C.out.c4; replace c_l := C.out.lt; replace s_0 := S.out.c0; replace s_1 := S.out.c1; replace s_l := S.out.lt; replace r_0 := R.out.c0; replace r_1 := R.out.c1; replace r_l := R.out.lt; replace r_f0 := R.out.free 0; replace r_f1 := R.out.free 1; clear b1 FO)
        | (go_at_call 28; (with_reducible refine (VI.out _).mono ?_); rintro e w2 ⟨rfl, b2⟩; replace C := Lib.hid (C.out.below b2 C.out.lt); replace S := Lib.hid (S.out.below b2 S.out.lt); replace R := Lib.hid (R.out.below b2 R.out.lt); replace BB := Lib.hid (below_more BB.out b2); replace c_0 := C.out.c0; replace c_1 := C.out.c1; replace c_2 := C.out.c2; replace c_3 := C.out.c3; replace c_4 := C.out.c4; replace c_l := C.out.lt; replace s_0 := S.out.c0; replace s_1 := S.out.c1; replace s_l := S.out.lt; replace r_0 := R.out.c0; replace r_1 := R.out.c1; replace r_l := R.out.lt; replace r_f0 := R.out.free 0; replace r_f1 := R.out.free 1; clear b2 VI))
      refine bodyPost_ret (v := .tuple #[.agg #[.int .i64 (0), .int .i64 (0)], .int .i64 1]) (by simp [results, Try.results35, go_sem, r_0, r_1, r_l]) rfl ⟨rfl, ?_⟩
      have bz := BB.out.setCell (p := ⟨w.heap.size + 1 + 1, 0, none⟩) (by first | exact Gr.out | (show w.heap.size ≤ w.heap.size + 1 + 1; omega)) (.int .i64 (0))
      have bz2 := bz.setCell (p := ⟨w.heap.size + 1 + 1, 1, none⟩) (by first | exact Gr.out | (show w.heap.size ≤ w.heap.size + 1 + 1; omega)) (.int .i64 (0))
      exact bz2
  · have FO := Lib.hid (gform_any ⟨t, a, b, c, d⟩ false ⟨fun h => (by cases h), fun h => absurd h q1⟩)
    rw [if_neg (fun k => q1 k.1)] at hu
    subst hu
    clear H q1
    unfold chV at FO
    unfold chV rgV
    dsimp only at *
    obtain ⟨W, hW⟩ : ∃ W, (((w.alloc (.cells #[.int .i64 t, .int .i64 a, .int .i64 b, .int .i64 c, .int .i64 d] 24)).alloc (.cells #[.int .i64 l, .int .i64 h] 26)).alloc (.cells #[.int .i64 0, .int .i64 0] 26)) = W := ⟨_, rfl⟩
    have C : Hid (Five W (w.heap.size) 24 (.int .i64 t) (.int .i64 a) (.int .i64 b) (.int .i64 c) (.int .i64 d)) := by
      rw [← hW]
      have k := Five.new w 24 (.int .i64 t) (.int .i64 a) (.int .i64 b) (.int .i64 c) (.int .i64 d)
      exact ((k).alloc _).alloc _
    have S : Hid (Two W (w.heap.size + 1) 26 (.int .i64 l) (.int .i64 h)) := by
      rw [← hW]
      have k := Two.new (w.alloc (.cells #[.int .i64 t, .int .i64 a, .int .i64 b, .int .i64 c, .int .i64 d] 24)) 26 (.int .i64 l) (.int .i64 h)
      rw [show (w.alloc (.cells #[.int .i64 t, .int .i64 a, .int .i64 b, .int .i64 c, .int .i64 d] 24)).heap.size = w.heap.size + 1 by simp] at k
      exact (k).alloc _
    have R : Hid (Two W (w.heap.size + 1 + 1) 26 (.int .i64 0) (.int .i64 0)) := by
      rw [← hW]
      have k := Two.new ((w.alloc (.cells #[.int .i64 t, .int .i64 a, .int .i64 b, .int .i64 c, .int .i64 d] 24)).alloc (.cells #[.int .i64 l, .int .i64 h] 26)) 26 (.int .i64 0) (.int .i64 0)
      rw [show ((w.alloc (.cells #[.int .i64 t, .int .i64 a, .int .i64 b, .int .i64 c, .int .i64 d] 24)).alloc (.cells #[.int .i64 l, .int .i64 h] 26)).heap.size = w.heap.size + 1 + 1 by simp] at k
      exact k
    have BB : Hid (Below w.heap.size w W) := by rw [← hW]; exact ((below_alloc w _).alloc (by simp) _).alloc (by simp; omega) _
    have c_0 := C.out.c0
    have c_1 := C.out.c1
    have c_2 := C.out.c2
    have c_3 := C.out.c3
    have c_4 := C.out.c4
    have c_l := C.out.lt
    have s_0 := S.out.c0
    have s_1 := S.out.c1
    have s_l := S.out.lt
    have r_0 := R.out.c0
    have r_1 := R.out.c1
    have r_l := R.out.lt
    have r_f0 := R.out.free 0
    have r_f1 := R.out.free 1
    have Gr : Hid (w.heap.size ≤ w.heap.size + 1 + 1) := by unfold Hid; omega
    go_enter Try.func35, Try.ntmps35
    go_wp2_with (go_at_call 34; (with_reducible refine (FO.out _).mono ?_); rintro e w1 ⟨rfl, b1⟩; replace C := Lib.hid (C.out.below b1 C.out.lt); replace S := Lib.hid (S.out.below b1 S.out.lt); replace R := Lib.hid (R.out.below b1 R.out.lt); replace BB := Lib.hid (below_more BB.out b1); replace c_0 := C.out.c0; replace c_1 := C.out.c1; replace c_2 := C.out.c2; replace c_3 := C.out.c3; replace c_4 := C.out.c4; replace c_l := C.out.lt; replace s_0 := S.out.c0; replace s_1 := S.out.c1; replace s_l := S.out.lt; replace r_0 := R.out.c0; replace r_1 := R.out.c1; replace r_l := R.out.lt; replace r_f0 := R.out.free 0; replace r_f1 := R.out.free 1; clear b1 FO)
    refine bodyPost_ret (v := .tuple #[.agg #[.int .i64 (0), .int .i64 (0)], .int .i64 1]) (by simp [results, Try.results35, go_sem, r_0, r_1, r_l]) rfl ⟨rfl, ?_⟩
    have bz := BB.out.setCell (p := ⟨w.heap.size + 1 + 1, 0, none⟩) (by first | exact Gr.out | (show w.heap.size ≤ w.heap.size + 1 + 1; omega)) (.int .i64 (0))
    have bz2 := bz.setCell (p := ⟨w.heap.size + 1 + 1, 1, none⟩) (by first | exact Gr.out | (show w.heap.size ≤ w.heap.size + 1 + 1; omega)) (.int .i64 (0))
    exact bz2
set_option maxRecDepth 100000 in
set_option maxHeartbeats 8000000 in
theorem gsent_any (t a b c d l h : Int) (hs : (Ch.mk t a b c d).Int64) (il : I64 l) (ih : I64 h) (w : World) :
    Calls Try.prog 15 #[chV ⟨t, a, b, c, d⟩, rgV l h] w (Gives (.tuple #[rgV (sentR ⟨t, a, b, c, d⟩ l h).1 (sentR ⟨t, a, b, c, d⟩ l h).2.1, .int .i64 (sentR ⟨t, a, b, c, d⟩ l h).2.2]) w) := by
  obtain ⟨u, hu⟩ : ∃ u, sentR ⟨t, a, b, c, d⟩ l h = u := ⟨_, rfl⟩
  rw [hu]
  have hu2 := Lib.hid (show (if (Ch.mk t a b c d).Form ∧ IvOk l h then (if h - a < 0 then (0, 0, 22) else (max 0 (l - b), h - a, 0)) else (0, 0, 1)) = u by
    rw [← hu]; unfold sentR; by_cases q : (Ch.mk t a b c d).Form <;> by_cases q' : IvOk l h <;> simp [q, q'])
  clear hu
  unfold chV rgV
  dsimp only
  obtain ⟨W, hW⟩ : ∃ W, (((w.alloc (.cells #[.int .i64 t, .int .i64 a, .int .i64 b, .int .i64 c, .int .i64 d] 24)).alloc (.cells #[.int .i64 l, .int .i64 h] 26)).alloc (.cells #[.int .i64 0, .int .i64 0] 26)) = W := ⟨_, rfl⟩
  have C : Hid (Five W (w.heap.size) 24 (.int .i64 t) (.int .i64 a) (.int .i64 b) (.int .i64 c) (.int .i64 d)) := by
    rw [← hW]
    have k := Five.new w 24 (.int .i64 t) (.int .i64 a) (.int .i64 b) (.int .i64 c) (.int .i64 d)
    exact ((k).alloc _).alloc _
  have S : Hid (Two W (w.heap.size + 1) 26 (.int .i64 l) (.int .i64 h)) := by
    rw [← hW]
    have k := Two.new (w.alloc (.cells #[.int .i64 t, .int .i64 a, .int .i64 b, .int .i64 c, .int .i64 d] 24)) 26 (.int .i64 l) (.int .i64 h)
    rw [show (w.alloc (.cells #[.int .i64 t, .int .i64 a, .int .i64 b, .int .i64 c, .int .i64 d] 24)).heap.size = w.heap.size + 1 by simp] at k
    exact (k).alloc _
  have R : Hid (Two W (w.heap.size + 1 + 1) 26 (.int .i64 0) (.int .i64 0)) := by
    rw [← hW]
    have k := Two.new ((w.alloc (.cells #[.int .i64 t, .int .i64 a, .int .i64 b, .int .i64 c, .int .i64 d] 24)).alloc (.cells #[.int .i64 l, .int .i64 h] 26)) 26 (.int .i64 0) (.int .i64 0)
    rw [show ((w.alloc (.cells #[.int .i64 t, .int .i64 a, .int .i64 b, .int .i64 c, .int .i64 d] 24)).alloc (.cells #[.int .i64 l, .int .i64 h] 26)).heap.size = w.heap.size + 1 + 1 by simp] at k
    exact k
  have BB : Hid (Below w.heap.size w W) := by rw [← hW]; exact ((below_alloc w _).alloc (by simp) _).alloc (by simp; omega) _
  have c_0 := C.out.c0
  have c_1 := C.out.c1
  have c_2 := C.out.c2
  have c_3 := C.out.c3
  have c_4 := C.out.c4
  have c_l := C.out.lt
  have s_0 := S.out.c0
  have s_1 := S.out.c1
  have s_l := S.out.lt
  have r_0 := R.out.c0
  have r_1 := R.out.c1
  have r_l := R.out.lt
  have r_f0 := R.out.free 0
  have r_f1 := R.out.free 1
  have Gr : Hid (w.heap.size ≤ w.heap.size + 1 + 1) := by unfold Hid; omega
  have AN := Lib.hid (ganswer_sent t a b c d l h (w.heap.size + 1) w.heap.size hs il ih _ u W hu2.out (fun hf hi W' hb => gsent1_any t a b c d l h (w.heap.size) (w.heap.size + 1) hf hi _ rfl W' (C.out.below hb C.out.lt) (S.out.below hb S.out.lt)))
  clear hu2
  obtain ⟨u1, u2, u3⟩ := u
  unfold chV rgV at AN
  dsimp only at AN ⊢
  have hmf : ∀ (fn : Fn) (first cap : Array Value) (w : World), (Instr.makeFunc fn first cap).run Try.prog w = .ok (.func fn first cap) w := fun _ _ _ _ => rfl
  go_enter Try.func15, Try.ntmps15
  go_wp2_with (go_at_call 35; (with_reducible refine AN.out.mono ?_); rintro e w1 ⟨rfl, b1⟩; replace C := Lib.hid (C.out.below b1 C.out.lt); replace S := Lib.hid (S.out.below b1 S.out.lt); replace R := Lib.hid (R.out.below b1 R.out.lt); replace BB := Lib.hid (below_more BB.out b1); replace c_0 := C.out.c0; replace c_1 := C.out.c1; replace c_2 := C.out.c2; replace c_3 := C.out.c3; replace c_4 := C.out.c4; replace c_l := C.out.lt; replace s_0 := S.out.c0; replace s_1 := S.out.c1; replace s_l := S.out.lt; replace r_0 := R.out.c0; replace r_1 := R.out.c1; replace r_l := R.out.lt; replace r_f0 := R.out.free 0; replace r_f1 := R.out.free 1; clear b1 AN)
  refine bodyPost_ret (v := .tuple #[.agg #[.int .i64 (u1), .int .i64 (u2)], .int .i64 u3]) (by simp [results, Try.results15, go_sem, r_0, r_1, r_l]) rfl ⟨rfl, ?_⟩
  have bz := BB.out.setCell (p := ⟨w.heap.size + 1 + 1, 0, none⟩) (by first | exact Gr.out | (show w.heap.size ≤ w.heap.size + 1 + 1; omega)) (.int .i64 (u1))
  have bz2 := bz.setCell (p := ⟨w.heap.size + 1 + 1, 1, none⟩) (by first | exact Gr.out | (show w.heap.size ≤ w.heap.size + 1 + 1; omega)) (.int .i64 (u2))
  exact bz2
set_option maxRecDepth 100000 in
set_option maxHeartbeats 8000000 in
theorem ggot_any (t a b c d l h : Int) (hs : (Ch.mk t a b c d).Int64) (il : I64 l) (ih : I64 h) (w : World) :
    Calls Try.prog 17 #[chV ⟨t, a, b, c, d⟩, rgV l h] w (Gives (.tuple #[rgV (gotR ⟨t, a, b, c, d⟩ l h).1 (gotR ⟨t, a, b, c, d⟩ l h).2.1, .int .i64 (gotR ⟨t, a, b, c, d⟩ l h).2.2]) w) := by
  obtain ⟨u, hu⟩ : ∃ u, gotR ⟨t, a, b, c, d⟩ l h = u := ⟨_, rfl⟩
  rw [hu]
  have hu2 := Lib.hid (show (if (Ch.mk t a b c d).Form ∧ IvOk l h then (if 3000000000000000 < h + d then (0, 0, 3) else (l + c, h + d, 0)) else (0, 0, 1)) = u by
    rw [← hu]; unfold gotR; by_cases q : (Ch.mk t a b c d).Form <;> by_cases q' : IvOk l h <;> simp [q, q'])
  clear hu
  unfold chV rgV
  dsimp only
  obtain ⟨W, hW⟩ : ∃ W, (((w.alloc (.cells #[.int .i64 t, .int .i64 a, .int .i64 b, .int .i64 c, .int .i64 d] 24)).alloc (.cells #[.int .i64 l, .int .i64 h] 26)).alloc (.cells #[.int .i64 0, .int .i64 0] 26)) = W := ⟨_, rfl⟩
  have C : Hid (Five W (w.heap.size) 24 (.int .i64 t) (.int .i64 a) (.int .i64 b) (.int .i64 c) (.int .i64 d)) := by
    rw [← hW]
    have k := Five.new w 24 (.int .i64 t) (.int .i64 a) (.int .i64 b) (.int .i64 c) (.int .i64 d)
    exact ((k).alloc _).alloc _
  have S : Hid (Two W (w.heap.size + 1) 26 (.int .i64 l) (.int .i64 h)) := by
    rw [← hW]
    have k := Two.new (w.alloc (.cells #[.int .i64 t, .int .i64 a, .int .i64 b, .int .i64 c, .int .i64 d] 24)) 26 (.int .i64 l) (.int .i64 h)
    rw [show (w.alloc (.cells #[.int .i64 t, .int .i64 a, .int .i64 b, .int .i64 c, .int .i64 d] 24)).heap.size = w.heap.size + 1 by simp] at k
    exact (k).alloc _
  have R : Hid (Two W (w.heap.size + 1 + 1) 26 (.int .i64 0) (.int .i64 0)) := by
    rw [← hW]
    have k := Two.new ((w.alloc (.cells #[.int .i64 t, .int .i64 a, .int .i64 b, .int .i64 c, .int .i64 d] 24)).alloc (.cells #[.int .i64 l, .int .i64 h] 26)) 26 (.int .i64 0) (.int .i64 0)
    rw [show ((w.alloc (.cells #[.int .i64 t, .int .i64 a, .int .i64 b, .int .i64 c, .int .i64 d] 24)).alloc (.cells #[.int .i64 l, .int .i64 h] 26)).heap.size = w.heap.size + 1 + 1 by simp] at k
    exact k
  have BB : Hid (Below w.heap.size w W) := by rw [← hW]; exact ((below_alloc w _).alloc (by simp) _).alloc (by simp; omega) _
  have c_0 := C.out.c0
  have c_1 := C.out.c1
  have c_2 := C.out.c2
  have c_3 := C.out.c3
  have c_4 := C.out.c4
  have c_l := C.out.lt
  have s_0 := S.out.c0
  have s_1 := S.out.c1
  have s_l := S.out.lt
  have r_0 := R.out.c0
  have r_1 := R.out.c1
  have r_l := R.out.lt
  have r_f0 := R.out.free 0
  have r_f1 := R.out.free 1
  have Gr : Hid (w.heap.size ≤ w.heap.size + 1 + 1) := by unfold Hid; omega
  have AN := Lib.hid (ganswer_got t a b c d l h (w.heap.size + 1) w.heap.size hs il ih _ u W hu2.out (fun hf hi W' hb => ggot1_any t a b c d l h (w.heap.size) (w.heap.size + 1) hf hi _ rfl W' (C.out.below hb C.out.lt) (S.out.below hb S.out.lt)))
  clear hu2
  obtain ⟨u1, u2, u3⟩ := u
  unfold chV rgV at AN
  dsimp only at AN ⊢
  have hmf : ∀ (fn : Fn) (first cap : Array Value) (w : World), (Instr.makeFunc fn first cap).run Try.prog w = .ok (.func fn first cap) w := fun _ _ _ _ => rfl
  go_enter Try.func17, Try.ntmps17
  go_wp2_with (go_at_call 35; (with_reducible refine AN.out.mono ?_); rintro e w1 ⟨rfl, b1⟩; replace C := Lib.hid (C.out.below b1 C.out.lt); replace S := Lib.hid (S.out.below b1 S.out.lt); replace R := Lib.hid (R.out.below b1 R.out.lt); replace BB := Lib.hid (below_more BB.out b1); replace c_0 := C.out.c0; replace c_1 := C.out.c1; replace c_2 := C.out.c2; replace c_3 := C.out.c3; replace c_4 := C.out.c4; replace c_l := C.out.lt; replace s_0 := S.out.c0; replace s_1 := S.out.c1; replace s_l := S.out.lt; replace r_0 := R.out.c0; replace r_1 := R.out.c1; replace r_l := R.out.lt; replace r_f0 := R.out.free 0; replace r_f1 := R.out.free 1; clear b1 AN)
  refine bodyPost_ret (v := .tuple #[.agg #[.int .i64 (u1), .int .i64 (u2)], .int .i64 u3]) (by simp [results, Try.results17, go_sem, r_0, r_1, r_l]) rfl ⟨rfl, ?_⟩
  have bz := BB.out.setCell (p := ⟨w.heap.size + 1 + 1, 0, none⟩) (by first | exact Gr.out | (show w.heap.size ≤ w.heap.size + 1 + 1; omega)) (.int .i64 (u1))
  have bz2 := bz.setCell (p := ⟨w.heap.size + 1 + 1, 1, none⟩) (by first | exact Gr.out | (show w.heap.size ≤ w.heap.size + 1 + 1; omega)) (.int .i64 (u2))
  exact bz2
set_option maxRecDepth 100000 in
set_option maxHeartbeats 8000000 in
theorem ground_any (t a b c d l h x y : Int) (hs : (Ch.mk t a b c d).Int64) (il : I64 l) (ih : I64 h) (ix : I64 x) (iy : I64 y) (w : World) :
    Calls Try.prog 19 #[chV ⟨t, a, b, c, d⟩, rgV l h, rgV x y] w (Gives (.tuple #[rgV (roundR ⟨t, a, b, c, d⟩ l h x y).1 (roundR ⟨t, a, b, c, d⟩ l h x y).2.1, .int .i64 (roundR ⟨t, a, b, c, d⟩ l h x y).2.2]) w) := by
  obtain ⟨u, hu⟩ : ∃ u, roundR ⟨t, a, b, c, d⟩ l h x y = u := ⟨_, rfl⟩
  rw [hu]
  have hu2 := Lib.hid (show (if (Ch.mk t a b c d).Form ∧ IvOk l h then (if IvOk x y then (if min b (y - c) < max a (x - d) ∨ h - max a (x - d) < 0 then (0, 0, 22) else (max 0 (l - min b (y - c)), h - max a (x - d), 0)) else (0, 0, 1)) else (0, 0, 1)) = u by
    rw [← hu]; unfold roundR; by_cases q : (Ch.mk t a b c d).Form <;> by_cases q' : IvOk l h <;> simp [q, q'])
  clear hu
  unfold chV rgV
  dsimp only
  obtain ⟨W, hW⟩ : ∃ W, ((((w.alloc (.cells #[.int .i64 t, .int .i64 a, .int .i64 b, .int .i64 c, .int .i64 d] 24)).alloc (.cells #[.int .i64 l, .int .i64 h] 26)).alloc (.cells #[.int .i64 x, .int .i64 y] 27)).alloc (.cells #[.int .i64 0, .int .i64 0] 26)) = W := ⟨_, rfl⟩
  have C : Hid (Five W (w.heap.size) 24 (.int .i64 t) (.int .i64 a) (.int .i64 b) (.int .i64 c) (.int .i64 d)) := by
    rw [← hW]
    have k := Five.new w 24 (.int .i64 t) (.int .i64 a) (.int .i64 b) (.int .i64 c) (.int .i64 d)
    exact (((k).alloc _).alloc _).alloc _
  have S : Hid (Two W (w.heap.size + 1) 26 (.int .i64 l) (.int .i64 h)) := by
    rw [← hW]
    have k := Two.new (w.alloc (.cells #[.int .i64 t, .int .i64 a, .int .i64 b, .int .i64 c, .int .i64 d] 24)) 26 (.int .i64 l) (.int .i64 h)
    rw [show (w.alloc (.cells #[.int .i64 t, .int .i64 a, .int .i64 b, .int .i64 c, .int .i64 d] 24)).heap.size = w.heap.size + 1 by simp] at k
    exact ((k).alloc _).alloc _
  have E : Hid (Two W (w.heap.size + 1 + 1) 27 (.int .i64 x) (.int .i64 y)) := by
    rw [← hW]
    have k := Two.new ((w.alloc (.cells #[.int .i64 t, .int .i64 a, .int .i64 b, .int .i64 c, .int .i64 d] 24)).alloc (.cells #[.int .i64 l, .int .i64 h] 26)) 27 (.int .i64 x) (.int .i64 y)
    rw [show ((w.alloc (.cells #[.int .i64 t, .int .i64 a, .int .i64 b, .int .i64 c, .int .i64 d] 24)).alloc (.cells #[.int .i64 l, .int .i64 h] 26)).heap.size = w.heap.size + 1 + 1 by simp] at k
    exact (k).alloc _
  have R : Hid (Two W (w.heap.size + 1 + 1 + 1) 26 (.int .i64 0) (.int .i64 0)) := by
    rw [← hW]
    have k := Two.new (((w.alloc (.cells #[.int .i64 t, .int .i64 a, .int .i64 b, .int .i64 c, .int .i64 d] 24)).alloc (.cells #[.int .i64 l, .int .i64 h] 26)).alloc (.cells #[.int .i64 x, .int .i64 y] 27)) 26 (.int .i64 0) (.int .i64 0)
    rw [show (((w.alloc (.cells #[.int .i64 t, .int .i64 a, .int .i64 b, .int .i64 c, .int .i64 d] 24)).alloc (.cells #[.int .i64 l, .int .i64 h] 26)).alloc (.cells #[.int .i64 x, .int .i64 y] 27)).heap.size = w.heap.size + 1 + 1 + 1 by simp] at k
    exact k
  have BB : Hid (Below w.heap.size w W) := by rw [← hW]; exact (((below_alloc w _).alloc (by simp) _).alloc (by simp; omega) _).alloc (by simp; omega) _
  have c_0 := C.out.c0
  have c_1 := C.out.c1
  have c_2 := C.out.c2
  have c_3 := C.out.c3
  have c_4 := C.out.c4
  have c_l := C.out.lt
  have s_0 := S.out.c0
  have s_1 := S.out.c1
  have s_l := S.out.lt
  have e_0 := E.out.c0
  have e_1 := E.out.c1
  have e_l := E.out.lt
  have r_0 := R.out.c0
  have r_1 := R.out.c1
  have r_l := R.out.lt
  have r_f0 := R.out.free 0
  have r_f1 := R.out.free 1
  have Gr : Hid (w.heap.size ≤ w.heap.size + 1 + 1 + 1) := by unfold Hid; omega
  have AN := Lib.hid (ganswer_round t a b c d l h (w.heap.size + 1 + 1) w.heap.size (w.heap.size + 1) hs il ih _ u W hu2.out (fun hf hi W' hb => ground1_any t a b c d l h x y (w.heap.size) (w.heap.size + 1) (w.heap.size + 1 + 1) hf hi ix iy _ rfl W' (C.out.below hb C.out.lt) (S.out.below hb S.out.lt) (E.out.below hb E.out.lt)))
  clear hu2
  obtain ⟨u1, u2, u3⟩ := u
  unfold chV rgV at AN
  dsimp only at AN ⊢
  have hmf : ∀ (fn : Fn) (first cap : Array Value) (w : World), (Instr.makeFunc fn first cap).run Try.prog w = .ok (.func fn first cap) w := fun _ _ _ _ => rfl
  go_enter Try.func19, Try.ntmps19
  go_wp2_with (go_at_call 35; (with_reducible refine AN.out.mono ?_); rintro e w1 ⟨rfl, b1⟩; replace C := Lib.hid (C.out.below b1 C.out.lt); replace S := Lib.hid (S.out.below b1 S.out.lt); replace E := Lib.hid (E.out.below b1 E.out.lt); replace R := Lib.hid (R.out.below b1 R.out.lt); replace BB := Lib.hid (below_more BB.out b1); replace c_0 := C.out.c0; replace c_1 := C.out.c1; replace c_2 := C.out.c2; replace c_3 := C.out.c3; replace c_4 := C.out.c4; replace c_l := C.out.lt; replace s_0 := S.out.c0; replace s_1 := S.out.c1; replace s_l := S.out.lt; replace e_0 := E.out.c0; replace e_1 := E.out.c1; replace e_l := E.out.lt; replace r_0 := R.out.c0; replace r_1 := R.out.c1; replace r_l := R.out.lt; replace r_f0 := R.out.free 0; replace r_f1 := R.out.free 1; clear b1 AN)
  refine bodyPost_ret (v := .tuple #[.agg #[.int .i64 (u1), .int .i64 (u2)], .int .i64 u3]) (by simp [results, Try.results19, go_sem, r_0, r_1, r_l]) rfl ⟨rfl, ?_⟩
  have bz := BB.out.setCell (p := ⟨w.heap.size + 1 + 1 + 1, 0, none⟩) (by first | exact Gr.out | (show w.heap.size ≤ w.heap.size + 1 + 1 + 1; omega)) (.int .i64 (u1))
  have bz2 := bz.setCell (p := ⟨w.heap.size + 1 + 1 + 1, 1, none⟩) (by first | exact Gr.out | (show w.heap.size ≤ w.heap.size + 1 + 1 + 1; omega)) (.int .i64 (u2))
  exact bz2
end Go.Proofs.Ytkeahbdeddjoeaa
