/- Layer 10: package link's isDelay, validDelays, before and join; interval's Valid (gen/gen_prog.py writes this). -/
import Derived.Test.YtkeahbdeddjoeaaRForm
namespace Go.Proofs.Ytkeahbdeddjoeaa
open Go.RowKit Go
set_option linter.unusedVariables false
set_option linter.unusedSimpArgs false

theorem gdel_any (l h : Int) (q : Bool) (hq : q = true ↔ DelOk l h) (w : World) :
    Calls Try.prog 42 #[.int .i64 l, .int .i64 h] w fun e w' => e = .returned (.bool q) ∧ w = w' := by
  have hd : q = decide (0 ≤ l ∧ l ≤ h ∧ h ≤ 1000000) := by rw [Bool.eq_iff_iff, decide_eq_true_iff]; exact hq
  subst hd
  clear hq
  rcases (by omega : l < 0 ∨ (0 ≤ l ∧ h < l) ∨ (0 ≤ l ∧ l ≤ h)) with c | ⟨c, c2⟩ | ⟨c, c2⟩
  · have d0 : decide (0 ≤ l) = false := by simp; omega
    go_enter Try.func42, Try.ntmps42
    go_wp2_with fail
    go_ret
    exact ⟨by simp; omega, rfl⟩
  · have d0 : decide (0 ≤ l) = true := by simp; omega
    have d1 : decide (l ≤ h) = false := by simp; omega
    go_enter Try.func42, Try.ntmps42
    go_wp2_with fail
    go_ret
    exact ⟨by simp; omega, rfl⟩
  · have d0 : decide (0 ≤ l) = true := by simp; omega
    have d1 : decide (l ≤ h) = true := by simp; omega
    go_enter Try.func42, Try.ntmps42
    go_wp2_with fail
    go_ret
    exact ⟨by simp [c, c2], rfl⟩

theorem gform_any (s : Ch) (q : Bool) (hq : q = true ↔ s.Form) (w : World) :
    Calls Try.prog 34 #[chV s] w (Gives (.bool q) w) := by
  obtain ⟨t, a, b, c, d⟩ := s
  obtain ⟨q1, hq1⟩ : ∃ q1 : Bool, q1 = decide (DelOk a b) := ⟨_, rfl⟩
  obtain ⟨q2, hq2⟩ : ∃ q2 : Bool, q2 = decide (DelOk c d) := ⟨_, rfl⟩
  have K1 := Lib.hid (gdel_any a b q1 (by simp [hq1]))
  have K2 := Lib.hid (gdel_any c d q2 (by simp [hq2]))
  have HQ : Hid (q = (q1 && q2)) := by
    unfold Hid
    rw [Bool.eq_iff_iff, hq, hq1, hq2]
    simp [Ch.Form]
  clear hq hq1 hq2
  unfold chV
  dsimp only
  obtain ⟨W, hW⟩ : ∃ W, w.alloc (.cells #[.int .i64 t, .int .i64 a, .int .i64 b, .int .i64 c, .int .i64 d] 24) = W := ⟨_, rfl⟩
  have T0 : Five W w.heap.size 24 (.int .i64 t) (.int .i64 a) (.int .i64 b) (.int .i64 c) (.int .i64 d) := by rw [← hW]; exact Five.new w _ _ _ _ _ _
  have hb : Hid (Below w.heap.size w W) := by rw [← hW]; exact below_alloc w _
  have t1 := T0.c1
  have t2 := T0.c2
  have t3 := T0.c3
  have t4 := T0.c4
  have t5 := T0.lt
  clear T0
  cases q1 with
  | true =>
    go_enter Try.func34, Try.ntmps34
    go_wp2_with (first
      | (go_at_call 42; (with_reducible refine (K1.out _).mono ?_); rintro e w' ⟨rfl, rfl⟩; clear K1)
      | (go_at_call 42; (with_reducible refine (K2.out _).mono ?_); rintro e w' ⟨rfl, rfl⟩; clear K2))
    go_ret
    exact ⟨by rw [HQ.out]; rfl, hb.out⟩
  | false =>
    go_enter Try.func34, Try.ntmps34
    go_wp2_with (go_at_call 42; (with_reducible refine (K1.out _).mono ?_); rintro e w' ⟨rfl, rfl⟩; clear K1)
    go_ret
    exact ⟨by rw [HQ.out]; rfl, hb.out⟩

theorem gvalid_any (l h : Int) (q : Bool) (hq : q = true ↔ IvOk l h) (w : World) :
    Calls Try.prog 28 #[rgV l h] w (Gives (.bool q) w) := by
  have hd : q = decide (0 ≤ l ∧ l ≤ h ∧ h ≤ 3000000000000000) := by rw [Bool.eq_iff_iff, decide_eq_true_iff]; exact hq
  subst hd
  clear hq
  unfold rgV
  obtain ⟨W, hW⟩ : ∃ W, w.alloc (.cells #[.int .i64 l, .int .i64 h] 26) = W := ⟨_, rfl⟩
  have T0 : Two W w.heap.size 26 (.int .i64 l) (.int .i64 h) := by rw [← hW]; exact Two.new w _ _ _
  have hb : Hid (Below w.heap.size w W) := by rw [← hW]; exact below_alloc w _
  have t0 := T0.c0
  have t1 := T0.c1
  have t4 := T0.lt
  clear T0
  rcases (by omega : l < 0 ∨ (0 ≤ l ∧ h < l) ∨ (0 ≤ l ∧ l ≤ h)) with c | ⟨c, c2⟩ | ⟨c, c2⟩
  · have d0 : decide (0 ≤ l) = false := by simp; omega
    go_enter Try.func28, Try.ntmps28
    go_wp2_with fail
    go_ret
    exact ⟨by simp; omega, hb.out⟩
  · have d0 : decide (0 ≤ l) = true := by simp; omega
    have d1 : decide (l ≤ h) = false := by simp; omega
    go_enter Try.func28, Try.ntmps28
    go_wp2_with fail
    go_ret
    exact ⟨by simp; omega, hb.out⟩
  · have d0 : decide (0 ≤ l) = true := by simp; omega
    have d1 : decide (l ≤ h) = true := by simp; omega
    go_enter Try.func28, Try.ntmps28
    go_wp2_with fail
    go_ret
    exact ⟨by simp [c, c2], hb.out⟩

set_option maxRecDepth 100000 in
set_option maxHeartbeats 8000000 in
theorem gbefore_any (l h x y : Int) (hi : IvOk l h) (x1 : 0 ≤ x) (x2 : x ≤ 1000000) (y1 : 0 ≤ y) (y2 : y ≤ 1000000) (v : Int × Int × Int) (hv : (if h - x < 0 then (0, 0, 22) else (max 0 (l - y), h - x, 0)) = v) (w : World) :
    Calls Try.prog 37 #[rgV l h, rgV x y] w (Gives (.tuple #[rgV v.1 v.2.1, .int .i64 v.2.2]) w) := by
  obtain ⟨i1, i2, i3⟩ := hi
  unfold rgV
  obtain ⟨m, hm⟩ : ∃ m, max (l - y) 0 = m := ⟨_, rfl⟩
  have hm2 : max 0 (l - y) = m := by omega
  rw [hm2] at hv
  by_cases g : h - x < 0
  · rw [if_pos g] at hv
    subst hv
    have dg : decide (h - x < 0) = true := by simp; omega
    dsimp only
    clear g
    obtain ⟨W, hW⟩ : ∃ W, (((w.alloc (.cells #[.int .i64 l, .int .i64 h] 26)).alloc (.cells #[.int .i64 x, .int .i64 y] 27)).alloc (.cells #[.int .i64 0, .int .i64 0] 26)) = W := ⟨_, rfl⟩
    have I : Hid (Two W (w.heap.size) 26 (.int .i64 l) (.int .i64 h)) := by
      rw [← hW]
      have k := Two.new w 26 (.int .i64 l) (.int .i64 h)
      exact ((k).alloc _).alloc _
    have Q : Hid (Two W (w.heap.size + 1) 27 (.int .i64 x) (.int .i64 y)) := by
      rw [← hW]
      have k := Two.new (w.alloc (.cells #[.int .i64 l, .int .i64 h] 26)) 27 (.int .i64 x) (.int .i64 y)
      rw [show (w.alloc (.cells #[.int .i64 l, .int .i64 h] 26)).heap.size = w.heap.size + 1 by simp] at k
      exact (k).alloc _
    have R : Hid (Two W (w.heap.size + 1 + 1) 26 (.int .i64 0) (.int .i64 0)) := by
      rw [← hW]
      have k := Two.new ((w.alloc (.cells #[.int .i64 l, .int .i64 h] 26)).alloc (.cells #[.int .i64 x, .int .i64 y] 27)) 26 (.int .i64 0) (.int .i64 0)
      rw [show ((w.alloc (.cells #[.int .i64 l, .int .i64 h] 26)).alloc (.cells #[.int .i64 x, .int .i64 y] 27)).heap.size = w.heap.size + 1 + 1 by simp] at k
      exact k
    have BB : Hid (Below w.heap.size w W) := by rw [← hW]; exact ((below_alloc w _).alloc (by simp) _).alloc (by simp; omega) _
    have i_0 := I.out.c0
    have i_1 := I.out.c1
    have i_l := I.out.lt
    have q_0 := Q.out.c0
    have q_1 := Q.out.c1
    have q_l := Q.out.lt
    have r_0 := R.out.c0
    have r_1 := R.out.c1
    have r_l := R.out.lt
    have r_f0 := R.out.free 0
    have r_f1 := R.out.free 1
    have Gr : Hid (w.heap.size ≤ w.heap.size + 1 + 1) := by unfold Hid; omega
    have RN : Hid (Two (W.alloc (.cells #[.int .i64 m, .int .i64 (h - x)] 26)) (w.heap.size + 1 + 1) 26 (.int .i64 0) (.int .i64 0)) := R.out.alloc _
    have n_0 := RN.out.c0
    have n_1 := RN.out.c1
    have n_l := RN.out.lt
    have n_f0 := RN.out.free 0
    have n_f1 := RN.out.free 1
    clear RN
    go_enter Try.func37, Try.ntmps37
    go_wp2_with fail
    refine bodyPost_ret (v := .tuple #[.agg #[.int .i64 (0), .int .i64 (0)], .int .i64 22]) (by simp [results, Try.results37, go_sem, r_0, r_1, r_l, n_0, n_1, n_l]) rfl ⟨rfl, ?_⟩
    have bz := BB.out.setCell (p := ⟨w.heap.size + 1 + 1, 0, none⟩) (by first | exact Gr.out | (show w.heap.size ≤ w.heap.size + 1 + 1; omega)) (.int .i64 (0))
    have bz2 := bz.setCell (p := ⟨w.heap.size + 1 + 1, 1, none⟩) (by first | exact Gr.out | (show w.heap.size ≤ w.heap.size + 1 + 1; omega)) (.int .i64 (0))
    exact bz2.alloc bz2.size _
  · rw [if_neg g] at hv
    subst hv
    have dg : decide (h - x < 0) = false := by simp; omega
    dsimp only
    clear g
    obtain ⟨W, hW⟩ : ∃ W, (((w.alloc (.cells #[.int .i64 l, .int .i64 h] 26)).alloc (.cells #[.int .i64 x, .int .i64 y] 27)).alloc (.cells #[.int .i64 0, .int .i64 0] 26)) = W := ⟨_, rfl⟩
    have I : Hid (Two W (w.heap.size) 26 (.int .i64 l) (.int .i64 h)) := by
      rw [← hW]
      have k := Two.new w 26 (.int .i64 l) (.int .i64 h)
      exact ((k).alloc _).alloc _
    have Q : Hid (Two W (w.heap.size + 1) 27 (.int .i64 x) (.int .i64 y)) := by
      rw [← hW]
      have k := Two.new (w.alloc (.cells #[.int .i64 l, .int .i64 h] 26)) 27 (.int .i64 x) (.int .i64 y)
      rw [show (w.alloc (.cells #[.int .i64 l, .int .i64 h] 26)).heap.size = w.heap.size + 1 by simp] at k
      exact (k).alloc _
    have R : Hid (Two W (w.heap.size + 1 + 1) 26 (.int .i64 0) (.int .i64 0)) := by
      rw [← hW]
      have k := Two.new ((w.alloc (.cells #[.int .i64 l, .int .i64 h] 26)).alloc (.cells #[.int .i64 x, .int .i64 y] 27)) 26 (.int .i64 0) (.int .i64 0)
      rw [show ((w.alloc (.cells #[.int .i64 l, .int .i64 h] 26)).alloc (.cells #[.int .i64 x, .int .i64 y] 27)).heap.size = w.heap.size + 1 + 1 by simp] at k
      exact k
    have BB : Hid (Below w.heap.size w W) := by rw [← hW]; exact ((below_alloc w _).alloc (by simp) _).alloc (by simp; omega) _
    have i_0 := I.out.c0
    have i_1 := I.out.c1
    have i_l := I.out.lt
    have q_0 := Q.out.c0
    have q_1 := Q.out.c1
    have q_l := Q.out.lt
    have r_0 := R.out.c0
    have r_1 := R.out.c1
    have r_l := R.out.lt
    have r_f0 := R.out.free 0
    have r_f1 := R.out.free 1
    have Gr : Hid (w.heap.size ≤ w.heap.size + 1 + 1) := by unfold Hid; omega
    have RN : Hid (Two (W.alloc (.cells #[.int .i64 m, .int .i64 (h - x)] 26)) (w.heap.size + 1 + 1) 26 (.int .i64 0) (.int .i64 0)) := R.out.alloc _
    have n_0 := RN.out.c0
    have n_1 := RN.out.c1
    have n_l := RN.out.lt
    have n_f0 := RN.out.free 0
    have n_f1 := RN.out.free 1
    clear RN
    go_enter Try.func37, Try.ntmps37
    go_wp2_with fail
    refine bodyPost_ret (v := .tuple #[.agg #[.int .i64 (m), .int .i64 (h - x)], .int .i64 0]) (by simp [results, Try.results37, go_sem, r_0, r_1, r_l, n_0, n_1, n_l]) rfl ⟨rfl, ?_⟩
    have bz := BB.out.setCell (p := ⟨w.heap.size + 1 + 1, 0, none⟩) (by first | exact Gr.out | (show w.heap.size ≤ w.heap.size + 1 + 1; omega)) (.int .i64 (m))
    have bz2 := bz.setCell (p := ⟨w.heap.size + 1 + 1, 1, none⟩) (by first | exact Gr.out | (show w.heap.size ≤ w.heap.size + 1 + 1; omega)) (.int .i64 (h - x))
    exact bz2.alloc bz2.size _
set_option maxRecDepth 100000 in
set_option maxHeartbeats 8000000 in
theorem gjoin_any (s z : Ch) (hs : s.Int64) (hz : z.Int64) (w : World) :
    Calls Try.prog 31 #[chV s, chV z] w (Gives (chV (joinR s z)) w) := by
  obtain ⟨t, a, b, c, d⟩ := s
  obtain ⟨t2, a2, b2, c2, d2⟩ := z
  unfold chV joinR
  dsimp only
  obtain ⟨a', ha⟩ : ∃ x, min a a2 = x := ⟨_, rfl⟩
  obtain ⟨b', hb⟩ : ∃ x, max b b2 = x := ⟨_, rfl⟩
  obtain ⟨c', hc⟩ : ∃ x, min c c2 = x := ⟨_, rfl⟩
  obtain ⟨d', hd⟩ : ∃ x, max d d2 = x := ⟨_, rfl⟩
  rw [ha, hb, hc, hd]
  obtain ⟨W, hW⟩ : ∃ W, (((w.alloc (.cells #[.int .i64 t, .int .i64 a, .int .i64 b, .int .i64 c, .int .i64 d] 24)).alloc (.cells #[.int .i64 t2, .int .i64 a2, .int .i64 b2, .int .i64 c2, .int .i64 d2] 24)).alloc (.cells #[.int .i64 0, .int .i64 0, .int .i64 0, .int .i64 0, .int .i64 0] 24)) = W := ⟨_, rfl⟩
  have P : Hid (Five W (w.heap.size) 24 (.int .i64 t) (.int .i64 a) (.int .i64 b) (.int .i64 c) (.int .i64 d)) := by
    rw [← hW]
    have k := Five.new w 24 (.int .i64 t) (.int .i64 a) (.int .i64 b) (.int .i64 c) (.int .i64 d)
    exact ((k).alloc _).alloc _
  have Q : Hid (Five W (w.heap.size + 1) 24 (.int .i64 t2) (.int .i64 a2) (.int .i64 b2) (.int .i64 c2) (.int .i64 d2)) := by
    rw [← hW]
    have k := Five.new (w.alloc (.cells #[.int .i64 t, .int .i64 a, .int .i64 b, .int .i64 c, .int .i64 d] 24)) 24 (.int .i64 t2) (.int .i64 a2) (.int .i64 b2) (.int .i64 c2) (.int .i64 d2)
    rw [show (w.alloc (.cells #[.int .i64 t, .int .i64 a, .int .i64 b, .int .i64 c, .int .i64 d] 24)).heap.size = w.heap.size + 1 by simp] at k
    exact (k).alloc _
  have R : Hid (Five W (w.heap.size + 1 + 1) 24 (.int .i64 0) (.int .i64 0) (.int .i64 0) (.int .i64 0) (.int .i64 0)) := by
    rw [← hW]
    have k := Five.new ((w.alloc (.cells #[.int .i64 t, .int .i64 a, .int .i64 b, .int .i64 c, .int .i64 d] 24)).alloc (.cells #[.int .i64 t2, .int .i64 a2, .int .i64 b2, .int .i64 c2, .int .i64 d2] 24)) 24 (.int .i64 0) (.int .i64 0) (.int .i64 0) (.int .i64 0) (.int .i64 0)
    rw [show ((w.alloc (.cells #[.int .i64 t, .int .i64 a, .int .i64 b, .int .i64 c, .int .i64 d] 24)).alloc (.cells #[.int .i64 t2, .int .i64 a2, .int .i64 b2, .int .i64 c2, .int .i64 d2] 24)).heap.size = w.heap.size + 1 + 1 by simp] at k
    exact k
  have BB : Hid (Below w.heap.size w W) := by rw [← hW]; exact ((below_alloc w _).alloc (by simp) _).alloc (by simp; omega) _
  have p_0 := P.out.c0
  have p_1 := P.out.c1
  have p_2 := P.out.c2
  have p_3 := P.out.c3
  have p_4 := P.out.c4
  have p_l := P.out.lt
  have q_0 := Q.out.c0
  have q_1 := Q.out.c1
  have q_2 := Q.out.c2
  have q_3 := Q.out.c3
  have q_4 := Q.out.c4
  have q_l := Q.out.lt
  have r_0 := R.out.c0
  have r_1 := R.out.c1
  have r_2 := R.out.c2
  have r_3 := R.out.c3
  have r_4 := R.out.c4
  have r_l := R.out.lt
  have r_f0 := R.out.free 0
  have r_f1 := R.out.free 1
  have r_f2 := R.out.free 2
  have r_f3 := R.out.free 3
  have r_f4 := R.out.free 4
  go_enter Try.func31, Try.ntmps31
  go_wp2_with fail
  refine bodyPost_ret (v := .agg #[.int .i64 t, .int .i64 a', .int .i64 b', .int .i64 c', .int .i64 d']) (by simp [results, Try.results31, go_sem, r_0, r_1, r_2, r_3, r_4, r_l]) rfl ⟨rfl, ?_⟩
  exact (((((BB.out.setCell (p := ⟨w.heap.size + 1 + 1, 0, none⟩) (by show w.heap.size ≤ w.heap.size + 1 + 1; omega) _).setCell (p := ⟨w.heap.size + 1 + 1, 1, none⟩) (by show w.heap.size ≤ w.heap.size + 1 + 1; omega) _).setCell (p := ⟨w.heap.size + 1 + 1, 2, none⟩) (by show w.heap.size ≤ w.heap.size + 1 + 1; omega) _).setCell (p := ⟨w.heap.size + 1 + 1, 3, none⟩) (by show w.heap.size ≤ w.heap.size + 1 + 1; omega) _).setCell (p := ⟨w.heap.size + 1 + 1, 4, none⟩) (by show w.heap.size ≤ w.heap.size + 1 + 1; omega) _)
end Go.Proofs.Ytkeahbdeddjoeaa
