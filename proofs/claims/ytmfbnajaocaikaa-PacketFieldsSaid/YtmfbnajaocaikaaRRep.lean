/- Layer 11: the reference's Reply (gen/gen_put.py writes this). -/
import Derived.Deep.CutBlock
import Derived.Deep.DeepCutAuto
import Derived.Test.YtmfbnajaocaikaaRPk
namespace Go.Proofs.Ytmfbnajaocaikaa
open Go.RowKit Go.Sort Go
set_option linter.unusedVariables false
set_option linter.unusedSimpArgs false

theorem rvalid_any (l h : Int) (q : Bool) (hq : q = true ↔ IvOk l h) (w : World) :
    Calls Try.prog 38 #[rgV l h] w (Gives (.bool q) w) := by
  have hd : q = decide (0 ≤ l ∧ l ≤ h ∧ h ≤ 3000000000000000) := by rw [Bool.eq_iff_iff, decide_eq_true_iff]; exact hq
  subst hd
  clear hq
  unfold rgV
  obtain ⟨W, hW⟩ : ∃ W, w.alloc (.cells #[.int .i64 l, .int .i64 h] 26) = W := ⟨_, rfl⟩
  have T0 : Two W w.heap.size 26 (.int .i64 l) (.int .i64 h) := by rw [← hW]; exact Two.new w _ _ _
  have hb : Hid (Below w.heap.size w W) := by rw [← hW]; exact below_alloc w _
  have t0 := T0.c0
  have t1 := T0.c1
  have t4 := T0.lt
  clear T0
  rcases (by omega : l < 0 ∨ (0 ≤ l ∧ h < l) ∨ (0 ≤ l ∧ l ≤ h)) with c | ⟨c, c2⟩ | ⟨c, c2⟩
  · have d0 : decide (0 ≤ l) = false := by simp; omega
    go_enter Try.func38, Try.ntmps38
    go_wp2_with fail
    go_ret
    exact ⟨by simp; omega, hb.out⟩
  · have d0 : decide (0 ≤ l) = true := by simp; omega
    have d1 : decide (l ≤ h) = false := by simp; omega
    go_enter Try.func38, Try.ntmps38
    go_wp2_with fail
    go_ret
    exact ⟨by simp; omega, hb.out⟩
  · have d0 : decide (0 ≤ l) = true := by simp; omega
    have d1 : decide (l ≤ h) = true := by simp; omega
    go_enter Try.func38, Try.ntmps38
    go_wp2_with fail
    go_ret
    exact ⟨by simp [c, c2], hb.out⟩

set_option maxHeartbeats 8000000 in
theorem rrep_any (p : Rp) (b : Bool) (hb : b = true ↔ p.Ok) (w : World) : Calls Try.prog 21 #[rpV p] w (Gives (.bool b) w) := by
  obtain ⟨a, h, r, n, l, u, k, t, c, s⟩ := p
  obtain ⟨b1, h1⟩ : ∃ b1 : Bool, b1 = decide (RqOk h a r) := ⟨_, rfl⟩
  obtain ⟨b2, h2⟩ : ∃ b2 : Bool, b2 = decide (IvOk l u) := ⟨_, rfl⟩
  obtain ⟨b3, h3⟩ : ∃ b3 : Bool, b3 = decide (0 ≤ k ∧ k ≤ 1000) := ⟨_, rfl⟩
  obtain ⟨b4, h4⟩ : ∃ b4 : Bool, b4 = decide (0 ≤ t ∧ t ≤ 1000) := ⟨_, rfl⟩
  obtain ⟨b5, h5⟩ : ∃ b5 : Bool, b5 = decide (0 ≤ c ∧ c ≤ 1073741788) := ⟨_, rfl⟩
  obtain ⟨b6, h6⟩ : ∃ b6 : Bool, b6 = decide (0 ≤ s ∧ s ≤ 1073741788) := ⟨_, rfl⟩
  have K1 := Lib.hid (rreq_any ⟨h, a, r, 0⟩ b1 (by rw [h1]; unfold Rq.Ok; simp))
  have K2 := Lib.hid (rvalid_any l u b2 (by rw [h2]; simp))
  have K3 := Lib.hid (rin_any k 0 1000 b3 (by rw [h3]; simp))
  have K4 := Lib.hid (rin_any t 0 1000 b4 (by rw [h4]; simp))
  have K5 := Lib.hid (rin_any c 0 1073741788 b5 (by rw [h5]; simp))
  have K6 := Lib.hid (rin_any s 0 1073741788 b6 (by rw [h6]; simp))
  have HB : Hid (b = (b1 && (b2 && (b3 && (b4 && (b5 && b6)))))) := by
    unfold Hid
    rw [Bool.eq_iff_iff, hb, h1, h2, h3, h4, h5, h6]
    unfold Rp.Ok
    simp
  clear hb h1 h2 h3 h4 h5 h6
  unfold rqV at K1
  unfold rgV at K2
  unfold rpV
  dsimp only at K1 ⊢
  obtain ⟨W, hW⟩ : ∃ W, w.alloc (.cells #[.int .i64 a, .int .i64 h, .int .i64 r, .int .u64 n, .int .i64 l, .int .i64 u, .int .i64 k, .int .i64 t, .int .i64 c, .int .i64 s] 30) = W := ⟨_, rfl⟩
  have T0 : Hid (Cells W w.heap.size 30 #[.int .i64 a, .int .i64 h, .int .i64 r, .int .u64 n, .int .i64 l, .int .i64 u, .int .i64 k, .int .i64 t, .int .i64 c, .int .i64 s]) := by rw [← hW]; exact Cells.new w _ _
  have B0 : Hid (Below w.heap.size w W) := by rw [← hW]; exact below_alloc w _
  have t0 := T0.out.c 0 rfl
  have t1 := T0.out.c 1 rfl
  have t2 := T0.out.c 2 rfl
  have t3 := T0.out.c 3 rfl
  have t4 := T0.out.c 4 rfl
  have t5 := T0.out.c 5 rfl
  have t6 := T0.out.c 6 rfl
  have t7 := T0.out.c 7 rfl
  have t8 := T0.out.c 8 rfl
  have t9 := T0.out.c 9 rfl
  have tl := T0.out.lt
  go_enter Try.func21, Try.ntmps21
  go_upto_region 7 with (first
    | (go_at_call 20; (with_reducible refine (K1.out _).mono ?_); rintro e w1 ⟨rfl, b9⟩; replace T0 := Lib.hid (T0.out.below b9 T0.out.lt); replace B0 := Lib.hid (below_more B0.out b9); replace t0 := T0.out.c 0 rfl; replace t1 := T0.out.c 1 rfl; replace t2 := T0.out.c 2 rfl; replace t3 := T0.out.c 3 rfl; replace t4 := T0.out.c 4 rfl; replace t5 := T0.out.c 5 rfl; replace t6 := T0.out.c 6 rfl; replace t7 := T0.out.c 7 rfl; replace t8 := T0.out.c 8 rfl; replace t9 := T0.out.c 9 rfl; replace tl := T0.out.lt; clear b9 K1)
    | (go_at_call 38; (with_reducible refine (K2.out _).mono ?_); rintro e w2 ⟨rfl, b9⟩; replace T0 := Lib.hid (T0.out.below b9 T0.out.lt); replace B0 := Lib.hid (below_more B0.out b9); replace t0 := T0.out.c 0 rfl; replace t1 := T0.out.c 1 rfl; replace t2 := T0.out.c 2 rfl; replace t3 := T0.out.c 3 rfl; replace t4 := T0.out.c 4 rfl; replace t5 := T0.out.c 5 rfl; replace t6 := T0.out.c 6 rfl; replace t7 := T0.out.c 7 rfl; replace t8 := T0.out.c 8 rfl; replace t9 := T0.out.c 9 rfl; replace tl := T0.out.lt; clear b9 K2)
    | (go_at_call 37; (with_reducible refine (K3.out _).mono ?_); rintro e w' ⟨rfl, rfl⟩; clear K3)
    | (go_at_call 37; (with_reducible refine (K4.out _).mono ?_); rintro e w' ⟨rfl, rfl⟩; clear K4)
    | (go_at_call 37; (with_reducible refine (K5.out _).mono ?_); rintro e w' ⟨rfl, rfl⟩; clear K5)
    | (go_at_call 37; (with_reducible refine (K6.out _).mono ?_); rintro e w' ⟨rfl, rfl⟩; clear K6))
  cases b1 <;> cases b2 <;> cases b3 <;> cases b4 <;> cases b5 <;> cases b6
  all_goals
    go_wp2_with fail
    go_ret
    exact ⟨by rw [HB.out]; rfl, B0.out⟩
end Go.Proofs.Ytmfbnajaocaikaa
