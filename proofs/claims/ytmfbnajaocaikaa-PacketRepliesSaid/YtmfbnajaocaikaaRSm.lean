/- Layer 11: the reference's small functions: in, Request, half, Upper, Lower. -/
import Derived.Laws.BitsLemmas
import Derived.Test.YtmfbnajaocaikaaPkt
namespace Go.Proofs.Ytmfbnajaocaikaa
open Go.RowKit Go.Sort Go
set_option linter.unusedVariables false
set_option linter.unusedSimpArgs false

theorem rin_any (n lo hi : Int) (q : Bool) (hq : q = true ↔ lo ≤ n ∧ n ≤ hi) (w : World) :
    Calls Try.prog 37 #[.int .i64 n, .int .i64 lo, .int .i64 hi] w fun e w' => e = .returned (.bool q) ∧ w = w' := by
  have hd : q = decide (lo ≤ n ∧ n ≤ hi) := by rw [Bool.eq_iff_iff, decide_eq_true_iff]; exact hq
  subst hd
  clear hq
  by_cases c : lo ≤ n
  · have d0 : decide (lo ≤ n) = true := by simp; omega
    go_enter Try.func37, Try.ntmps37
    go_wp2_with fail
    go_ret
    exact ⟨by simp [c], rfl⟩
  · have d0 : decide (lo ≤ n) = false := by simp; omega
    go_enter Try.func37, Try.ntmps37
    go_wp2_with fail
    go_ret
    exact ⟨by simp [c], rfl⟩
theorem rhalf_any (n : Int) (q : Bool) (hq : q = true ↔ Half n) (w : World) :
    Calls Try.prog 31 #[.int .i64 n] w fun e w' => e = .returned (.bool q) ∧ w = w' := by
  have K := Lib.hid (rin_any n 0 4294967295 q hq)
  clear hq
  go_enter Try.func31, Try.ntmps31
  go_wp2_with (go_at_call 37; (with_reducible refine (K.out _).mono ?_); rintro e w' ⟨rfl, rfl⟩)
  go_ret
  exact ⟨rfl, rfl⟩
theorem rreq_any (q : Rq) (b : Bool) (hb : b = true ↔ q.Ok) (w : World) :
    Calls Try.prog 20 #[rqV q] w (Gives (.bool b) w) := by
  obtain ⟨h, a, r, n⟩ := q
  obtain ⟨b1, h1⟩ : ∃ b1 : Bool, b1 = decide (1 ≤ h ∧ h ≤ 64) := ⟨_, rfl⟩
  obtain ⟨b2, h2⟩ : ∃ b2 : Bool, b2 = decide (1 ≤ a ∧ a ≤ 16) := ⟨_, rfl⟩
  obtain ⟨b3, h3⟩ : ∃ b3 : Bool, b3 = decide (1 ≤ r ∧ r ≤ 200) := ⟨_, rfl⟩
  have K1 := Lib.hid (rin_any h 1 64 b1 (by rw [h1]; simp))
  have K2 := Lib.hid (rin_any a 1 16 b2 (by rw [h2]; simp))
  have K3 := Lib.hid (rin_any r 1 200 b3 (by rw [h3]; simp))
  have HB : Hid (b = (b1 && (b2 && b3))) := by
    unfold Hid
    rw [Bool.eq_iff_iff, hb, h1, h2, h3]
    unfold Rq.Ok RqOk
    simp
  clear hb h1 h2 h3
  unfold rqV
  dsimp only
  obtain ⟨W, hW⟩ : ∃ W, w.alloc (.cells #[.int .i64 h, .int .i64 a, .int .i64 r, .int .u64 n] 24) = W := ⟨_, rfl⟩
  have T0 : Four W w.heap.size 24 (.int .i64 h) (.int .i64 a) (.int .i64 r) (.int .u64 n) := by rw [← hW]; exact Four.new w _ _ _ _ _
  have B0 : Hid (Below w.heap.size w W) := by rw [← hW]; exact below_alloc w _
  have t0 := T0.c0
  have t1 := T0.c1
  have t2 := T0.c2
  have t4 := T0.lt
  clear T0
  cases b1 <;> cases b2 <;> cases b3
  all_goals
    go_enter Try.func20, Try.ntmps20
    go_wp2_with (first
      | (go_at_call 37; (with_reducible refine (K1.out _).mono ?_); rintro e w' ⟨rfl, rfl⟩; clear K1)
      | (go_at_call 37; (with_reducible refine (K2.out _).mono ?_); rintro e w' ⟨rfl, rfl⟩; clear K2)
      | (go_at_call 37; (with_reducible refine (K3.out _).mono ?_); rintro e w' ⟨rfl, rfl⟩; clear K3))
    go_ret
    exact ⟨by rw [HB.out]; rfl, B0.out⟩
theorem rup_any (n : Int) (hn : U64 n) (w : World) : Calls Try.prog 42 #[.int .u64 n] w fun e w' => e = .returned (.int .i64 (n / 4294967296)) ∧ w = w' := by
  obtain ⟨n1, n2⟩ := hn
  obtain ⟨u, hu⟩ : ∃ u, n / 4294967296 = u := ⟨_, rfl⟩
  have u1 : 0 ≤ u ∧ u ≤ 4294967295 := by omega
  rw [hu]
  go_enter Try.func42, Try.ntmps42
  go_wp2_with fail
  go_ret
  exact ⟨rfl, rfl⟩
theorem mask_low (n : Int) (hn : U64 n) : bits BinOp.and IntKind.u64 n 4294967295 = n % 4294967296 := by
  obtain ⟨n1, n2⟩ := hn
  have h := bits_mask .u64 64 (by decide) (fun n h0 h1 => by rw [show (2 : Int) ^ 64 = 18446744073709551616 by decide] at h1; rw [IntKind.wrap_u64]; omega) 32 (by decide) n n1 (by rw [show (2 : Int) ^ 64 = 18446744073709551616 by decide]; omega)
  have e : ((2 : Int) ^ 32 - 1) = 4294967295 := by decide
  have e2 : ((2 : Int) ^ 32) = 4294967296 := by decide
  rw [e, e2] at h
  exact h
theorem rlow_any (n : Int) (hn : U64 n) (w : World) : Calls Try.prog 43 #[.int .u64 n] w fun e w' => e = .returned (.int .i64 (n % 4294967296)) ∧ w = w' := by
  obtain ⟨n1, n2⟩ := hn
  have hm := mask_low n ⟨n1, n2⟩
  obtain ⟨u, hu⟩ : ∃ u, n % 4294967296 = u := ⟨_, rfl⟩
  have u1 : 0 ≤ u ∧ u ≤ 4294967295 := by omega
  rw [hu] at hm ⊢
  go_enter Try.func43, Try.ntmps43
  go_wp2_with fail
  go_ret
  exact ⟨rfl, rfl⟩
end Go.Proofs.Ytmfbnajaocaikaa
