/- Layer 9: package slew's isTime, isLimit, isHorizon, valid, cut, signOf, times. -/
import Derived.Test.YtihfafmockaljaaSlw
import Derived.Test.YtihfafmockaljaaApi
namespace Go.Proofs.Ytihfafmockaljaa
open Go.RowKit Go
set_option linter.unusedVariables false
set_option linter.unusedSimpArgs false

theorem gtime_any (x : Int) (q : Bool) (hq : q = decide (TimeOk x)) (i : I64 x) (w : World) :
    Calls Try.prog 18 #[.int .i64 x] w fun e w' => e = .returned (.bool q) ∧ w = w' := by
  have hd : q = decide (0 ≤ x ∧ x ≤ 3000000000000000) := by rw [hq, Bool.eq_iff_iff, decide_eq_true_iff, decide_eq_true_iff]; exact Iff.rfl
  subst hd
  clear hq
  obtain ⟨h1, h2⟩ := i
  go_enter Try.func18, Try.ntmps18
  by_cases h : 0 ≤ x
  · go_wp2_with fail
    go_ret
    exact ⟨(by simp_all <;> omega), rfl⟩
  · go_wp2_with fail
    go_ret
    exact ⟨(by simp_all <;> omega), rfl⟩
theorem glimit_any (x : Int) (q : Bool) (hq : q = decide (0 ≤ x ∧ x ≤ 100000000)) (i : I64 x) (w : World) :
    Calls Try.prog 21 #[.int .i64 x] w fun e w' => e = .returned (.bool q) ∧ w = w' := by
  subst hq
  obtain ⟨h1, h2⟩ := i
  go_enter Try.func21, Try.ntmps21
  by_cases h : 0 ≤ x
  · go_wp2_with fail
    go_ret
    exact ⟨(by simp_all <;> omega), rfl⟩
  · go_wp2_with fail
    go_ret
    exact ⟨(by simp_all <;> omega), rfl⟩
theorem ghorizon_any (x : Int) (q : Bool) (hq : q = decide (1 ≤ x ∧ x ≤ 1000000000000)) (i : I64 x) (w : World) :
    Calls Try.prog 22 #[.int .i64 x] w fun e w' => e = .returned (.bool q) ∧ w = w' := by
  subst hq
  obtain ⟨h1, h2⟩ := i
  go_enter Try.func22, Try.ntmps22
  by_cases h : 1 ≤ x
  · go_wp2_with fail
    go_ret
    exact ⟨(by simp_all <;> omega), rfl⟩
  · go_wp2_with fail
    go_ret
    exact ⟨(by simp_all <;> omega), rfl⟩
theorem gvalid_any (p s r : Int) (q : Bool) (hq : q = decide (ClOk p s r)) (ip : I64 p) (is : I64 s) (ir : I64 r) (w : World) :
    Calls Try.prog 17 #[clV p s r] w (Gives (.bool q) w) := by
  subst hq
  obtain ⟨b1, hb1⟩ : ∃ b, decide (TimeOk p) = b := ⟨_, rfl⟩
  obtain ⟨b2, hb2⟩ : ∃ b, decide (TimeOk s) = b := ⟨_, rfl⟩
  have T1 := Lib.hid (gtime_any p b1 hb1.symm ip)
  have T2 := Lib.hid (gtime_any s b2 hb2.symm is)
  have E : Hid (decide (ClOk p s r) = (b1 && (b2 && (decide (-100000000 ≤ r) && decide (r ≤ 100000000))))) := by
    show decide (ClOk p s r) = _
    rw [← hb1, ← hb2, Bool.eq_iff_iff]
    simp only [Bool.and_eq_true, decide_eq_true_iff]
    exact Iff.rfl
  clear hb1 hb2
  unfold clV
  obtain ⟨h1, h2⟩ := ir
  generalize decide (ClOk p s r) = z at E ⊢
  go_enter Try.func17, Try.ntmps17
  cases b1 <;> cases b2 <;> by_cases h : -100000000 ≤ r <;>
  · go_wp2_with (first
      | (go_at_call 18; refine (T1.out _).mono ?_; rintro e w' ⟨rfl, rfl⟩; clear T1)
      | (go_at_call 18; refine (T2.out _).mono ?_; rintro e w' ⟨rfl, rfl⟩; clear T2))
    go_ret
    exact ⟨by have := E.out; simp_all <;> omega, below_alloc _ _⟩
theorem gcut_any (x m : Int) (i : I64 x) (hm : 0 ≤ m) (hm2 : m ≤ 100000000) (w : World) :
    Calls Try.prog 23 #[.int .i64 x, .int .i64 m] w fun e w' => e = .returned (.int .i64 (max (-m) (min x m))) ∧ w = w' := by
  obtain ⟨h1, h2⟩ := i
  go_enter Try.func23, Try.ntmps23
  go_wp2_with fail
  go_ret
  exact ⟨rfl, rfl⟩
theorem gsign_any (x : Int) (i : I64 x) (w : World) :
    Calls Try.prog 27 #[.int .i64 x] w fun e w' => e = .returned (.int .i64 (if x < 0 then -1 else 1)) ∧ w = w' := by
  obtain ⟨h1, h2⟩ := i
  by_cases h : x < 0
  · rw [if_pos h]
    go_enter Try.func27, Try.ntmps27
    go_wp2_with fail
    go_ret
    exact ⟨rfl, rfl⟩
  · rw [if_neg h]
    go_enter Try.func27, Try.ntmps27
    go_wp2_with fail
    go_ret
    exact ⟨rfl, rfl⟩
theorem gtimes_any (k x y : Int) (hk : k = 1 ∨ k = -1) (h : k * x = y) (i : I64 x) (j : I64 y) (w : World) :
    Calls Try.prog 28 #[.int .i64 k, .int .i64 x] w fun e w' => e = .returned (.int .i64 y) ∧ w = w' := by
  have e1 : wrap64 (k * x) = y := by rw [h]; obtain ⟨j1, j2⟩ := j; unfold wrap64; omega
  have e2 : IntKind.i64.wrap (k * x) = y := by rw [h]; obtain ⟨j1, j2⟩ := j; rw [IntKind.wrap_i64]; omega
  clear h hk
  go_enter Try.func28, Try.ntmps28
  go_wp2_with fail
  go_ret
  exact ⟨rfl, rfl⟩
end Go.Proofs.Ytihfafmockaljaa
