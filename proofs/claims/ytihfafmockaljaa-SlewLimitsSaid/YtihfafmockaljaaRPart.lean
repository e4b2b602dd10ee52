/- Layer 9: the reference's Part; the laws' abs and far. -/
import Derived.Test.YtihfafmockaljaaSlw
namespace Go.Proofs.Ytihfafmockaljaa
open Go.RowKit Go
set_option linter.unusedVariables false
set_option linter.unusedSimpArgs false

theorem rdown_any (a : Int) (h1 : -1000000000000000000 ≤ a) (h2 : a ≤ 1000000000000000000) (w : World) :
    Calls Try.prog 20 #[.int .i64 a, .int .i64 1000000000] w fun e w' => e = .returned (.int .i64 (a / 1000000000)) ∧ w = w' := by
  obtain ⟨q, hq⟩ : ∃ q, a.tdiv 1000000000 = q := ⟨_, rfl⟩
  obtain ⟨m, hm⟩ : ∃ m, a.tmod 1000000000 = m := ⟨_, rfl⟩
  have k := Int.mul_tdiv_add_tmod a 1000000000
  rw [hq, hm] at k
  by_cases c : m < 0
  · have b2 : a < 0 := by
      rcases Int.lt_or_le a 0 with x | x
      · exact x
      · have := Int.tmod_nonneg 1000000000 x; omega
    have b : -1000000000 < m := by
      rw [← hm]
      have e1 : a.tmod 1000000000 = -((-a).tmod 1000000000) := by rw [Int.neg_tmod, Int.neg_neg]
      have := Int.tmod_lt_of_pos (-a) (show (0 : Int) < 1000000000 by omega)
      omega
    have e : a / 1000000000 = q - 1 := by omega
    rw [e]
    have d : decide (m < 0) = true := by simp; omega
    have q1 : -1000000001 ≤ q := by omega
    have q2 : q ≤ 1000000000 := by omega
    clear k e b b2
    go_enter Try.func20, Try.ntmps20
    go_wp2_with fail
    go_ret
    exact ⟨rfl, rfl⟩
  · have b : m < 1000000000 := by rw [← hm]; exact Int.tmod_lt_of_pos a (by omega)
    have e : a / 1000000000 = q := by omega
    rw [e]
    have d : decide (m < 0) = false := by simp; omega
    have q1 : -1000000001 ≤ q := by omega
    have q2 : q ≤ 1000000000 := by omega
    clear k e b
    go_enter Try.func20, Try.ntmps20
    go_wp2_with fail
    go_ret
    exact ⟨rfl, rfl⟩

theorem rpart_any (n r : Int) (h1 : 0 ≤ n) (h2 : n ≤ 4000000000000000) (h3 : -100000000 ≤ r) (h4 : r ≤ 100000000) (w : World) :
    Calls Try.prog 11 #[.int .i64 n, .int .i64 r] w fun e w' => e = .returned (.int .i64 (part n r)) ∧ w = w' := by
  have E := Lib.hid (part_steps n r)
  obtain ⟨q, hq⟩ : ∃ q, n / 1000000000 = q := ⟨_, rfl⟩
  obtain ⟨m, hm⟩ : ∃ m, n % 1000000000 = m := ⟨_, rfl⟩
  have hq' : n.tdiv 1000000000 = q := by rw [Int.tdiv_eq_ediv_of_nonneg h1]; exact hq
  have hm' : n.tmod 1000000000 = m := by rw [Int.tmod_eq_emod_of_nonneg h1]; exact hm
  have q0 : 0 ≤ q := by omega
  have q1 : q ≤ 4000000 := by omega
  have m0 : 0 ≤ m := by omega
  have m1 : m ≤ 999999999 := by omega
  rw [hq, hm] at E
  have a1 := Int.mul_le_mul_of_nonneg_left h3 q0
  have a2 := Int.mul_le_mul_of_nonneg_left h4 q0
  have b1 := Int.mul_le_mul_of_nonneg_left h3 m0
  have b2 := Int.mul_le_mul_of_nonneg_left h4 m0
  obtain ⟨x, hx⟩ : ∃ x, q * r = x := ⟨_, rfl⟩
  obtain ⟨y, hy⟩ : ∃ y, m * r = y := ⟨_, rfl⟩
  rw [hx] at E a1 a2
  rw [hy] at E b1 b2
  have x1 : -400000000000000 ≤ x := by omega
  have x2 : x ≤ 400000000000000 := by omega
  have y1 : -100000000000000000 ≤ y := by omega
  have y2 : y ≤ 100000000000000000 := by omega
  have D := Lib.hid (rdown_any y (by omega) (by omega))
  obtain ⟨z, hz⟩ : ∃ z, y / 1000000000 = z := ⟨_, rfl⟩
  rw [hz] at D E
  have z1 : -100000001 ≤ z := by omega
  have z2 : z ≤ 100000001 := by omega
  rw [← E.out]
  clear E a1 a2 b1 b2 hz
  go_enter Try.func11, Try.ntmps11
  go_wp2_with (go_at_call 20; (with_reducible refine (D.out _).mono ?_); rintro e w' ⟨rfl, rfl⟩)
  go_ret
  exact ⟨rfl, rfl⟩

theorem abs_any (n : Int) (h1 : -9000000000000000000 ≤ n) (h2 : n ≤ 9000000000000000000) (w : World) :
    Calls Try.prog 14 #[.int .i64 n] w fun e w' => e = .returned (.int .i64 (max n (-n))) ∧ w = w' := by
  go_enter Try.func14, Try.ntmps14
  go_wp2_with fail
  go_ret
  exact ⟨rfl, rfl⟩

def Far (n : Int) : Prop := n < 2000000000000 ∨ 2998000000000000 < n
instance (n : Int) : Decidable (Far n) := by unfold Far; infer_instance
theorem far_any (n : Int) (q : Bool) (hq : q = true ↔ Far n) (w : World) :
    Calls Try.prog 15 #[.int .i64 n] w fun e w' => e = .returned (.bool q) ∧ w = w' := by
  have hd : q = decide (n < 2000000000000 ∨ 2998000000000000 < n) := by rw [Bool.eq_iff_iff, decide_eq_true_iff]; exact hq
  subst hd
  clear hq
  go_enter Try.func15, Try.ntmps15
  by_cases h : n < 2000000000000
  · go_wp2_with fail
    go_ret
    exact ⟨by simp_all <;> omega, rfl⟩
  · go_wp2_with fail
    go_ret
    exact ⟨by simp_all <;> omega, rfl⟩
end Go.Proofs.Ytihfafmockaljaa
