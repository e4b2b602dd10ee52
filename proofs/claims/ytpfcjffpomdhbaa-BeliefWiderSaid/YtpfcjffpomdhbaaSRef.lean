/- Layer 1: contracts of the reference implementation: it returns the same plain functions. -/
import Derived.Test.YtpfcjffpomdhbaaSFacts
import Derived.BigQuiet
import Derived.Deep.QuietTactic
namespace Go.Proofs.Ytpfcjffpomdhbaa
open Go.RowKit Go
set_option linter.unusedVariables false

theorem refTime_yes (x : Int) (h1 : -3000000000000000 ≤ x) (h2 : x ≤ 3000000000000000) (w : World) :
    Calls Try.prog 57 #[.int .i64 x] w fun e w' => e = .returned (.bool true) ∧ w = w' := by
  go_enter Try.func57, Try.ntmps57
  go_wp2
  go_ret
  exact ⟨rfl, rfl⟩

theorem refTime_no (x : Int) (h : x < -3000000000000000 ∨ 3000000000000000 < x) (w : World) :
    Calls Try.prog 57 #[.int .i64 x] w fun e w' => e = .returned (.bool false) ∧ w = w' := by
  by_cases h1 : -3000000000000000 ≤ x
  · have h2 : ¬ x ≤ 3000000000000000 := by omega
    clear h
    go_enter Try.func57, Try.ntmps57
    go_wp2
    go_ret
    exact ⟨rfl, rfl⟩
  · clear h
    go_enter Try.func57, Try.ntmps57
    go_wp2
    go_ret
    exact ⟨rfl, rfl⟩

theorem refFactor_yes (x : Int) (h1 : 0 ≤ x) (h2 : x ≤ 2000000000) (w : World) :
    Calls Try.prog 58 #[.int .i64 x] w fun e w' => e = .returned (.bool true) ∧ w = w' := by
  go_enter Try.func58, Try.ntmps58
  go_wp2
  go_ret
  exact ⟨rfl, rfl⟩

theorem refFactor_no (x : Int) (h : x < 0 ∨ 2000000000 < x) (w : World) :
    Calls Try.prog 58 #[.int .i64 x] w fun e w' => e = .returned (.bool false) ∧ w = w' := by
  by_cases h1 : 0 ≤ x
  · have h2 : ¬ x ≤ 2000000000 := by omega
    clear h
    go_enter Try.func58, Try.ntmps58
    go_wp2
    go_ret
    exact ⟨rfl, rfl⟩
  · clear h
    go_enter Try.func58, Try.ntmps58
    go_wp2
    go_ret
    exact ⟨rfl, rfl⟩

theorem right_yes (a n d : Int) (h : rOK a n d) (w : World) :
    Calls Try.prog 51 #[.int .i64 a, .int .i64 n, .int .i64 d] w fun e w' => e = .returned (.bool true) ∧ w = w' := by
  obtain ⟨h1, h2, h3, h4, h5, h6⟩ := h
  have T : Hid _ := fun w => refTime_yes a h1 h2 w
  have N : Hid _ := fun w => refFactor_yes n h3 h4 w
  have D : Hid _ := fun w => refFactor_yes d (by omega) h6 w
  go_enter Try.func51, Try.ntmps51
  go_wp2_with fail
  refine (T.out _).mono ?_
  rintro e w' ⟨rfl, rfl⟩
  go_wp2_with fail
  refine (N.out _).mono ?_
  rintro e w' ⟨rfl, rfl⟩
  go_wp2_with fail
  refine (D.out _).mono ?_
  rintro e w' ⟨rfl, rfl⟩
  go_wp2_with fail
  go_ret
  exact ⟨rfl, rfl⟩

theorem right_no (a n d : Int) (h : ¬ rOK a n d) (w : World) :
    Calls Try.prog 51 #[.int .i64 a, .int .i64 n, .int .i64 d] w fun e w' => e = .returned (.bool false) ∧ w = w' := by
  by_cases c1 : a < -3000000000000000 ∨ 3000000000000000 < a
  · have T : Hid _ := fun w => refTime_no a c1 w
    clear h c1
    go_enter Try.func51, Try.ntmps51
    go_wp2_with fail
    refine (T.out _).mono ?_
    rintro e w' ⟨rfl, rfl⟩
    go_wp2_with fail
    go_ret
    exact ⟨rfl, rfl⟩
  · have T : Hid _ := fun w => refTime_yes a (by omega) (by omega) w
    by_cases c2 : n < 0 ∨ 2000000000 < n
    · have N : Hid _ := fun w => refFactor_no n c2 w
      clear h c1 c2
      go_enter Try.func51, Try.ntmps51
      go_wp2_with fail
      refine (T.out _).mono ?_
      rintro e w' ⟨rfl, rfl⟩
      go_wp2_with fail
      refine (N.out _).mono ?_
      rintro e w' ⟨rfl, rfl⟩
      go_wp2_with fail
      go_ret
      exact ⟨rfl, rfl⟩
    · have N : Hid _ := fun w => refFactor_yes n (by omega) (by omega) w
      by_cases c3 : d < 0 ∨ 2000000000 < d
      · have D : Hid _ := fun w => refFactor_no d c3 w
        clear h c1 c2 c3
        go_enter Try.func51, Try.ntmps51
        go_wp2_with fail
        refine (T.out _).mono ?_
        rintro e w' ⟨rfl, rfl⟩
        go_wp2_with fail
        refine (N.out _).mono ?_
        rintro e w' ⟨rfl, rfl⟩
        go_wp2_with fail
        refine (D.out _).mono ?_
        rintro e w' ⟨rfl, rfl⟩
        go_wp2_with fail
        go_ret
        exact ⟨rfl, rfl⟩
      · obtain rfl : d = 0 := by unfold rOK at h; omega
        have D : Hid _ := fun w => refFactor_yes 0 (by omega) (by omega) w
        clear h c1 c2 c3
        go_enter Try.func51, Try.ntmps51
        go_wp2_with fail
        refine (T.out _).mono ?_
        rintro e w' ⟨rfl, rfl⟩
        go_wp2_with fail
        refine (N.out _).mono ?_
        rintro e w' ⟨rfl, rfl⟩
        go_wp2_with fail
        refine (D.out _).mono ?_
        rintro e w' ⟨rfl, rfl⟩
        go_wp2_with fail
        go_ret
        exact ⟨rfl, rfl⟩

theorem result_near (x : Int) (w : World) : Calls Try.prog 53 #[.int .i64 x, .bool true] w fun e w' => e = .returned (pairV (finR x)) ∧ w = w' := by
  by_cases h : -3000000000000000 ≤ x ∧ x ≤ 3000000000000000
  · have T : Hid _ := fun w => refTime_yes x h.1 h.2 w
    rw [finR, if_pos h]
    clear h
    go_enter Try.func53, Try.ntmps53
    go_wp2_with fail
    refine (T.out _).mono ?_
    rintro e w' ⟨rfl, rfl⟩
    go_wp2_with fail
    go_ret2
    exact ⟨rfl, rfl⟩
  · have T : Hid _ := fun w => refTime_no x (by omega) w
    rw [finR, if_neg h]
    clear h
    go_enter Try.func53, Try.ntmps53
    go_wp2_with fail
    refine (T.out _).mono ?_
    rintro e w' ⟨rfl, rfl⟩
    go_wp2_with fail
    go_ret2
    exact ⟨rfl, rfl⟩

theorem result_far (x : Int) (w : World) : Calls Try.prog 53 #[.int .i64 x, .bool false] w fun e w' => e = .returned (pairV (0, 3)) ∧ w = w' := by
  go_enter Try.func53, Try.ntmps53
  go_wp2_with fail
  go_ret2
  exact ⟨rfl, rfl⟩

/-! ### The division -/

theorem trunc_parts (a d : Int) (hd : 1 ≤ d) : (a.tmod d < 0 → a.tdiv d - 1 = a / d ∧ a.tmod d + d = a % d) ∧ (0 ≤ a.tmod d → a.tdiv d = a / d ∧ a.tmod d = a % d) := by
  have e1 := Int.mul_tdiv_add_tmod a d
  by_cases ha : 0 ≤ a
  · have m := Int.tmod_nonneg d ha
    rw [Int.tdiv_eq_ediv_of_nonneg ha, Int.tmod_eq_emod_of_nonneg ha]
    have := Int.emod_nonneg a (show d ≠ 0 by omega)
    exact ⟨fun h => by omega, fun _ => ⟨rfl, rfl⟩⟩
  · obtain ⟨k, rfl⟩ : ∃ k, a = -k := ⟨-a, by omega⟩
    have hk : 0 ≤ k := by omega
    have m1 := Int.emod_nonneg k (show d ≠ 0 by omega)
    have m2 := Int.emod_lt_of_pos k (show 0 < d by omega)
    obtain ⟨p1, p2⟩ := neg_parts k d hd
    rw [Int.neg_tdiv, Int.neg_tmod, Int.tdiv_eq_ediv_of_nonneg hk, Int.tmod_eq_emod_of_nonneg hk, p1, p2]
    generalize k / d = q at *
    generalize k % d = r at *
    refine ⟨fun h => ?_, fun h => ?_⟩
    · rw [if_neg (by omega), if_neg (by omega)]; omega
    · rw [if_pos (by omega), if_pos (by omega)]; omega

theorem trunc_bound (a d : Int) (hd : 1 ≤ d) (h1 : -3000000000000000 ≤ a) (h2 : a ≤ 3000000000000000) : -3000000000000000 ≤ a.tdiv d ∧ a.tdiv d ≤ 3000000000000000 := by
  have : (a.tdiv d).natAbs ≤ a.natAbs := by rw [Int.natAbs_tdiv]; exact Nat.div_le_self _ _
  omega

/-- What Split finds far, no rounding brings back. -/
theorem split_out (a n d : Int) (h3 : 1 ≤ n) (h5 : 1 ≤ d) (h : 3000000000000000 / n < a / d ∨ 3000000000000000 / n + 1 < -(a / d)) (x : Int) (hx : x = a * n / d ∨ x = a * n / d + 1 ∧ 0 < a * n % d) : x < -3000000000000000 ∨ 3000000000000000 < x := by
  have e := Int.mul_ediv_add_emod a d
  have r1 := Int.emod_nonneg a (show d ≠ 0 by omega)
  have r2 := Int.emod_lt_of_pos a (show 0 < d by omega)
  have f := Int.lt_ediv_add_one_mul_self 3000000000000000 (show 0 < n by omega)
  generalize hm : (3000000000000000 : Int) / n = m at *
  have g1 := Int.mul_ediv_add_emod (a * n) d
  have g2 := Int.emod_nonneg (a * n) (show d ≠ 0 by omega)
  have g3 := Int.emod_lt_of_pos (a * n) (show 0 < d by omega)
  rcases h with h | h
  · right
    have k1 : (m + 1) * n ≤ a / d * n := Int.mul_le_mul_of_nonneg_right (by omega) (by omega)
    have k2 : a / d * n ≤ a * n / d := by
      rw [Int.le_ediv_iff_mul_le (by omega)]
      have := Int.mul_le_mul_of_nonneg_right (Int.ediv_mul_le a (show d ≠ 0 by omega)) (show 0 ≤ n by omega)
      rw [Int.mul_right_comm] at this
      exact this
    omega
  · left
    have k1 : (m + 1) * n ≤ (-(a / d) - 1) * n := Int.mul_le_mul_of_nonneg_right (by omega) (by omega)
    have k2 : a * n / d < (a / d + 1) * n := by
      rw [Int.ediv_lt_iff_lt_mul (by omega)]
      have := Int.mul_lt_mul_of_pos_right (Int.lt_ediv_add_one_mul_self a (show 0 < d by omega)) (show 0 < n by omega)
      rw [Int.mul_right_comm] at this
      exact this
    have k3 : (-(a / d) - 1) * n = -((a / d + 1) * n) := by rw [← Int.neg_mul]; congr 1; omega
    rw [k3] at k1
    generalize (a / d + 1) * n = Z at *
    rcases hx with rfl | ⟨rfl, _⟩ <;> omega

theorem split_parts (a n d : Int) (h5 : 1 ≤ d) : a / d * n + a % d * n / d = a * n / d ∧ a % d * n % d = a * n % d := by
  have e := Int.mul_ediv_add_emod a d
  have e2 : a * n = a % d * n + d * (a / d * n) := by
    conv => lhs; rw [← e]
    rw [Int.add_mul, Int.mul_assoc]; omega
  rw [e2, Int.add_mul_ediv_left _ _ (show d ≠ 0 by omega), Int.add_mul_emod_self_left]
  exact ⟨by omega, rfl⟩

def farS (a n d : Int) : Prop := 1 ≤ n ∧ (3000000000000000 / n < a / d ∨ 3000000000000000 / n + 1 < -(a / d))

set_option maxRecDepth 100000 in
set_option maxHeartbeats 1000000 in
theorem split_far_walk (a n d T U m : Int) (hn : 1 ≤ n) (h4 : n ≤ 2000000000) (h5 : 1 ≤ d) (h6 : d ≤ 2000000000) (hT : a.tdiv d = T) (hU : a.tmod d = U) (hm : 3000000000000000 / n = m)
    (b1 : -3000000000000000 ≤ T) (b2 : T ≤ 3000000000000000) (b3 : -d < U) (b4 : U < d) (m1 : 0 ≤ m) (m2 : m ≤ 3000000000000000)
    (hf : U < 0 ∧ (m < T - 1 ∨ m + 1 < -(T - 1)) ∨ 0 ≤ U ∧ (m < T ∨ m + 1 < -T)) (w : World) :
    Calls Try.prog 52 #[.int .i64 a, .int .i64 n, .int .i64 d] w (Drawn (.tuple #[.int .i64 0, .int .i64 0, .bool false]) w) := by
  have c0 : (d == 0) = false := by simp; omega
  have cn : (n == 0) = false := by simp; omega
  rcases hf with ⟨u, hf⟩ | ⟨u, hf⟩
  · rcases Decidable.em (m < T - 1) with h | h
    · clear hf
      go_enter Try.func52, Try.ntmps52
      go_wp2_with fail
      go_ret3
      exact ⟨0, rfl, rfl⟩
    · have h' : m + 1 < -(T - 1) := hf.resolve_left h
      clear hf
      go_enter Try.func52, Try.ntmps52
      go_wp2_with fail
      go_ret3
      exact ⟨0, rfl, rfl⟩
  · rcases Decidable.em (m < T) with h | h
    · clear hf
      go_enter Try.func52, Try.ntmps52
      go_wp2_with fail
      go_ret3
      exact ⟨0, rfl, rfl⟩
    · have h' : m + 1 < -T := hf.resolve_left h
      clear hf
      go_enter Try.func52, Try.ntmps52
      go_wp2_with fail
      go_ret3
      exact ⟨0, rfl, rfl⟩

set_option maxRecDepth 100000 in
set_option maxHeartbeats 1000000 in
theorem split_near_walk (a n d T U Q A B D : Int) (hn : 0 ≤ n) (h4 : n ≤ 2000000000) (h5 : 1 ≤ d) (h6 : d ≤ 2000000000) (hT : a.tdiv d = T) (hU : a.tmod d = U)
    (b1 : -3000000000000000 ≤ T) (b2 : T ≤ 3000000000000000) (b3 : -d < U) (b4 : U < d)
    (hq : U < 0 ∧ T - 1 = Q ∧ (U + d) * n = B ∨ 0 ≤ U ∧ T = Q ∧ U * n = B) (hA : Q * n = A) (hD : B / d = D)
    (a1 : -4000000000000000000 ≤ A) (a2 : A ≤ 4000000000000000000) (q1 : 0 ≤ B) (q2 : B ≤ 4000000000000000000) (d1 : 0 ≤ D) (d2 : D ≤ 4000000000000000000)
    (hm : n = 0 ∨ 1 ≤ n ∧ ∃ m, 3000000000000000 / n = m ∧ 0 ≤ m ∧ m ≤ 3000000000000000 ∧ ¬ m < Q ∧ ¬ m + 1 < -Q) (w : World) :
    Calls Try.prog 52 #[.int .i64 a, .int .i64 n, .int .i64 d] w (Drawn (.tuple #[.int .i64 (A + D), .int .i64 (B % d), .bool true]) w) := by
  have c0 : (d == 0) = false := by simp; omega
  have x1 : IntKind.i64.wrap A = A := IntWalk.i64_in _ (by omega)
  have x2 : IntKind.i64.wrap B = B := IntWalk.i64_in _ (by omega)
  have x3 : IntKind.i64.wrap D = D := IntWalk.i64_in _ (by omega)
  have x4 : IntKind.i64.wrap (A + D) = A + D := IntWalk.i64_in _ (by omega)
  rcases hm with rfl | ⟨hn1, m, hm, m1, m2, k1, k2⟩
  · rcases hq with ⟨u, hQ, hB⟩ | ⟨u, hQ, hB⟩
    · go_enter Try.func52, Try.ntmps52
      go_wp2_with fail
      go_quiet (fail)
      go_wp2_with fail
      go_ret3
      exact ⟨_, rfl, rfl⟩
    · go_enter Try.func52, Try.ntmps52
      go_wp2_with fail
      go_quiet (fail)
      go_wp2_with fail
      go_ret3
      exact ⟨_, rfl, rfl⟩
  · have cn : (n == 0) = false := by simp; omega
    rcases hq with ⟨u, hQ, hB⟩ | ⟨u, hQ, hB⟩
    · go_enter Try.func52, Try.ntmps52
      go_wp2_with fail
      go_quiet (fail)
      go_wp2_with fail
      go_ret3
      exact ⟨_, rfl, rfl⟩
    · go_enter Try.func52, Try.ntmps52
      go_wp2_with fail
      go_quiet (fail)
      go_wp2_with fail
      go_ret3
      exact ⟨_, rfl, rfl⟩

theorem tmod_bound (a d : Int) (hd : 1 ≤ d) : -d < a.tmod d ∧ a.tmod d < d := by
  have h := Int.natAbs_tmod a d
  have m := Nat.mod_lt a.natAbs (show d.natAbs > 0 by omega)
  omega

theorem split_any (a n d : Int) (h : rOK a n d) (w : World) :
    (farS a n d → Calls Try.prog 52 #[.int .i64 a, .int .i64 n, .int .i64 d] w (Drawn (.tuple #[.int .i64 0, .int .i64 0, .bool false]) w)) ∧
    (¬ farS a n d → Calls Try.prog 52 #[.int .i64 a, .int .i64 n, .int .i64 d] w (Drawn (.tuple #[.int .i64 (a * n / d), .int .i64 (a * n % d), .bool true]) w)) := by
  obtain ⟨h1, h2, h3, h4, h5, h6⟩ := h
  obtain ⟨t1, t2⟩ := trunc_parts a d h5
  obtain ⟨b1, b2⟩ := trunc_bound a d h5 h1 h2
  obtain ⟨b3, b4⟩ := tmod_bound a d h5
  have M : 1 ≤ n → 0 ≤ 3000000000000000 / n ∧ 3000000000000000 / n ≤ 3000000000000000 := fun hn => ⟨Int.ediv_nonneg (by omega) (by omega), Int.ediv_le_self _ (by omega)⟩
  refine ⟨fun hf => ?_, fun hf => ?_⟩
  · obtain ⟨hn, hf⟩ := hf
    obtain ⟨m1, m2⟩ := M hn
    refine split_far_walk a n d _ _ _ hn h4 h5 h6 rfl rfl rfl b1 b2 b3 b4 m1 m2 ?_ w
    by_cases u : a.tmod d < 0
    · left; rw [(t1 u).1]; exact ⟨u, hf⟩
    · right; rw [(t2 (by omega)).1]; exact ⟨by omega, hf⟩
  · obtain ⟨p1, p2⟩ := split_parts a n d h5
    have m1 := Int.emod_nonneg a (show d ≠ 0 by omega)
    have m2 := Int.emod_lt_of_pos a (show 0 < d by omega)
    have q1 : 0 ≤ a % d * n := Int.mul_nonneg m1 h3
    have q2 : a % d * n ≤ 2000000000 * 2000000000 := Int.mul_le_mul (by omega) h4 h3 (by omega)
    have d1 : 0 ≤ a % d * n / d := Int.ediv_nonneg q1 (by omega)
    have d2 : a % d * n / d ≤ a % d * n := Int.ediv_le_self _ q1
    have qb : -3000000000000001 ≤ a / d ∧ a / d ≤ 3000000000000000 := by
      by_cases u : a.tmod d < 0
      · have := (t1 u).1; omega
      · have := (t2 (by omega)).1; omega
    have ab : -4000000000000000000 ≤ a / d * n ∧ a / d * n ≤ 4000000000000000000 := by
      by_cases hn : n = 0
      · subst hn; omega
      · have hn1 : 1 ≤ n := by omega
        have k : ¬ (3000000000000000 / n < a / d ∨ 3000000000000000 / n + 1 < -(a / d)) := fun h => hf ⟨hn1, h⟩
        have e1 := Int.ediv_mul_le 3000000000000000 (show n ≠ 0 by omega)
        have e2 : a / d * n ≤ 3000000000000000 / n * n := Int.mul_le_mul_of_nonneg_right (by omega) h3
        have e3 : (-(a / d)) * n ≤ (3000000000000000 / n + 1) * n := Int.mul_le_mul_of_nonneg_right (by omega) h3
        rw [Int.neg_mul, Int.add_mul] at e3
        omega
    rw [← p1, ← p2]
    refine split_near_walk a n d _ _ _ _ _ _ h3 h4 h5 h6 rfl rfl b1 b2 b3 b4 ?_ rfl rfl ab.1 ab.2 q1 (by omega) d1 (by omega) ?_ w
    · by_cases u : a.tmod d < 0
      · left; exact ⟨u, (t1 u).1, by rw [(t1 u).2]⟩
      · right; exact ⟨by omega, (t2 (by omega)).1, by rw [(t2 (by omega)).2]⟩
    · by_cases hn : n = 0
      · exact .inl hn
      · right
        have hn1 : 1 ≤ n := by omega
        have k : ¬ (3000000000000000 / n < a / d ∨ 3000000000000000 / n + 1 < -(a / d)) := fun h => hf ⟨hn1, h⟩
        exact ⟨hn1, _, rfl, (M hn1).1, (M hn1).2, by omega, by omega⟩

theorem ref_bounds (a n d : Int) (h : rOK a n d) (hf : ¬ farS a n d) : -4000000000000000000 ≤ a * n / d ∧ a * n / d ≤ 4000000000000000000 := by
  obtain ⟨h1, h2, h3, h4, h5, h6⟩ := h
  obtain ⟨p1, p2⟩ := split_parts a n d h5
  have m1 := Int.emod_nonneg a (show d ≠ 0 by omega)
  have m2 := Int.emod_lt_of_pos a (show 0 < d by omega)
  have q1 : 0 ≤ a % d * n := Int.mul_nonneg m1 h3
  have d1 : 0 ≤ a % d * n / d := Int.ediv_nonneg q1 (by omega)
  have d2 : a % d * n / d ≤ n := by
    have : a % d * n ≤ d * n := Int.mul_le_mul_of_nonneg_right (by omega) h3
    have := Int.ediv_le_ediv (show 0 < d by omega) this
    rw [Int.mul_ediv_cancel_left _ (show d ≠ 0 by omega)] at this
    exact this
  by_cases hn : n = 0
  · subst hn; simp
  · have hn1 : 1 ≤ n := by omega
    have k : ¬ (3000000000000000 / n < a / d ∨ 3000000000000000 / n + 1 < -(a / d)) := fun h => hf ⟨hn1, h⟩
    have e1 := Int.ediv_mul_le 3000000000000000 (show n ≠ 0 by omega)
    have e2 : a / d * n ≤ 3000000000000000 / n * n := Int.mul_le_mul_of_nonneg_right (by omega) h3
    have e3 : (-(a / d)) * n ≤ (3000000000000000 / n + 1) * n := Int.mul_le_mul_of_nonneg_right (by omega) h3
    rw [Int.neg_mul, Int.add_mul] at e3
    omega

theorem nearR_same (a n d : Int) (h3 : 0 ≤ n) (h5 : 1 ≤ d) : nearR a d (a * n / d) (a * n % d) = if d < 2 * (a * n % d) ∨ 2 * (a * n % d) = d ∧ 0 ≤ a * n / d then a * n / d + 1 else a * n / d := by
  have r := rem_bounds a n d h5
  have e : 2 * (a * n % d) = d → (0 < a ↔ 0 ≤ a * n / d) := by
    intro h
    refine ⟨fun ha => Int.ediv_nonneg (Int.mul_nonneg (by omega) h3) (by omega), fun hq => ?_⟩
    by_cases ha : 0 < a
    · exact ha
    · exfalso
      have k : a * n ≤ 0 := Int.mul_nonpos_of_nonpos_of_nonneg (by omega) h3
      have g := Int.mul_ediv_add_emod (a * n) d
      have g2 : 0 ≤ d * (a * n / d) := Int.mul_nonneg (by omega) hq
      omega
  unfold nearR
  by_cases c : 2 * (a * n % d) = d
  · have := e c
    split <;> split <;> omega
  · split <;> split <;> omega

set_option maxRecDepth 100000 in
set_option maxHeartbeats 1000000 in
theorem refFloor_any (a n d : Int) (w : World) : Calls Try.prog 44 #[.int .i64 a, .int .i64 n, .int .i64 d] w (Gives (pairV (floorR a n d)) w) := by
  by_cases h : rOK a n d
  · have RY : Hid _ := right_yes a n d h
    have S := split_any a n d h
    by_cases hf : farS a n d
    · have SF : Hid _ := fun w => (S w).1 hf
      rw [floorR, if_pos h, finR_out _ (split_out a n d hf.1 h.2.2.2.2.1 hf.2 _ (.inl rfl))]
      have RF : Hid _ := result_far 0
      clear S hf h
      go_enter Try.func44, Try.ntmps44
      go_wp2_with fail
      refine (RY.out _).mono ?_
      rintro e w' ⟨rfl, rfl⟩
      go_wp2_with fail
      refine (SF.out _).mono ?_
      rintro e w' ⟨m, rfl, rfl⟩
      go_wp2_with fail
      refine (RF.out _).mono ?_
      rintro e w' ⟨rfl, rfl⟩
      unfold pairV
      go_wp2_with fail
      go_ret2
      exact ⟨rfl, below_draws (Below.refl _ _) _⟩
    · have SF : Hid _ := fun w => (S w).2 hf
      rw [floorR, if_pos h]
      have RF : Hid _ := result_near (a * n / d)
      clear S hf h
      generalize a * n % d = r at *
      generalize a * n / d = q at *
      cases hq : finR q with
      | mk x e =>
      rw [hq] at RF
      clear hq
      go_enter Try.func44, Try.ntmps44
      go_wp2_with fail
      refine (RY.out _).mono ?_
      rintro e w' ⟨rfl, rfl⟩
      go_wp2_with fail
      refine (SF.out _).mono ?_
      rintro e w' ⟨m, rfl, rfl⟩
      go_wp2_with fail
      refine (RF.out _).mono ?_
      rintro e w' ⟨rfl, rfl⟩
      unfold pairV
      go_wp2_with fail
      go_ret2
      exact ⟨rfl, below_draws (Below.refl _ _) _⟩
  · have RN : Hid _ := right_no a n d h
    rw [floorR, if_neg h]
    clear h
    go_enter Try.func44, Try.ntmps44
    go_wp2_with fail
    refine (RN.out _).mono ?_
    rintro e w' ⟨rfl, rfl⟩
    go_wp2_with fail
    go_ret2
    exact ⟨rfl, Below.refl _ _⟩

set_option maxRecDepth 100000 in
set_option maxHeartbeats 1000000 in
theorem refCeil_any (a n d : Int) (w : World) : Calls Try.prog 45 #[.int .i64 a, .int .i64 n, .int .i64 d] w (Gives (pairV (ceilR' a n d)) w) := by
  by_cases h : rOK a n d
  · have RY : Hid _ := right_yes a n d h
    have S := split_any a n d h
    by_cases hf : farS a n d
    · have SF : Hid _ := fun w => (S w).1 hf
      rw [ceilR', if_pos h, finR_out _ (split_out a n d hf.1 h.2.2.2.2.1 hf.2 _ (by unfold ceilR; split <;> simp_all))]
      have RF : Hid _ := result_far 0
      clear S hf h
      go_enter Try.func45, Try.ntmps45
      go_wp2_with fail
      refine (RY.out _).mono ?_
      rintro e w' ⟨rfl, rfl⟩
      go_wp2_with fail
      refine (SF.out _).mono ?_
      rintro e w' ⟨m, rfl, rfl⟩
      go_wp2_with fail
      refine (RF.out _).mono ?_
      rintro e w' ⟨rfl, rfl⟩
      unfold pairV
      go_wp2_with fail
      go_ret2
      exact ⟨rfl, below_draws (Below.refl _ _) _⟩
    · have SF : Hid _ := fun w => (S w).2 hf
      rw [ceilR', if_pos h]
      have RF : Hid _ := result_near (ceilR (a * n / d) (a * n % d))
      have B := ref_bounds a n d h hf
      clear S hf h
      generalize a * n % d = r at *
      generalize a * n / d = q at *
      cases hq : finR (ceilR q r) with
      | mk x e =>
      rw [hq] at RF
      clear hq
      unfold ceilR at RF
      by_cases c : 0 < r
      · rw [if_pos c] at RF
        go_enter Try.func45, Try.ntmps45
        go_wp2_with fail
        refine (RY.out _).mono ?_
        rintro e w' ⟨rfl, rfl⟩
        go_wp2_with fail
        refine (SF.out _).mono ?_
        rintro e w' ⟨m, rfl, rfl⟩
        go_wp2_with fail
        refine (RF.out _).mono ?_
        rintro e w' ⟨rfl, rfl⟩
        unfold pairV
        go_wp2_with fail
        go_ret2
        exact ⟨rfl, below_draws (Below.refl _ _) _⟩
      · rw [if_neg c] at RF
        go_enter Try.func45, Try.ntmps45
        go_wp2_with fail
        refine (RY.out _).mono ?_
        rintro e w' ⟨rfl, rfl⟩
        go_wp2_with fail
        refine (SF.out _).mono ?_
        rintro e w' ⟨m, rfl, rfl⟩
        go_wp2_with fail
        refine (RF.out _).mono ?_
        rintro e w' ⟨rfl, rfl⟩
        unfold pairV
        go_wp2_with fail
        go_ret2
        exact ⟨rfl, below_draws (Below.refl _ _) _⟩
  · have RN : Hid _ := right_no a n d h
    rw [ceilR', if_neg h]
    clear h
    go_enter Try.func45, Try.ntmps45
    go_wp2_with fail
    refine (RN.out _).mono ?_
    rintro e w' ⟨rfl, rfl⟩
    go_wp2_with fail
    go_ret2
    exact ⟨rfl, Below.refl _ _⟩

end Go.Proofs.Ytpfcjffpomdhbaa
