/- Layer 1, scale: contracts of its functions: each returns what the plain functions of XSpec say; nothing in memory that was there is changed. -/
import Derived.WalkKit
import Derived.BigQuiet
import Derived.Deep.QuietTactic
import Derived.Outline
import Derived.Test.YtihfafmockaljaaBase
import Derived.Test.YtihfafmockaljaaDiv
namespace Go.Proofs.Ytihfafmockaljaa
open Go.RowKit Go
set_option linter.unusedVariables false

def timeB (x : Int) : Bool := decide (-3000000000000000 ≤ x) && decide (x ≤ 3000000000000000)
def factB (x : Int) : Bool := decide (0 ≤ x) && decide (x ≤ 2000000000)

theorem isTime_yes (x : Int) (h1 : -3000000000000000 ≤ x) (h2 : x ≤ 3000000000000000) (w : World) :
    Calls Try.prog 33 #[.int .i64 x] w fun e w' => e = .returned (.bool true) ∧ w = w' := by
  go_enter Try.func33, Try.ntmps33
  go_wp2
  go_ret
  exact ⟨rfl, rfl⟩

theorem isTime_no (x : Int) (h : x < -3000000000000000 ∨ 3000000000000000 < x) (w : World) :
    Calls Try.prog 33 #[.int .i64 x] w fun e w' => e = .returned (.bool false) ∧ w = w' := by
  by_cases h1 : -3000000000000000 ≤ x
  · have h2 : ¬ x ≤ 3000000000000000 := by omega
    clear h
    go_enter Try.func33, Try.ntmps33
    go_wp2
    go_ret
    exact ⟨rfl, rfl⟩
  · clear h
    go_enter Try.func33, Try.ntmps33
    go_wp2
    go_ret
    exact ⟨rfl, rfl⟩

theorem isFactor_yes (x : Int) (h1 : 0 ≤ x) (h2 : x ≤ 2000000000) (w : World) :
    Calls Try.prog 36 #[.int .i64 x] w fun e w' => e = .returned (.bool true) ∧ w = w' := by
  go_enter Try.func36, Try.ntmps36
  go_wp2
  go_ret
  exact ⟨rfl, rfl⟩

theorem isFactor_no (x : Int) (h : x < 0 ∨ 2000000000 < x) (w : World) :
    Calls Try.prog 36 #[.int .i64 x] w fun e w' => e = .returned (.bool false) ∧ w = w' := by
  by_cases h1 : 0 ≤ x
  · have h2 : ¬ x ≤ 2000000000 := by omega
    clear h
    go_enter Try.func36, Try.ntmps36
    go_wp2
    go_ret
    exact ⟨rfl, rfl⟩
  · clear h
    go_enter Try.func36, Try.ntmps36
    go_wp2
    go_ret
    exact ⟨rfl, rfl⟩

set_option maxHeartbeats 400000 in
theorem divide_over (a : Int) (k n d h l : Nat) (ha : a = (k : Int) ∨ a = -(k : Int)) (hk : k ≤ 3000000000000000) (hn : n ≤ 2000000000) (hd : 1 ≤ d) (hd2 : d ≤ 2000000000)
    (mul : ∀ w, Calls Try.prog 29 #[.int .u64 (k : Int), .int .u64 (n : Int)] w fun e w' => e = .returned (.tuple #[.int .u64 (h : Int), .int .u64 (l : Int)]) ∧ w' = w)
    (hh : d ≤ h) (hh2 : h ≤ 18446744073709551615) (w : World) :
    Calls Try.prog 37 #[.int .i64 a, .int .i64 (n : Int), .int .i64 (d : Int)] w (Drawn (.tuple #[.int .i64 0, .int .i64 0, .bool false]) w) := by
  have M : Hid _ := mul
  clear mul
  have hm : max a (-a) = (k : Int) := by omega
  go_enter Try.func37, Try.ntmps37
  go_wp2_with (go_at_call 29; refine (M.out _).mono ?_; rintro e w' ⟨rfl, rfl⟩)
  go_ret3
  exact ⟨0, rfl, rfl⟩

def DIV (a : Int) (n d : Nat) (w : World) (v : Value) : Prop :=
  Calls Try.prog 37 #[.int .i64 a, .int .i64 (n : Int), .int .i64 (d : Int)] w (Drawn v w)

set_option maxHeartbeats 400000 in
theorem divide_walk (a : Int) (k n d h l q r : Nat) (v : Value) (ha : a = (k : Int) ∨ a = -(k : Int)) (hk : k ≤ 3000000000000000) (hn : n ≤ 2000000000) (hd : 1 ≤ d) (hd2 : d ≤ 2000000000)
    (mul : ∀ w, Calls Try.prog 29 #[.int .u64 (k : Int), .int .u64 (n : Int)] w fun e w' => e = .returned (.tuple #[.int .u64 (h : Int), .int .u64 (l : Int)]) ∧ w' = w)
    (div : ∀ w, Calls Try.prog 30 #[.int .u64 (h : Int), .int .u64 (l : Int), .int .u64 (d : Int)] w (Drawn (.tuple #[.int .u64 (q : Int), .int .u64 (r : Int)]) w))
    (hh : h < d) (hr : r < d) (hq : q ≤ 18446744073709551615)
    (hv : v = if 3000000000000000 < q then .tuple #[.int .i64 0, .int .i64 0, .bool false]
              else if 0 ≤ a then .tuple #[.int .i64 (q : Int), .int .i64 (r : Int), .bool true]
              else if r = 0 then .tuple #[.int .i64 (-(q : Int)), .int .i64 0, .bool true]
              else .tuple #[.int .i64 (-(q : Int) - 1), .int .i64 ((d : Int) - (r : Int)), .bool true]) (w : World) : DIV a n d w v := by
  unfold DIV
  have M : Hid _ := mul
  have D : Hid _ := div
  clear mul div
  have hm : max a (-a) = (k : Int) := by omega
  have hh' : ¬ ((d : Int) ≤ (h : Int)) := by omega
  by_cases c1 : 3000000000000000 < q
  · rw [if_pos c1] at hv
    subst hv
    go_enter Try.func37, Try.ntmps37
    go_wp2_with (first | (go_at_call 29; refine (M.out _).mono ?_; rintro e w' ⟨rfl, rfl⟩) | (go_at_call 30; refine (D.out _).mono ?_; rintro e w' ⟨m, rfl, rfl⟩))
    go_ret3
    exact ⟨_, rfl, rfl⟩
  · rw [if_neg c1] at hv
    by_cases c2 : 0 ≤ a
    · rw [if_pos c2] at hv
      subst hv
      go_enter Try.func37, Try.ntmps37
      go_wp2_with (first | (go_at_call 29; refine (M.out _).mono ?_; rintro e w' ⟨rfl, rfl⟩) | (go_at_call 30; refine (D.out _).mono ?_; rintro e w' ⟨m, rfl, rfl⟩))
      go_ret3
      exact ⟨_, rfl, rfl⟩
    · rw [if_neg c2] at hv
      by_cases c3 : r = 0
      · rw [if_pos c3] at hv
        subst hv
        subst c3
        go_enter Try.func37, Try.ntmps37
        go_wp2_with (first | (go_at_call 29; refine (M.out _).mono ?_; rintro e w' ⟨rfl, rfl⟩) | (go_at_call 30; refine (D.out _).mono ?_; rintro e w' ⟨m, rfl, rfl⟩))
        go_ret3
        exact ⟨_, rfl, rfl⟩
      · rw [if_neg c3] at hv
        subst hv
        have c4 : ((r : Int) == 0) = false := by simp; omega
        go_enter Try.func37, Try.ntmps37
        go_wp2_with (first | (go_at_call 29; refine (M.out _).mono ?_; rintro e w' ⟨rfl, rfl⟩) | (go_at_call 30; refine (D.out _).mono ?_; rintro e w' ⟨m, rfl, rfl⟩))
        go_ret3
        exact ⟨_, rfl, rfl⟩

/-- The result of a rounding: the integer, if it is a time. -/
def fin (x : Int) : Value := if -3000000000000000 ≤ x ∧ x ≤ 3000000000000000 then .tuple #[.int .i64 x, .int .i64 0] else .tuple #[.int .i64 0, .int .i64 3]

set_option maxHeartbeats 400000 in
theorem scaled_bad (a n d : Int) (f : Value) (h : a < -3000000000000000 ∨ 3000000000000000 < a ∨ n < 0 ∨ 2000000000 < n ∨ d < 1 ∨ 2000000000 < d) (w : World) :
    Calls Try.prog 31 #[.int .i64 a, .int .i64 n, .int .i64 d, f] w fun e w' => e = .returned (.tuple #[.int .i64 0, .int .i64 1]) ∧ w = w' := by
  by_cases c1 : a < -3000000000000000 ∨ 3000000000000000 < a
  · have T := fun w => isTime_no a c1 w
    have T' : Hid _ := T
    clear T c1 h
    go_enter Try.func31, Try.ntmps31
    go_wp2_with (go_at_call 33; refine (T'.out _).mono ?_; rintro e w' ⟨rfl, rfl⟩)
    go_ret2
    exact ⟨rfl, rfl⟩
  · have T' : Hid _ := fun w => isTime_yes a (by omega) (by omega) w
    by_cases c2 : n < 0 ∨ 2000000000 < n
    · have N' : Hid _ := fun w => isFactor_no n c2 w
      clear h c1 c2
      go_enter Try.func31, Try.ntmps31
      go_wp2_with (first | (go_at_call 33; refine (T'.out _).mono ?_; rintro e w' ⟨rfl, rfl⟩) | (go_at_call 36; refine (N'.out _).mono ?_; rintro e w' ⟨rfl, rfl⟩))
      go_ret2
      exact ⟨rfl, rfl⟩
    · have N' : Hid _ := fun w => isFactor_yes n (by omega) (by omega) w
      by_cases c3 : d = 0
      · subst c3
        have D' : Hid _ := fun w => isFactor_yes 0 (by omega) (by omega) w
        clear h c1 c2
        go_enter Try.func31, Try.ntmps31
        go_wp2_with fail
        refine (T'.out _).mono ?_
        rintro e w' ⟨rfl, rfl⟩
        go_wp2_with fail
        refine (N'.out _).mono ?_
        rintro e w' ⟨rfl, rfl⟩
        go_wp2_with fail
        refine (D'.out _).mono ?_
        rintro e w' ⟨rfl, rfl⟩
        go_wp2_with fail
        go_ret2
        exact ⟨rfl, rfl⟩
      · have D' : Hid _ := fun w => isFactor_no d (by omega) w
        clear h c1 c2
        go_enter Try.func31, Try.ntmps31
        go_wp2_with fail
        refine (T'.out _).mono ?_
        rintro e w' ⟨rfl, rfl⟩
        go_wp2_with fail
        refine (N'.out _).mono ?_
        rintro e w' ⟨rfl, rfl⟩
        go_wp2_with fail
        refine (D'.out _).mono ?_
        rintro e w' ⟨rfl, rfl⟩
        go_wp2_with fail
        go_ret2
        exact ⟨rfl, rfl⟩

set_option maxHeartbeats 400000 in
theorem scaled_far (a n d : Int) (f : Value) (h1 : -3000000000000000 ≤ a) (h2 : a ≤ 3000000000000000) (h3 : 0 ≤ n) (h4 : n ≤ 2000000000) (h5 : 1 ≤ d) (h6 : d ≤ 2000000000)
    (D : ∀ w, Calls Try.prog 37 #[.int .i64 a, .int .i64 n, .int .i64 d] w (Drawn (.tuple #[.int .i64 0, .int .i64 0, .bool false]) w)) (w : World) :
    Calls Try.prog 31 #[.int .i64 a, .int .i64 n, .int .i64 d, f] w (Drawn (.tuple #[.int .i64 0, .int .i64 3]) w) := by
  have T' : Hid _ := fun w => isTime_yes a (by omega) (by omega) w
  have N' : Hid _ := fun w => isFactor_yes n (by omega) (by omega) w
  have D' : Hid _ := fun w => isFactor_yes d (by omega) (by omega) w
  have V' : Hid _ := D
  have c0 : (d == 0) = false := by simp; omega
  clear D
  go_enter Try.func31, Try.ntmps31
  go_wp2_with fail
  refine (T'.out _).mono ?_
  rintro e w' ⟨rfl, rfl⟩
  go_wp2_with fail
  refine (N'.out _).mono ?_
  rintro e w' ⟨rfl, rfl⟩
  go_wp2_with fail
  refine (D'.out _).mono ?_
  rintro e w' ⟨rfl, rfl⟩
  go_wp2_with fail
  refine (V'.out _).mono ?_
  rintro e w' ⟨m, rfl, rfl⟩
  go_wp2_with fail
  go_ret2
  exact ⟨_, rfl, rfl⟩


theorem round_floor (q r : Int) (w : World) : Calls Try.prog 32 #[.int .i64 q, .int .i64 r] w fun e w' => e = .returned (.int .i64 q) ∧ w = w' := by
  go_enter Try.func32, Try.ntmps32
  go_wp2
  go_ret
  exact ⟨rfl, rfl⟩

def ceilR (q r : Int) : Int := if 0 < r then q + 1 else q
def nearR (a d q r : Int) : Int := if d < 2 * r ∨ 2 * r = d ∧ 0 < a then q + 1 else q

set_option maxHeartbeats 400000 in
theorem scaled_floor (a n d q r : Int) (h1 : -3000000000000000 ≤ a) (h2 : a ≤ 3000000000000000) (h3 : 0 ≤ n) (h4 : n ≤ 2000000000) (h5 : 1 ≤ d) (h6 : d ≤ 2000000000) (h7 : -4000000000000000 ≤ q) (h8 : q ≤ 4000000000000000) (h9 : 0 ≤ r) (h10 : r < d)
    (D : ∀ w, Calls Try.prog 37 #[.int .i64 a, .int .i64 n, .int .i64 d] w (Drawn (.tuple #[.int .i64 q, .int .i64 r, .bool true]) w)) (w : World) :
    Calls Try.prog 31 #[.int .i64 a, .int .i64 n, .int .i64 d, .func (.func 32) #[] #[]] w (Drawn (fin q) w) := by
  have T' : Hid _ := fun w => isTime_yes a (by omega) (by omega) w
  have N' : Hid _ := fun w => isFactor_yes n (by omega) (by omega) w
  have D' : Hid _ := fun w => isFactor_yes d (by omega) (by omega) w
  have V' : Hid _ := D
  have c0 : (d == 0) = false := by simp; omega
  have R' : Hid _ := fun w => round_floor q r w
  clear D h7 h8 h9 h10
  by_cases c1 : -3000000000000000 ≤ q ∧ q ≤ 3000000000000000
  all_goals
    first | rw [fin, if_pos c1] | rw [fin, if_neg c1]
    first | (have X' : Hid _ := fun w => isTime_yes q c1.1 c1.2 w) | (have X' : Hid _ := fun w => isTime_no q (by omega) w)
    clear c1
    go_enter Try.func31, Try.ntmps31
    go_wp2_with fail
    refine (T'.out _).mono ?_
    rintro e w' ⟨rfl, rfl⟩
    go_wp2_with fail
    refine (N'.out _).mono ?_
    rintro e w' ⟨rfl, rfl⟩
    go_wp2_with fail
    refine (D'.out _).mono ?_
    rintro e w' ⟨rfl, rfl⟩
    go_wp2_with fail
    refine (V'.out _).mono ?_
    rintro e w' ⟨m, rfl, rfl⟩
    go_wp2_with fail
    refine (R'.out _).mono ?_
    rintro e w' ⟨rfl, rfl⟩
    go_wp2_with fail
    refine (X'.out _).mono ?_
    rintro e w' ⟨rfl, rfl⟩
    go_wp2_with fail
    go_ret2
    exact ⟨_, rfl, rfl⟩

/-! ### The division, whatever the sign -/

theorem neg_div (P d : Nat) (hd : 1 ≤ d) : (-(P : Int)) / (d : Int) = (if P % d = 0 then -((P / d : Nat) : Int) else -((P / d : Nat) : Int) - 1) ∧ (-(P : Int)) % (d : Int) = (if P % d = 0 then 0 else (d : Int) - ((P % d : Nat) : Int)) := by
  have e := Nat.div_add_mod P d
  have m := Nat.mod_lt P hd
  have e' : (d : Int) * ((P / d : Nat) : Int) + ((P % d : Nat) : Int) = (P : Int) := by rw [← Int.natCast_mul, ← Int.natCast_add, e]
  generalize P / d = q at *
  generalize P % d = r at *
  by_cases h : r = 0
  · rw [if_pos h, if_pos h]
    subst h
    refine (Int.ediv_emod_unique (by omega)).2 ⟨?_, by omega, by omega⟩
    rw [Int.mul_neg]; omega
  · rw [if_neg h, if_neg h]
    refine (Int.ediv_emod_unique (by omega)).2 ⟨?_, by omega, by omega⟩
    rw [Int.mul_sub, Int.mul_neg]; omega

/-- The quotient is so great that no rounding of it is a time. -/
def far (a n d : Int) : Prop := 3000000000000000 < a.natAbs * n.toNat / d.toNat

theorem divide_any (a n d : Int) (h1 : -3000000000000000 ≤ a) (h2 : a ≤ 3000000000000000) (h3 : 0 ≤ n) (h4 : n ≤ 2000000000) (h5 : 1 ≤ d) (h6 : d ≤ 2000000000) (w : World) :
    (far a n d → Calls Try.prog 37 #[.int .i64 a, .int .i64 n, .int .i64 d] w (Drawn (.tuple #[.int .i64 0, .int .i64 0, .bool false]) w)) ∧
    (¬ far a n d → Calls Try.prog 37 #[.int .i64 a, .int .i64 n, .int .i64 d] w (Drawn (.tuple #[.int .i64 (a * n / d), .int .i64 (a * n % d), .bool true]) w)) := by
  obtain ⟨n, rfl⟩ := Int.eq_ofNat_of_zero_le h3
  obtain ⟨d, rfl⟩ := Int.eq_ofNat_of_zero_le (show 0 ≤ d by omega)
  obtain ⟨k, hk⟩ : ∃ k, k = a.natAbs := ⟨_, rfl⟩
  unfold far
  rw [← hk, Int.toNat_natCast, Int.toNat_natCast]
  have hP : k * n ≤ 3000000000000000 * 2000000000 := Nat.mul_le_mul (by omega) (by omega)
  have mul : ∀ w, Calls Try.prog 29 #[.int .u64 (k : Int), .int .u64 (n : Int)] w fun e w' => e = .returned (.tuple #[.int .u64 ((k * n / 18446744073709551616 : Nat) : Int), .int .u64 ((k * n % 18446744073709551616 : Nat) : Int)]) ∧ w' = w :=
    fun w => Try.bits_Mul64 k n (by omega) (by omega) w
  have ePQ := Nat.div_add_mod (k * n) 18446744073709551616
  have hl := Nat.mod_lt (k * n) (show 18446744073709551616 > 0 by decide)
  by_cases hh : d ≤ k * n / 18446744073709551616
  · have hf : 3000000000000000 < k * n / d := by
      have : 18446744073709551616 ≤ k * n / d := (Nat.le_div_iff_mul_le (by omega)).2 (by rw [Nat.mul_comm]; exact Nat.le_trans (Nat.mul_le_mul_right _ hh) (Nat.div_mul_le_self _ _))
      omega
    exact ⟨fun _ => divide_over a k n d _ _ (by omega) (by omega) (by omega) (by omega) (by omega) mul hh (by omega) w, fun h => absurd hf h⟩
  · have hq : k * n / d ≤ 18446744073709551615 := by
      have : k * n / d < 18446744073709551616 := Nat.div_lt_of_lt_mul (by
        have := Nat.mul_le_mul_right 18446744073709551616 (show k * n / 18446744073709551616 + 1 ≤ d by omega)
        rw [Nat.add_mul] at this
        omega)
      omega
    have div : ∀ w, Calls Try.prog 30 #[.int .u64 ((k * n / 18446744073709551616 : Nat) : Int), .int .u64 ((k * n % 18446744073709551616 : Nat) : Int), .int .u64 (d : Int)] w (Drawn (.tuple #[.int .u64 ((k * n / d : Nat) : Int), .int .u64 ((k * n % d : Nat) : Int)]) w) := by
      intro w
      have := div64_any (k * n / 18446744073709551616) (k * n % 18446744073709551616) d (by omega) (by omega) (by omega) hl w
      rw [Nat.mul_comm (k * n / 18446744073709551616), ePQ] at this
      exact this
    have hr := Nat.mod_lt (k * n) (show d > 0 by omega)
    have W := fun v hv => divide_walk a k n d _ _ _ _ v (by omega) (by omega) (by omega) (by omega) (by omega) mul div (by omega) hr hq hv w
    unfold DIV at W
    refine ⟨fun h => W _ (by rw [if_pos h]), fun h => ?_⟩
    by_cases c2 : 0 ≤ a
    · obtain rfl : a = (k : Int) := by omega
      refine (W _ rfl).mono ?_
      rw [if_neg h, if_pos c2, ← Int.natCast_mul, ← Int.natCast_ediv, ← Int.natCast_emod]
      exact fun _ _ h => h
    · obtain rfl : a = -(k : Int) := by omega
      obtain ⟨e1, e2⟩ := neg_div (k * n) d (by omega)
      rw [Int.neg_mul, ← Int.natCast_mul, e1, e2]
      refine (W _ rfl).mono ?_
      rw [if_neg h, if_neg c2]
      by_cases c3 : k * n % d = 0
      · rw [if_pos c3, if_pos c3, if_pos c3]; exact fun _ _ h => h
      · rw [if_neg c3, if_neg c3, if_neg c3]; exact fun _ _ h => h

/-- A quotient that is far, is far from all times, however it is rounded. -/
theorem far_out (a n d : Int) (h3 : 0 ≤ n) (h5 : 1 ≤ d) (h : far a n d) (x : Int) (hx : x = a * n / d ∨ x = a * n / d + 1 ∧ 0 < a * n % d) : x < -3000000000000000 ∨ 3000000000000000 < x := by
  obtain ⟨n, rfl⟩ := Int.eq_ofNat_of_zero_le h3
  obtain ⟨d, rfl⟩ := Int.eq_ofNat_of_zero_le (show 0 ≤ d by omega)
  obtain ⟨k, hk⟩ : ∃ k, k = a.natAbs := ⟨_, rfl⟩
  unfold far at h
  rw [← hk, Int.toNat_natCast, Int.toNat_natCast] at h
  by_cases c2 : 0 ≤ a
  · obtain rfl : a = (k : Int) := by omega
    rw [← Int.natCast_mul, ← Int.natCast_ediv, ← Int.natCast_emod] at hx
    omega
  · obtain rfl : a = -(k : Int) := by omega
    obtain ⟨e1, e2⟩ := neg_div (k * n) d (by omega)
    rw [Int.neg_mul, ← Int.natCast_mul, e1, e2] at hx
    by_cases c3 : k * n % d = 0
    · rw [if_pos c3, if_pos c3] at hx; omega
    · rw [if_neg c3, if_neg c3] at hx; omega
end Go.Proofs.Ytihfafmockaljaa
