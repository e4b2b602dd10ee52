/- Plain arithmetic for layer 1: a quotient of 128 bits by a factor, computed by halves as math/bits does; the rounded quotients. No program is named here. -/
import Derived.WalkKit
import Derived.Lib.BitFns
import Derived.Laws.BitsAllLaws
namespace Go.Proofs.Ytpfcjffpomdhbaa.Num
open Go.RowKit

theorem bitLen_lt : ∀ (k x : Nat), k ≤ 64 → x < 2 ^ k → x < 2 ^ Lib.bitLen x := by
  intro k
  induction k with
  | zero => intro x _ h; have : x = 0 := by simpa using h
            subst this; exact Nat.two_pow_pos _
  | succ k ih =>
    intro x hk h
    by_cases h0 : x = 0
    · subst h0; exact Nat.two_pow_pos _
    · have hx : x < 2 ^ 64 := Nat.lt_of_lt_of_le h (Nat.pow_le_pow_right (by decide) hk)
      rw [Lib.bitLen_half x h0 hx, Nat.add_comm, Nat.pow_succ]
      have := ih (x / 2) (by omega) (by rw [Nat.pow_succ] at h; omega)
      omega

theorem bitLen_pos (x : Nat) (h : x ≠ 0) (hx : x < 2 ^ 64) : 1 ≤ Lib.bitLen x := by
  rw [Lib.bitLen_half x h hx]; omega

/-- All the steps of the division by halves, in natural numbers; A = 2^s, B = 2^(64-s), C = 2^(s-32). -/
theorem halves (hi lo d A B C : Nat) (hA : A = C * 4294967296) (hAB : A * B = 18446744073709551616) (hC : 1 ≤ C) (hdB : d < B) (hd : 1 ≤ d) (hh : hi < d) (hlo : lo < 18446744073709551616) :
    ∃ Y y1 U L u1 u0 q1 p1 U2 q0 p0 R : Nat,
      Y = d * A ∧ Y < 18446744073709551616 ∧ y1 = Y / 4294967296 ∧ 1 ≤ y1 ∧ y1 ≤ 4294967295 ∧ Y % 4294967296 = 0 ∧
      hi * A < 18446744073709551616 ∧ lo / B < A ∧ U = hi * A + lo / B ∧ U < 18446744073709551616 ∧
      L = (lo * A) % 18446744073709551616 ∧ u1 = L / 4294967296 ∧ u1 ≤ 4294967295 ∧ u0 = L % 4294967296 ∧
      q1 = U / y1 ∧ q1 ≤ 4294967295 ∧ p1 = q1 * y1 ∧ p1 ≤ U ∧ U - p1 < y1 ∧
      U * 4294967296 + u1 = q1 * Y + U2 ∧ U2 < Y ∧ q0 = U2 / y1 ∧ q0 ≤ 4294967295 ∧ p0 = q0 * y1 ∧ p0 ≤ U2 ∧ U2 - p0 < y1 ∧
      U2 * 4294967296 + u0 = q0 * Y + R ∧ R < Y ∧
      q1 * 4294967296 + q0 = (hi * 18446744073709551616 + lo) / d ∧ R / A = (hi * 18446744073709551616 + lo) % d := by
  have hA1 : 1 ≤ A := by omega
  have hB1 : 1 ≤ B := by omega
  have hY : d * A < 18446744073709551616 := by
    rw [← hAB, Nat.mul_comm A B]; exact Nat.mul_lt_mul_of_pos_right hdB hA1
  have hYC : d * A = d * C * 4294967296 := by rw [hA, Nat.mul_assoc]
  have hy1 : d * A / 4294967296 = d * C := by rw [hYC]; exact Nat.mul_div_cancel _ (by decide)
  have hdC : 1 ≤ d * C := Nat.mul_pos hd hC
  have hiA : hi * A < 18446744073709551616 := Nat.lt_of_le_of_lt (Nat.mul_le_mul_right A (Nat.le_of_lt hh)) hY
  have hloB : lo / B < A := by
    apply Nat.div_lt_of_lt_mul; rw [Nat.mul_comm]; omega
  have hU : hi * A + lo / B < d * A := by
    have : (hi + 1) * A ≤ d * A := Nat.mul_le_mul_right A hh
    rw [Nat.add_mul] at this; omega
  have hL : (lo * A) % 18446744073709551616 = A * (lo % B) := by
    rw [← hAB, Nat.mul_comm lo A, Nat.mul_mod_mul_left]
  obtain ⟨U, hUe⟩ : ∃ x, x = hi * A + lo / B := ⟨_, rfl⟩
  obtain ⟨L, hLe⟩ : ∃ x, x = (lo * A) % 18446744073709551616 := ⟨_, rfl⟩
  rw [← hUe] at hU
  rw [← hLe] at hL
  have hLb : L < 18446744073709551616 := by rw [hLe]; exact Nat.mod_lt _ (by decide)
  have hN : U * 18446744073709551616 + L = (hi * 18446744073709551616 + lo) * A := by
    have e := Nat.div_add_mod lo B
    have e2 : lo / B * (A * B) + A * (lo % B) = lo * A := by
      conv => rhs; rw [← e]
      rw [Nat.add_mul, Nat.mul_comm B (lo / B), Nat.mul_assoc, Nat.mul_comm B A, Nat.mul_comm A (lo % B)]
    rw [hL, hUe, Nat.add_mul, Nat.add_mul, Nat.add_assoc]
    rw [hAB] at e2
    rw [e2, Nat.mul_right_comm]
  obtain ⟨y1, hy⟩ : ∃ x, x = d * C := ⟨_, rfl⟩
  rw [← hy] at hYC hy1 hdC
  have hUy : U < y1 * 4294967296 := by rw [← hYC]; exact hU
  have hq1 : U / y1 < 4294967296 := Nat.div_lt_of_lt_mul hUy
  have e1 : U / y1 * y1 + U % y1 = U := by rw [Nat.mul_comm]; exact Nat.div_add_mod U y1
  have m1 := Nat.mod_lt U hdC
  obtain ⟨q1, hq1e⟩ : ∃ x, x = U / y1 := ⟨_, rfl⟩
  rw [← hq1e] at hq1 e1
  obtain ⟨p1, hp1⟩ : ∃ x, x = q1 * y1 := ⟨_, rfl⟩
  obtain ⟨r1, hr1⟩ : ∃ x, x = U % y1 := ⟨_, rfl⟩
  rw [← hp1, ← hr1] at e1
  rw [← hr1] at m1
  have hqY : q1 * (d * A) = p1 * 4294967296 := by rw [hYC, ← Nat.mul_assoc, hp1]
  obtain ⟨u1, hu1⟩ : ∃ x, x = L / 4294967296 := ⟨_, rfl⟩
  obtain ⟨u0, hu0⟩ : ∃ x, x = L % 4294967296 := ⟨_, rfl⟩
  have hu1b : u1 < 4294967296 := by omega
  have hu0b : u0 < 4294967296 := by omega
  have huL : L = u1 * 4294967296 + u0 := by omega
  obtain ⟨U2, hU2e⟩ : ∃ x, x = r1 * 4294967296 + u1 := ⟨_, rfl⟩
  have hU2 : U2 < y1 * 4294967296 := by omega
  have hq0 : U2 / y1 < 4294967296 := Nat.div_lt_of_lt_mul hU2
  have e0 : U2 / y1 * y1 + U2 % y1 = U2 := by rw [Nat.mul_comm]; exact Nat.div_add_mod U2 y1
  have m0 := Nat.mod_lt U2 hdC
  obtain ⟨q0, hq0e⟩ : ∃ x, x = U2 / y1 := ⟨_, rfl⟩
  rw [← hq0e] at hq0 e0
  obtain ⟨p0, hp0⟩ : ∃ x, x = q0 * y1 := ⟨_, rfl⟩
  obtain ⟨r0, hr0⟩ : ∃ x, x = U2 % y1 := ⟨_, rfl⟩
  rw [← hp0, ← hr0] at e0
  rw [← hr0] at m0
  have hqY0 : q0 * (d * A) = p0 * 4294967296 := by rw [hYC, ← Nat.mul_assoc, hp0]
  obtain ⟨R, hRe⟩ : ∃ x, x = r0 * 4294967296 + u0 := ⟨_, rfl⟩
  have hR : R < d * A := by rw [hYC]; omega
  have hP : (hi * 18446744073709551616 + lo) * A = (q1 * 4294967296 + q0) * (d * A) + R := by
    rw [← hN, Nat.add_mul, Nat.mul_right_comm, hqY, hqY0]; omega
  obtain ⟨P, hPe⟩ : ∃ x, x = hi * 18446744073709551616 + lo := ⟨_, rfl⟩
  obtain ⟨Q, hQe⟩ : ∃ x, x = q1 * 4294967296 + q0 := ⟨_, rfl⟩
  rw [← hPe, ← hQe] at hP
  have hQd : Q * d ≤ P := by
    apply Nat.le_of_mul_le_mul_right _ hA1
    rw [hP, Nat.mul_assoc]; omega
  have hRA : R = (P - Q * d) * A := by rw [Nat.sub_mul, hP, Nat.mul_assoc]; omega
  have hRd : P - Q * d < d := by
    apply Nat.lt_of_mul_lt_mul_right (a := A); rw [← hRA]; exact hR
  have hPQ : P = d * Q + (P - Q * d) := by rw [Nat.mul_comm d Q]; omega
  have hdiv : P / d = Q := by
    rw [hPQ, Nat.mul_add_div hd, Nat.div_eq_of_lt hRd]; rfl
  have hmod : P % d = P - Q * d := by
    conv => lhs; rw [hPQ]
    rw [Nat.mul_add_mod, Nat.mod_eq_of_lt hRd]
  have hy1u : y1 < 4294967296 := by omega
  have g1 : U * 4294967296 + u1 = q1 * (d * A) + U2 := by rw [hqY, hU2e, ← e1, Nat.add_mul, Nat.add_assoc]
  have g2 : U2 * 4294967296 + u0 = q0 * (d * A) + R := by rw [hqY0, hRe, ← e0, Nat.add_mul, Nat.add_assoc]
  have g3 : U2 < d * A := by omega
  have g4 : U < 18446744073709551616 := by omega
  refine ⟨d * A, y1, U, L, u1, u0, q1, p1, U2, q0, p0, R, rfl, hY, hy1.symm, hdC, by omega, ?_, hiA, hloB, hUe, g4, hLe, hu1, by omega, hu0, hq1e, by omega, hp1, by omega, by omega, g1, g3, hq0e, by omega, hp0, by omega, by omega, g2, hR, ?_, ?_⟩
  · rw [hYC]; exact Nat.mul_mod_left _ _
  · rw [← hQe, ← hPe]; exact hdiv.symm
  · rw [← hPe, hmod, hRA, Nat.mul_div_cancel _ hA1]
end Go.Proofs.Ytpfcjffpomdhbaa.Num
