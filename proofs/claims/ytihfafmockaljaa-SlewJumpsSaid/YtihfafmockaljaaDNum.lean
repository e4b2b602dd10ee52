/- Plain arithmetic for math/bits.Div64, for any divisor: a quotient of 128 bits by 64 bits by halves, each half's guess put right as the text does. No program is named here. -/
import Derived.WalkKit
import Derived.Lib.BitFns
import Derived.Laws.BitsAllLaws
namespace Go.Proofs.Ytihfafmockaljaa.Num
open Go.RowKit

theorem bitLen_lt : ∀ (k x : Nat), k ≤ 64 → x < 2 ^ k → x < 2 ^ Lib.bitLen x := by
  intro k
  induction k with
  | zero => intro x _ h; have : x = 0 := by simpa using h
            subst this; exact Nat.two_pow_pos _
  | succ k ih =>
    intro x hk h
    by_cases h0 : x = 0
    · subst h0; exact Nat.two_pow_pos _
    · have hx : x < 2 ^ 64 := Nat.lt_of_lt_of_le h (Nat.pow_le_pow_right (by decide) hk)
      rw [Lib.bitLen_half x h0 hx, Nat.add_comm, Nat.pow_succ]
      have := ih (x / 2) (by omega) (by rw [Nat.pow_succ] at h; omega)
      omega

theorem bitLen_pos (x : Nat) (h : x ≠ 0) (hx : x < 2 ^ 64) : 1 ≤ Lib.bitLen x := by
  rw [Lib.bitLen_half x h hx]; omega

/-- What a guess keeps: it is not too small, and r is what it leaves. -/
def Guess (Q U y1 q r : Nat) : Prop := Q ≤ q ∧ q * y1 + r = U

section
variable {Y y1 y0 U u Q q r : Nat}
theorem guess_first (hY : Y = y1 * 4294967296 + y0) (h1 : 1 ≤ y1) (hu : u < 4294967296) (hQ : (U * 4294967296 + u) / Y = Q) : Guess Q U y1 (U / y1) (U - U / y1 * y1) ∧ U - U / y1 * y1 < y1 ∧ U / y1 * y1 ≤ U := by
  have e1 : U / y1 * y1 + U % y1 = U := by rw [Nat.mul_comm]; exact Nat.div_add_mod U y1
  have m1 := Nat.mod_lt U h1
  have hq : Q * Y ≤ U * 4294967296 + u := by rw [← hQ]; exact Nat.div_mul_le_self _ _
  rw [hY, Nat.mul_add, ← Nat.mul_assoc] at hq
  have k : Q * y1 ≤ U := by
    obtain ⟨a, ha⟩ : ∃ a, Q * y1 = a := ⟨_, rfl⟩
    obtain ⟨b, hb⟩ : ∃ b, Q * y0 = b := ⟨_, rfl⟩
    rw [ha, hb] at hq; rw [ha]; omega
  exact ⟨⟨(Nat.le_div_iff_mul_le h1).2 k, by omega⟩, by omega, by omega⟩
theorem guess_right (hY : Y = y1 * 4294967296 + y0) (h1 : 1 ≤ y1) (hQ : (U * 4294967296 + u) / Y = Q) (hg : Guess Q U y1 q r) (h : q * y0 ≤ 4294967296 * r + u) : q = Q := by
  obtain ⟨g1, g2⟩ := hg
  have k : q * Y ≤ U * 4294967296 + u := by
    rw [hY, Nat.mul_add, ← Nat.mul_assoc, ← g2, Nat.add_mul]; omega
  have := (Nat.le_div_iff_mul_le (by omega : 0 < Y)).2 k
  omega
theorem guess_less (hY : Y = y1 * 4294967296 + y0) (h1 : 1 ≤ y1) (hQ : (U * 4294967296 + u) / Y = Q) (hQ2 : Q < 4294967296) (hg : Guess Q U y1 q r) (h : 4294967296 ≤ q ∨ 4294967296 * r + u < q * y0) : 1 ≤ q ∧ Guess Q U y1 (q - 1) (r + y1) := by
  obtain ⟨g1, g2⟩ := hg
  have k : Q < q := by
    rcases h with h | h
    · omega
    · rw [← hQ]
      refine (Nat.div_lt_iff_lt_mul (by omega : 0 < Y)).2 ?_
      rw [hY, Nat.mul_add, ← Nat.mul_assoc, ← g2, Nat.add_mul]; omega
  refine ⟨by omega, by omega, ?_⟩
  obtain ⟨m, rfl⟩ : ∃ m, q = m + 1 := ⟨q - 1, by omega⟩
  rw [Nat.add_mul, Nat.one_mul] at g2
  rw [Nat.add_sub_cancel]; omega
theorem guess_far (hY : Y = y1 * 4294967296 + y0) (h1 : 1 ≤ y1) (h0 : y0 < 4294967296) (hU : U < Y) (hQ : (U * 4294967296 + u) / Y = Q) (hg : Guess Q U y1 q r) (h : 4294967296 ≤ r) : q = Q := by
  have g2 := hg.2
  refine guess_right hY h1 hQ hg ?_
  have k : q < 4294967296 := by
    refine Nat.lt_of_mul_lt_mul_right (a := y1) ?_
    rw [Nat.mul_comm 4294967296]; omega
  have k2 : q * y0 ≤ 4294967295 * 4294967295 := Nat.mul_le_mul (by omega) (by omega)
  omega
theorem guess_small (h0 : y0 < 4294967296) (h : q < 4294967296) : q * y0 < 18446744073709551616 := by
  have k2 : q * y0 ≤ 4294967295 * 4294967295 := Nat.mul_le_mul (by omega) (by omega)
  omega
end

/-- All the steps of the division by halves; A = 2^s, B = 2^(64-s). -/
theorem halves (hi lo d A B : Nat) (hAB : A * B = 18446744073709551616) (hdB : d < B) (hdA : 9223372036854775808 ≤ d * A) (hd : 1 ≤ d) (hh : hi < d) (hlo : lo < 18446744073709551616) :
    ∃ Y y1 y0 U L u1 u0 Q1 U2 Q0 R : Nat,
      d * A = Y ∧ Y < 18446744073709551616 ∧ Y / 4294967296 = y1 ∧ 2147483648 ≤ y1 ∧ y1 ≤ 4294967295 ∧ Y % 4294967296 = y0 ∧ Y = y1 * 4294967296 + y0 ∧ y0 < 4294967296 ∧
      hi * A < 18446744073709551616 ∧ lo / B < A ∧ hi * A + lo / B = U ∧ U < Y ∧
      (lo * A) % 18446744073709551616 = L ∧ L < 18446744073709551616 ∧ L / 4294967296 = u1 ∧ u1 < 4294967296 ∧ L % 4294967296 = u0 ∧ u0 < 4294967296 ∧
      (U * 4294967296 + u1) / Y = Q1 ∧ Q1 < 4294967296 ∧ U * 4294967296 + u1 = Q1 * Y + U2 ∧ U2 < Y ∧
      (U2 * 4294967296 + u0) / Y = Q0 ∧ Q0 < 4294967296 ∧ U2 * 4294967296 + u0 = Q0 * Y + R ∧ R < Y ∧
      Q1 * 4294967296 + Q0 = (hi * 18446744073709551616 + lo) / d ∧ R / A = (hi * 18446744073709551616 + lo) % d := by
  have hA1 : 1 ≤ A := by
    rcases Nat.eq_zero_or_pos A with h | h
    · subst h; simp at hAB
    · exact h
  have hY : d * A < 18446744073709551616 := by
    rw [← hAB, Nat.mul_comm A B]; exact Nat.mul_lt_mul_of_pos_right hdB hA1
  have hiA : hi * A < 18446744073709551616 := Nat.lt_of_le_of_lt (Nat.mul_le_mul_right A (Nat.le_of_lt hh)) hY
  have hloB : lo / B < A := by
    apply Nat.div_lt_of_lt_mul; rw [Nat.mul_comm]; omega
  have hU : hi * A + lo / B < d * A := by
    have : (hi + 1) * A ≤ d * A := Nat.mul_le_mul_right A hh
    rw [Nat.add_mul] at this; omega
  have hL : (lo * A) % 18446744073709551616 = A * (lo % B) := by
    rw [← hAB, Nat.mul_comm lo A, Nat.mul_mod_mul_left]
  obtain ⟨U, hUe⟩ : ∃ x, hi * A + lo / B = x := ⟨_, rfl⟩
  obtain ⟨L, hLe⟩ : ∃ x, (lo * A) % 18446744073709551616 = x := ⟨_, rfl⟩
  have hLb : L < 18446744073709551616 := by rw [← hLe]; exact Nat.mod_lt _ (by decide)
  have hN : U * 18446744073709551616 + L = (hi * 18446744073709551616 + lo) * A := by
    have e := Nat.div_add_mod lo B
    have e2 : lo / B * (A * B) + A * (lo % B) = lo * A := by
      conv => rhs; rw [← e]
      rw [Nat.add_mul, Nat.mul_comm B (lo / B), Nat.mul_assoc, Nat.mul_comm B A, Nat.mul_comm A (lo % B)]
    rw [← hLe, hL, ← hUe, Nat.add_mul, Nat.add_mul, Nat.add_assoc]
    rw [hAB] at e2
    rw [e2, Nat.mul_right_comm]
  rw [hUe] at hU
  obtain ⟨Y, hYe⟩ : ∃ x, d * A = x := ⟨_, rfl⟩
  rw [hYe] at hU hY hdA
  obtain ⟨Q1, hQ1⟩ : ∃ x, (U * 4294967296 + L / 4294967296) / Y = x := ⟨_, rfl⟩
  obtain ⟨U2, hU2⟩ : ∃ x, (U * 4294967296 + L / 4294967296) % Y = x := ⟨_, rfl⟩
  have a1 : Q1 * Y + U2 = U * 4294967296 + L / 4294967296 := by rw [← hQ1, ← hU2, Nat.mul_comm]; exact Nat.div_add_mod _ _
  have a2 : U2 < Y := by rw [← hU2]; exact Nat.mod_lt _ (by omega)
  have a3 : Q1 < 4294967296 := by rw [← hQ1]; apply Nat.div_lt_of_lt_mul; omega
  obtain ⟨Q0, hQ0⟩ : ∃ x, (U2 * 4294967296 + L % 4294967296) / Y = x := ⟨_, rfl⟩
  obtain ⟨R, hR⟩ : ∃ x, (U2 * 4294967296 + L % 4294967296) % Y = x := ⟨_, rfl⟩
  have b1 : Q0 * Y + R = U2 * 4294967296 + L % 4294967296 := by rw [← hQ0, ← hR, Nat.mul_comm]; exact Nat.div_add_mod _ _
  have b2 : R < Y := by rw [← hR]; exact Nat.mod_lt _ (by omega)
  have b3 : Q0 < 4294967296 := by rw [← hQ0]; apply Nat.div_lt_of_lt_mul; omega
  have hP : (hi * 18446744073709551616 + lo) * A = (Q1 * 4294967296 + Q0) * Y + R := by
    rw [← hN, Nat.add_mul, Nat.mul_right_comm]; omega
  obtain ⟨P, hPe⟩ : ∃ x, x = hi * 18446744073709551616 + lo := ⟨_, rfl⟩
  obtain ⟨Q, hQe⟩ : ∃ x, x = Q1 * 4294967296 + Q0 := ⟨_, rfl⟩
  rw [← hPe, ← hQe, ← hYe] at hP
  have hQd : Q * d ≤ P := by
    apply Nat.le_of_mul_le_mul_right _ hA1
    rw [hP, Nat.mul_assoc]; omega
  have hRA : R = (P - Q * d) * A := by rw [Nat.sub_mul, hP, Nat.mul_assoc]; omega
  have hRd : P - Q * d < d := by
    apply Nat.lt_of_mul_lt_mul_right (a := A); rw [← hRA, hYe]; exact b2
  have hPQ : P = d * Q + (P - Q * d) := by rw [Nat.mul_comm d Q]; omega
  have hdiv : P / d = Q := by
    rw [hPQ, Nat.mul_add_div hd, Nat.div_eq_of_lt hRd]; rfl
  have hmod : P % d = P - Q * d := by
    conv => lhs; rw [hPQ]
    rw [Nat.mul_add_mod, Nat.mod_eq_of_lt hRd]
  refine ⟨Y, Y / 4294967296, Y % 4294967296, U, L, L / 4294967296, L % 4294967296, Q1, U2, Q0, R, hYe, hY, rfl, by omega, by omega, rfl, by omega, by omega, hiA, hloB, hUe, hU, hLe, hLb, rfl, by omega, rfl, by omega, hQ1, a3, a1.symm, a2, hQ0, b3, b1.symm, b2, ?_, ?_⟩
  · rw [← hQe, ← hPe]; exact hdiv.symm
  · rw [← hPe, hmod, hRA, Nat.mul_div_cancel _ hA1]
end Go.Proofs.Ytihfafmockaljaa.Num
