/- Layer 9: package slew's rateFor. -/
import Derived.Test.YtihfafmockaljaaGSmall
namespace Go.Proofs.Ytihfafmockaljaa
open Go.RowKit Go
set_option linter.unusedVariables false
set_option linter.unusedSimpArgs false

/-- The rate before it is cut. -/
def rateR (d h : Int) : Int := if d < 0 then -(nearD (min (-d) h) h) else nearD (min d h) h
theorem cut_rate {d h m : Int} (h1 : 1 ≤ h) (m1 : 0 ≤ m) (m2 : m ≤ 100000000) : max (-m) (min (rateR d h) m) = speedR d m h := by
  have key : ∀ z : Int, 0 ≤ z → min m (nearD (min z h) h) = min m (nearD z h) ∧ 0 ≤ nearD (min z h) h := by
    intro z hz
    by_cases c : z ≤ h
    · rw [show min z h = z by omega]; exact ⟨rfl, nearD_nonneg hz (by omega)⟩
    · rw [show min z h = h by omega]
      have a := nearD_far (m := z) (h := h) (by omega) (by omega)
      have b := nearD_far (m := h) (h := h) (by omega) (by omega)
      omega
  unfold rateR speedR
  by_cases c : d < 0
  · rw [if_pos c, if_pos c]
    obtain ⟨k1, k2⟩ := key (-d) (by omega)
    omega
  · rw [if_neg c, if_neg c]
    obtain ⟨k1, k2⟩ := key d (by omega)
    omega
theorem near_round (z H : Nat) (hH : 1 ≤ H) : nearD (z : Int) (H : Int) = ((if H ≤ 2 * (z * 1000000000 % H) then z * 1000000000 / H + 1 else z * 1000000000 / H : Nat) : Int) := by
  unfold nearD
  obtain ⟨P, hP⟩ : ∃ P, z * 1000000000 = P := ⟨_, rfl⟩
  have e1 := Nat.div_add_mod P H
  have e2 := Nat.mod_lt P (show 0 < H by omega)
  rw [show (2 * ((z : Int) * 1000000000) + (H : Int)) / (2 * (H : Int)) = (((2 * P + H) / (2 * H) : Nat) : Int) by rw [← hP]; simp, hP]
  congr 1
  obtain ⟨R, hR⟩ : ∃ R, P % H = R := ⟨_, rfl⟩
  obtain ⟨Q, hQ⟩ : ∃ Q, P / H = Q := ⟨_, rfl⟩
  rw [hR, hQ] at e1 ⊢
  rw [hR] at e2
  split
  · rename_i c
    rw [show 2 * P + H = (2 * R - H) + (Q + 1) * (2 * H) by rw [← e1, Nat.mul_comm H Q, Nat.add_mul, ← Nat.mul_assoc, Nat.mul_comm Q 2, Nat.mul_assoc]; omega, Nat.add_mul_div_right _ _ (by omega), Nat.div_eq_of_lt (by omega), Nat.zero_add]
  · rename_i c
    rw [show 2 * P + H = (2 * R + H) + Q * (2 * H) by rw [← e1, Nat.mul_comm H Q, ← Nat.mul_assoc, Nat.mul_comm Q 2, Nat.mul_assoc]; omega, Nat.add_mul_div_right _ _ (by omega), Nat.div_eq_of_lt (by omega), Nat.zero_add]

set_option maxHeartbeats 1000000 in
theorem grate_any (d h : Int) (d1 : -3000000000000000 ≤ d) (d2 : d ≤ 3000000000000000) (h1 : 1 ≤ h) (h2 : h ≤ 1000000000000) (w : World) :
    Calls Try.prog 24 #[.int .i64 d, .int .i64 h] w (Gives (.int .i64 (rateR d h)) w) := by
  obtain ⟨H, rfl⟩ : ∃ H : Nat, h = H := ⟨h.toNat, by omega⟩
  obtain ⟨k, hk⟩ : ∃ k : Int, (if d < 0 then -1 else 1) = k := ⟨_, rfl⟩
  have hk2 : (d < 0 ∧ k = -1) ∨ (0 ≤ d ∧ k = 1) := by by_cases c : d < 0 <;> simp [c] at hk <;> omega
  obtain ⟨m, hm⟩ : ∃ m : Nat, k * d = m := ⟨(k * d).toNat, by rcases hk2 with ⟨c, rfl⟩ | ⟨c, rfl⟩ <;> omega⟩
  have m1 : m ≤ 3000000000000000 := by rcases hk2 with ⟨c, rfl⟩ | ⟨c, rfl⟩ <;> omega
  obtain ⟨z, hz⟩ : ∃ z : Nat, min (m : Int) (H : Int) = z := ⟨min m H, by omega⟩
  have z1 : z ≤ H := by omega
  obtain ⟨y, hy⟩ : ∃ y, rateR d H = y := ⟨_, rfl⟩
  obtain ⟨Y, hY⟩ : ∃ Y : Nat, (if H ≤ 2 * (z * 1000000000 % H) then z * 1000000000 / H + 1 else z * 1000000000 / H : Nat) = Y := ⟨_, rfl⟩
  have hn := near_round z H (by omega)
  rw [hY] at hn
  have hky : k * (Y : Int) = y := by
    rw [← hy, ← hn, ← hz]
    unfold rateR
    rcases hk2 with ⟨c, rfl⟩ | ⟨c, rfl⟩
    · rw [if_pos c, show -d = (m : Int) by omega]; omega
    · rw [if_neg (by omega), show d = (m : Int) by omega]; omega
  have hu := nearD_up (m := (z : Int)) (h := (H : Int)) (by omega) (by omega)
  rw [hn] at hu
  rw [hy]
  have SG := Lib.hid (gsign_any d ⟨by omega, by omega⟩)
  rw [hk] at SG
  have T1 := Lib.hid (gtimes_any k d m (by omega) hm ⟨by omega, by omega⟩ ⟨by omega, by omega⟩)
  have T2 := Lib.hid (gtimes_any k Y y (by omega) hky ⟨by omega, by omega⟩ ⟨by rcases hk2 with ⟨c, rfl⟩ | ⟨c, rfl⟩ <;> omega, by rcases hk2 with ⟨c, rfl⟩ | ⟨c, rfl⟩ <;> omega⟩)
  have MU := fun w => Try.bits_Mul64 z 1000000000 (by omega) (by omega) w
  have DV := div64_all (z * 1000000000 / 18446744073709551616) (z * 1000000000 % 18446744073709551616) H (by omega) (by omega) (by omega) (by omega)
  rw [show z * 1000000000 / 18446744073709551616 * 18446744073709551616 + z * 1000000000 % 18446744073709551616 = z * 1000000000 by omega] at DV
  obtain ⟨P, hP⟩ : ∃ P, z * 1000000000 = P := ⟨_, rfl⟩
  rw [hP] at MU DV hY
  obtain ⟨hi, hhi⟩ : ∃ x, P / 18446744073709551616 = x := ⟨_, rfl⟩
  obtain ⟨lo, hlo⟩ : ∃ x, P % 18446744073709551616 = x := ⟨_, rfl⟩
  have l1 := Nat.mod_lt P (show 0 < H by omega)
  obtain ⟨Q, hQ⟩ : ∃ x, P / H = x := ⟨_, rfl⟩
  obtain ⟨L, hL⟩ : ∃ x, P % H = x := ⟨_, rfl⟩
  rw [hhi, hlo] at MU DV
  rw [show ((1000000000 : Nat) : Int) = 1000000000 from rfl] at MU
  rw [hQ, hL] at DV hY
  rw [hL] at l1
  have MU := Lib.hid MU
  have DV := Lib.hid DV
  clear hk hk2 hn hy hky hhi hlo hQ hL hm
  go_enter Try.func24, Try.ntmps24
  by_cases c : H ≤ 2 * L
  · rw [if_pos c] at hY
    have c1 : (H : Int) ≤ 2 * (L : Int) := by omega
    have c2 : (Q : Int) + 1 = (Y : Int) := by omega
    clear hY
    clear c
    go_wp2_with (first
      | (go_at_call 27; (with_reducible refine (SG.out _).mono ?_); rintro e w' ⟨rfl, rfl⟩; clear SG)
      | (go_at_call 28; (with_reducible refine (T1.out _).mono ?_); rintro e w' ⟨rfl, rfl⟩; clear T1)
      | (go_at_call 29; (with_reducible refine (MU.out _).mono ?_); rintro e w' ⟨rfl, rfl⟩; clear MU)
      | (go_at_call 30; (with_reducible refine (DV.out _).mono ?_); rintro e w' ⟨nd, rfl, rfl⟩; clear DV)
      | (go_at_call 28; (with_reducible refine (T2.out _).mono ?_); rintro e w' ⟨rfl, rfl⟩; clear T2))
    go_ret
    exact ⟨rfl, below_draws (Below.refl _ _) _⟩
  · rw [if_neg c] at hY
    subst hY
    have c1 : ¬ ((H : Int) ≤ 2 * (L : Int)) := by omega
    clear c
    go_wp2_with (first
      | (go_at_call 27; (with_reducible refine (SG.out _).mono ?_); rintro e w' ⟨rfl, rfl⟩; clear SG)
      | (go_at_call 28; (with_reducible refine (T1.out _).mono ?_); rintro e w' ⟨rfl, rfl⟩; clear T1)
      | (go_at_call 29; (with_reducible refine (MU.out _).mono ?_); rintro e w' ⟨rfl, rfl⟩; clear MU)
      | (go_at_call 30; (with_reducible refine (DV.out _).mono ?_); rintro e w' ⟨nd, rfl, rfl⟩; clear DV)
      | (go_at_call 28; (with_reducible refine (T2.out _).mono ?_); rintro e w' ⟨rfl, rfl⟩; clear T2))
    go_ret
    exact ⟨rfl, below_draws (Below.refl _ _) _⟩
end Go.Proofs.Ytihfafmockaljaa
