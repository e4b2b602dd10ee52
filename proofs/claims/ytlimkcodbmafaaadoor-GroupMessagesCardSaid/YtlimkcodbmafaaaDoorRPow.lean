/- Layer 6: the reference's Power, Exponent, Key, Member, Mul, Exp, Over, Rest, Secret, Element, Public. -/
import Derived.Test.YtlimkcodbmafaaaDoorApps
import Derived.Test.YtlimkcodbmafaaaDoorGrp2
namespace Go.Proofs.YtlimkcodbmafaaaDoor
open Go.RowKit Go
set_option linter.unusedVariables false
set_option linter.unusedSimpArgs false

/-- A product of two numbers below 2 ^ 31, and its remainder, as Go computes them. -/
theorem mul_small {a b m : Nat} (ha : a < 2147483648) (hb : b < 2147483648) :
    wrap64 ((a : Int) * (b : Int)) = ((a * b : Nat) : Int) := by
  have h : a * b ≤ 2147483647 * 2147483647 := Nat.mul_le_mul (by omega) (by omega)
  rw [← Int.natCast_mul]
  generalize a * b = s at h ⊢
  unfold wrap64; omega
theorem mod_nat (s m : Nat) : Int.tmod (s : Int) (m : Int) = ((s % m : Nat) : Int) := by
  rw [Int.tmod_eq_emod_of_nonneg (by omega)]; exact (Int.natCast_emod s m).symm

theorem rpower_any (a x m : Nat) (hm : 1 < m) (hm2 : m ≤ 2147483648) (ha : a < m) (hx : x ≤ 4611686018427387904) (w : World) :
    Calls Tryd.prog 31 #[.int .i64 a, .int .i64 x, .int .i64 m] w fun e w' => e = .returned (.int .i64 (pw m a x : Int)) ∧ w = w' := by
  obtain ⟨r, hr⟩ : ∃ r, pw m a x = r := ⟨_, rfl⟩
  rw [hr]
  have HR := Lib.hid hr
  clear hr
  go_enter Tryd.func31, Tryd.ntmps31
  go_wp2_with fail
  go_loop [0, 1, 7] (fun u v o => ∃ b y z : Nat, u = .int .i64 b ∧ v = .int .i64 y ∧ o = .int .i64 z ∧ b < m ∧ y ≤ 4611686018427387904 ∧ z < m ∧ Hid (z * pw m b y % m = r)) (fun _ v _ => (intOf v).toNat)
  case atStart => exact ⟨a, x, 1, rfl, rfl, rfl, ha, hx, hm, by unfold Hid; rw [Nat.one_mul, pw_mod]; exact HR.out⟩
  case round =>
    obtain ⟨b, y, z, rfl, rfl, rfl, b1, y1, z1, E⟩ := hrel
    by_cases hy : 0 < y
    · obtain ⟨h, hh⟩ : ∃ h, y / 2 = h := ⟨_, rfl⟩
      have d1 : Int.tdiv (y : Int) 2 = (h : Int) := by rw [Int.tdiv_eq_ediv_of_nonneg (by omega)]; omega
      have hb : h < y := by omega
      have p1 := mul_small (m := m) (a := b) (b := b) (by omega) (by omega)
      have p2 := mod_nat (b * b) m
      have l2 : b * b % m < m := Nat.mod_lt _ (by omega)
      have q1 := mul_small (m := m) (a := z) (b := b) (by omega) (by omega)
      have q2 := mod_nat (z * b) m
      have l3 : z * b % m < m := Nat.mod_lt _ (by omega)
      rcases (by omega : y = 2 * h ∨ y = 2 * h + 1) with e | e
      · have m1 : Int.tmod (y : Int) 2 = 0 := by rw [Int.tmod_eq_emod_of_nonneg (by omega)]; omega
        have E1 : Hid (z * pw m (b * b % m) h % m = r) := by unfold Hid; rw [pw_even, ← e]; exact E.out
        clear E e q1 q2 l3
        obtain ⟨s, hs⟩ : ∃ s, b * b = s := ⟨_, rfl⟩
        obtain ⟨t, ht⟩ : ∃ t, s % m = t := ⟨_, rfl⟩
        rw [hs] at p1 p2 l2 E1
        rw [ht] at p2 l2 E1
        clear hs ht hh
        go_wp2_with fail
        go_round
        case rel => exact ⟨t, h, z, by go_num, by go_num, rfl, l2, by omega, z1, E1⟩
        case measure => simp [intOf]; omega
      · have m1 : Int.tmod (y : Int) 2 = 1 := by rw [Int.tmod_eq_emod_of_nonneg (by omega)]; omega
        have E1 : Hid (z * b % m * pw m (b * b % m) h % m = r) := by unfold Hid; rw [pw_odd, ← e]; exact E.out
        clear E e
        obtain ⟨s, hs⟩ : ∃ s, b * b = s := ⟨_, rfl⟩
        obtain ⟨t, ht⟩ : ∃ t, s % m = t := ⟨_, rfl⟩
        obtain ⟨s', hs'⟩ : ∃ s, z * b = s := ⟨_, rfl⟩
        obtain ⟨t', ht'⟩ : ∃ t, s' % m = t := ⟨_, rfl⟩
        rw [hs] at p1 p2 l2 E1
        rw [ht] at p2 l2 E1
        rw [hs'] at q1 q2 l3 E1
        rw [ht'] at q2 l3 E1
        clear hs ht hs' ht' hh
        go_wp2_with fail
        go_round
        case rel => exact ⟨t, h, t', by go_num, by go_num, by go_num, l2, by omega, l3, E1⟩
        case measure => simp [intOf]; omega
    · obtain rfl : y = 0 := by omega
      have e : z = r := by
        have := E.out
        rwa [pw_zero _ hm, Nat.mul_one, Nat.mod_eq_of_lt z1] at this
      subst e
      go_wp2_with fail
      go_ret
      exact ⟨rfl, rfl⟩
end Go.Proofs.YtlimkcodbmafaaaDoor
