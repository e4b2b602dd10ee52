/- Layer 6: the group of squares modulo P = 2147483579, of prime order Q = 1073741789: no program in it. -/
import Derived.Test.YtlimkcodbmafaaaDoorGrp
namespace Go.Proofs.YtlimkcodbmafaaaDoor
set_option linter.unusedVariables false

theorem q_prime (d : Nat) (h0 : 0 < d) (h1 : d < 1073741789) : Nat.Coprime d 1073741789 :=
  prime_of 15 (by decide) (by decide +kernel) d h0 h1

/-- An element. -/
def El (a : Nat) : Prop := 1 ≤ a ∧ a < 2147483579 ∧ pw 2147483579 a 1073741789 = 1

theorem el_four : El 4 := ⟨by omega, by omega, by rw [← pwF_eq 2147483579 31 4 1073741789 (by decide)]; decide +kernel⟩
theorem el_one : El 1 := ⟨by omega, by omega, pw_one _ (by omega)⟩

theorem el_of {a : Nat} (h : a < 2147483579) (e : pw 2147483579 a 1073741789 = 1) : El a := by
  refine ⟨?_, h, e⟩
  rcases Nat.eq_zero_or_pos a with q | q
  · subst q
    rw [pw_nil _ _ (by omega)] at e
    exact absurd e (by decide)
  · exact q

theorem el_mul {a b : Nat} (ha : El a) (hb : El b) : El (a * b % 2147483579) :=
  el_of (Nat.mod_lt _ (by omega)) (by rw [pw_base, pw_prod, ha.2.2, hb.2.2])
theorem el_pow {a : Nat} (ha : El a) (x : Nat) : El (pw 2147483579 a x) :=
  el_of (pw_lt _ _ (by omega)) (by rw [← pw_mul, Nat.mul_comm, pw_mul, ha.2.2, pw_one _ (by omega)])
theorem el_red {a : Nat} (ha : El a) (x : Nat) : pw 2147483579 a (x % 1073741789) = pw 2147483579 a x := pw_red (by omega) ha.2.2 x
theorem el_add {a : Nat} (ha : El a) (x y : Nat) : pw 2147483579 a x * pw 2147483579 a y % 2147483579 = pw 2147483579 a ((x + y) % 1073741789) := by rw [el_red ha, pw_add]
theorem el_times {a : Nat} (ha : El a) (x y : Nat) : pw 2147483579 (pw 2147483579 a x) y = pw 2147483579 a (x * y % 1073741789) := by rw [el_red ha, pw_mul]
theorem el_self {a : Nat} (ha : El a) : pw 2147483579 a 1 = a := pw_first ha.2.1

theorem el_inv {a : Nat} (ha : El a) : a * pw 2147483579 a 1073741788 % 2147483579 = 1 := by
  have e := pw_succ (m := 2147483579) (a := a) 1073741788
  rw [Nat.mul_comm, ← e]
  exact ha.2.2

theorem el_cancel {a b c : Nat} (ha : El a) (hb : b < 2147483579) (hc : c < 2147483579) (h : a * b % 2147483579 = a * c % 2147483579) : b = c := by
  have i := el_inv ha
  generalize pw 2147483579 a 1073741788 = v at i
  have e : ∀ z, z < 2147483579 → v * (a * z % 2147483579) % 2147483579 = z := fun z hz => by
    rw [Nat.mul_mod, Nat.mod_mod, ← Nat.mul_mod, ← Nat.mul_assoc, Nat.mul_comm v, Nat.mul_mod, i, Nat.one_mul, Nat.mod_mod, Nat.mod_eq_of_lt hz]
  rw [← e b hb, h, e c hc]

theorem el_inj_lt {a x y : Nat} (ha : El a) (h1 : a ≠ 1) (hxy : x < y) (hy : y < 1073741789) : pw 2147483579 a x ≠ pw 2147483579 a y := by
  intro h
  have e : pw 2147483579 a y = pw 2147483579 a x * pw 2147483579 a (y - x) % 2147483579 := by rw [← pw_add]; congr 1; omega
  have c : pw 2147483579 a x * 1 % 2147483579 = pw 2147483579 a x * pw 2147483579 a (y - x) % 2147483579 := by
    rw [Nat.mul_one, pw_mod, ← e, h]
  have d := el_cancel (el_pow ha x) (by omega) (pw_lt _ _ (by omega)) c
  have g := pw_gcd (m := 2147483579) (by omega) _ _ d.symm ha.2.2
  rw [q_prime (y - x) (by omega) (by omega), el_self ha] at g
  exact h1 g
theorem el_inj {a x y : Nat} (ha : El a) (h1 : a ≠ 1) (hx : x < 1073741789) (hy : y < 1073741789) : pw 2147483579 a x = pw 2147483579 a y ↔ x = y := by
  refine ⟨fun h => ?_, fun h => by rw [h]⟩
  rcases Nat.lt_trichotomy x y with q | q | q
  · exact absurd h (el_inj_lt ha h1 q hy)
  · exact q
  · exact absurd h.symm (el_inj_lt ha h1 q hx)

/-! ### Signatures -/

/-- What G ^ S * pub ^ (Q - C) is, if it was signed. -/
theorem back_signed {g : Nat} (hg : El g) (o k c : Nat) (hc : c < 1073741789) :
    pw 2147483579 g ((o + c * k) % 1073741789) * pw 2147483579 (pw 2147483579 g k) ((1073741789 - c) % 1073741789) % 2147483579 = pw 2147483579 g o := by
  rw [el_red hg, el_red (el_pow hg k), ← pw_mul, ← pw_add]
  have e : o + c * k + k * (1073741789 - c) = o + 1073741789 * k := by
    rw [Nat.mul_sub, Nat.mul_comm k c, Nat.mul_comm k 1073741789]
    have : c * k ≤ 1073741789 * k := Nat.mul_le_mul_right k (by omega)
    omega
  rw [e, pw_add, pw_one_mul (by omega) hg.2.2, Nat.mul_one, pw_mod]

/-- The secret off two signatures with one 'once'. -/
theorem extracted (o k c d : Nat) (hk : k < 1073741789) (hc : c < 1073741789) (hd : d < 1073741789) (h : c ≠ d) (s t : Nat)
    (hs : (s : Int) = (((o + c * k) % 1073741789 : Nat) - ((o + d * k) % 1073741789 : Nat) : Int) % 1073741789) (ht : (t : Int) = ((c : Int) - (d : Int)) % 1073741789) :
    s * pw 1073741789 t 1073741787 % 1073741789 = k := by
  have t0 : 0 < t := by omega
  have t1 : t < 1073741789 := by omega
  have e : s = t * k % 1073741789 := by
    have e1 : (s : Int) = ((t : Int) * (k : Int)) % 1073741789 := by
      rw [hs, ht]
      have a1 : ((((o + c * k) % 1073741789 : Nat) : Int)) = ((o : Int) + c * k) % 1073741789 := by simp
      have a2 : ((((o + d * k) % 1073741789 : Nat) : Int)) = ((o : Int) + d * k) % 1073741789 := by simp
      rw [a1, a2, ← Int.sub_emod, Int.mul_emod, Int.emod_emod, ← Int.mul_emod, Int.sub_mul]
      congr 1
      omega
    omega
  have f := fermat_one (p := 1073741789) (by omega) q_prime t t0 t1
  have g := pw_succ (m := 1073741789) (a := t) 1073741787
  rw [show (1073741787 + 1 : Nat) = 1073741789 - 1 from rfl, f] at g
  generalize pw 1073741789 t 1073741787 = v at g
  rw [e, Nat.mod_mul_mod, Nat.mul_comm t k, Nat.mul_assoc, Nat.mul_comm t v, Nat.mul_mod, ← g, Nat.mul_one, Nat.mod_mod, Nat.mod_eq_of_lt hk]
end Go.Proofs.YtlimkcodbmafaaaDoor
