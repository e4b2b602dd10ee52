/- Layer 9: the mathematics of an output clock: no program in it. -/
namespace Go.Proofs.Ytihfafmockaljaa
set_option linter.unusedVariables false
set_option linter.unusedSimpArgs false

/-- The part of some counts that a rate says, rounded down. -/
def part (n r : Int) : Int := n * r / 1000000000
/-- m * 10^9 / h, rounded to the nearest integer, for m from 0 on. -/
def nearD (m h : Int) : Int := (2 * (m * 1000000000) + h) / (2 * h)
def speedR (d lim h : Int) : Int := if d < 0 then -(min lim (nearD (-d) h)) else min lim (nearD d h)

theorem part_zero (r : Int) : part 0 r = 0 := by simp [part]
theorem part_rate0 (n : Int) : part n 0 = 0 := by simp [part]
theorem ediv_bounds (x d : Int) (hd : 0 < d) : d * (x / d) ≤ x ∧ x < d * (x / d) + d := by
  have h1 := Int.mul_ediv_add_emod x d
  have h2 := Int.emod_nonneg x (show d ≠ 0 by omega)
  have h3 := Int.emod_lt_of_pos x hd
  omega
theorem part_add (x y r : Int) : part x r + part y r ≤ part (x + y) r ∧ part (x + y) r ≤ part x r + part y r + 1 := by
  unfold part
  rw [Int.add_mul]
  generalize x * r = a
  generalize y * r = b
  omega
theorem part_mono {x r s : Int} (hx : 0 ≤ x) (h : r ≤ s) : part x r ≤ part x s := by
  unfold part
  have := Int.mul_le_mul_of_nonneg_left h hx
  generalize x * r = a at this ⊢
  generalize x * s = b at this ⊢
  omega
/-- A tenth at most. -/
theorem part_small {n r : Int} (hn : 0 ≤ n) (h1 : -100000000 ≤ r) (h2 : r ≤ 100000000) : -n ≤ 10 * part n r + 9 ∧ 10 * part n r ≤ n ∧ 0 ≤ n + part n r := by
  unfold part
  have a := Int.mul_le_mul_of_nonneg_left h1 hn
  have b := Int.mul_le_mul_of_nonneg_left h2 hn
  generalize n * r = x at a b ⊢
  omega
theorem nearD_bounds {m h : Int} (hh : 0 < h) : 2 * h * nearD m h ≤ 2 * (m * 1000000000) + h ∧ 2 * (m * 1000000000) < 2 * h * nearD m h + h := by
  have := ediv_bounds (2 * (m * 1000000000) + h) (2 * h) (by omega)
  unfold nearD
  generalize (2 * (m * 1000000000) + h) / (2 * h) = q at this ⊢
  generalize 2 * h * q = z at this ⊢
  omega
theorem nearD_nonneg {m h : Int} (hm : 0 ≤ m) (hh : 0 < h) : 0 ≤ nearD m h := Int.ediv_nonneg (by omega) (by omega)
theorem nearD_far {m h : Int} (hh : 0 < h) (hm : h ≤ m) : 1000000000 ≤ nearD m h := by
  unfold nearD
  rw [Int.le_ediv_iff_mul_le (by omega)]
  omega
theorem nearD_up {m h : Int} (hh : 0 < h) (hm : m ≤ h) : nearD m h ≤ 1000000000 := by
  have := (nearD_bounds (m := m) hh).1
  rcases Int.lt_or_le 1000000000 (nearD m h) with c | c
  · have := Int.mul_le_mul_of_nonneg_left (show (1000000001 : Int) ≤ nearD m h by omega) (show 0 ≤ 2 * h by omega)
    omega
  · exact c
theorem speed_in {d lim h : Int} (hl : 0 ≤ lim) (hh : 0 < h) : -lim ≤ speedR d lim h ∧ speedR d lim h ≤ lim ∧ (0 < d → 0 ≤ speedR d lim h) ∧ (d < 0 → speedR d lim h ≤ 0) ∧ (d = 0 → speedR d lim h = 0) := by
  unfold speedR
  by_cases c : d < 0
  · have := nearD_nonneg (m := -d) (h := h) (by omega) hh
    rw [if_pos c]
    omega
  · have := nearD_nonneg (m := d) (h := h) (by omega) hh
    have z : d = 0 → nearD d h = 0 := by
      intro e
      subst e
      unfold nearD
      exact Int.ediv_eq_zero_of_lt (by omega) (by omega)
    rw [if_neg c]
    omega

/-- What is left of d after h counts. -/
theorem reach {d lim h : Int} (hl : 0 ≤ lim) (hh : 0 < h) (hs : max (speedR d lim h) (-(speedR d lim h)) < lim) :
    -(h / 2000000000 + 1) ≤ d - part h (speedR d lim h) ∧ d - part h (speedR d lim h) ≤ h / 2000000000 + 1 := by
  unfold part
  by_cases c : d < 0
  · have b := nearD_bounds (m := -d) hh
    have e : speedR d lim h = -(nearD (-d) h) := by
      unfold speedR at hs ⊢
      rw [if_pos c] at hs ⊢
      have := nearD_nonneg (m := -d) (h := h) (by omega) hh
      omega
    rw [e]
    rw [show h * -(nearD (-d) h) = -(h * nearD (-d) h) by rw [Int.mul_neg]]
    rw [Int.mul_assoc] at b
    generalize h * nearD (-d) h = x at b ⊢
    omega
  · have b := nearD_bounds (m := d) hh
    have e : speedR d lim h = nearD d h := by
      unfold speedR at hs ⊢
      rw [if_neg c] at hs ⊢
      have := nearD_nonneg (m := d) (h := h) (by omega) hh
      omega
    rw [e]
    rw [Int.mul_assoc] at b
    generalize h * nearD d h = x at b ⊢
    omega
/-- The same, with the rate at its limit. -/
theorem limited {d lim h : Int} (hl : 0 ≤ lim) (hh : 0 < h) :
    -(max d (-d) + h / 2000000000 + 1) ≤ d - part h (speedR d lim h) ∧ d - part h (speedR d lim h) ≤ max d (-d) + h / 2000000000 + 1 := by
  unfold part speedR
  by_cases c : d < 0
  · have b := nearD_bounds (m := -d) hh
    have n := nearD_nonneg (m := -d) (h := h) (by omega) hh
    rw [if_pos c]
    obtain ⟨v, hv⟩ : ∃ v, min lim (nearD (-d) h) = v := ⟨_, rfl⟩
    rw [hv]
    have v0 : 0 ≤ v := by omega
    have v1 : v ≤ nearD (-d) h := by omega
    have m1 := Int.mul_le_mul_of_nonneg_left v1 (show 0 ≤ h by omega)
    have m0 := Int.mul_nonneg (show 0 ≤ h by omega) v0
    rw [Int.mul_neg]
    rw [Int.mul_assoc] at b
    generalize h * nearD (-d) h = x at b m1
    generalize h * v = y at m0 m1 ⊢
    omega
  · have b := nearD_bounds (m := d) hh
    have n := nearD_nonneg (m := d) (h := h) (by omega) hh
    rw [if_neg c]
    obtain ⟨v, hv⟩ : ∃ v, min lim (nearD d h) = v := ⟨_, rfl⟩
    rw [hv]
    have v0 : 0 ≤ v := by omega
    have v1 : v ≤ nearD d h := by omega
    have m1 := Int.mul_le_mul_of_nonneg_left v1 (show 0 ≤ h by omega)
    have m0 := Int.mul_nonneg (show 0 ≤ h by omega) v0
    rw [Int.mul_assoc] at b
    generalize h * nearD d h = x at b m1
    generalize h * v = y at m0 m1 ⊢
    omega
/-- The part in two steps, as the reference counts it. -/
theorem part_steps (n r : Int) : n / 1000000000 * r + (n % 1000000000 * r) / 1000000000 = part n r := by
  unfold part
  have e : n * r = n % 1000000000 * r + (n / 1000000000 * r) * 1000000000 := by
    have h := Int.mul_ediv_add_emod n 1000000000
    generalize n / 1000000000 = q at h ⊢
    generalize n % 1000000000 = m at h ⊢
    rw [← h, Int.add_mul, Int.mul_assoc, Int.mul_comm 1000000000, Int.add_comm]
  rw [e, Int.add_mul_ediv_right _ _ (by omega), Int.add_comm]
end Go.Proofs.Ytihfafmockaljaa
