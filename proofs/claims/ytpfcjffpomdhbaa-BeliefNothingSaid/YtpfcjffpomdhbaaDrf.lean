/- Layer 7: what a counter can count: plain arithmetic on integers, no program in it. -/
namespace Go.Proofs.Ytpfcjffpomdhbaa
set_option linter.unusedVariables false

/-- A quotient, rounded up. -/
def upD (x y : Int) : Int := -((-x) / y)
theorem lt_up {x y : Int} (h : 0 < y) (e : Int) : e < upD x y ↔ e * y < x := by
  unfold upD
  have a : (-x) / y < -e ↔ -x < -e * y := Int.ediv_lt_iff_lt_mul h
  rw [Int.neg_mul] at a
  omega
theorem down_lt {x y : Int} (h : 0 < y) (e : Int) : x / y < e ↔ x < e * y := Int.ediv_lt_iff_lt_mul h

/-- While e goes by, the counter can count c. -/
def Can (r e c : Int) : Prop := (c - 1) * 1000000000 < e * (1000000000 + r) ∧ e * (1000000000 - r) < (c + 1) * 1000000000

def elLo (r c : Int) : Int := if c = 0 then 0 else (c - 1) * 1000000000 / (1000000000 + r) + 1
def elHi (r c : Int) : Int := upD ((c + 1) * 1000000000) (1000000000 - r) - 1
def coLo (r e : Int) : Int := e * (1000000000 - r) / 1000000000
def coHi (r e : Int) : Int := upD (e * (1000000000 + r)) 1000000000

variable {r e c : Int}

theorem elLo_le (h1 : 0 ≤ r) (he : 0 ≤ e) (hc : 0 ≤ c) : elLo r c ≤ e ↔ (c - 1) * 1000000000 < e * (1000000000 + r) := by
  unfold elLo
  split
  · rename_i h
    subst h
    have := Int.mul_nonneg he (by omega : (0 : Int) ≤ 1000000000 + r)
    omega
  · have := down_lt (x := (c - 1) * 1000000000) (y := 1000000000 + r) (by omega) e
    omega
theorem le_elHi (h2 : r ≤ 1000000) : e ≤ elHi r c ↔ e * (1000000000 - r) < (c + 1) * 1000000000 := by
  unfold elHi
  have := lt_up (x := (c + 1) * 1000000000) (y := 1000000000 - r) (by omega) e
  omega
theorem coLo_le : coLo r e ≤ c ↔ e * (1000000000 - r) < (c + 1) * 1000000000 := by
  unfold coLo
  have := down_lt (x := e * (1000000000 - r)) (y := 1000000000) (by omega) (c + 1)
  omega
theorem le_coHi : c ≤ coHi r e ↔ (c - 1) * 1000000000 < e * (1000000000 + r) := by
  unfold coHi
  have := lt_up (x := e * (1000000000 + r)) (y := 1000000000) (by omega) (c - 1)
  omega

/-- P7.2. -/
theorem el_can (h1 : 0 ≤ r) (h2 : r ≤ 1000000) (he : 0 ≤ e) (hc : 0 ≤ c) : (elLo r c ≤ e ∧ e ≤ elHi r c) ↔ Can r e c := by
  rw [elLo_le h1 he hc, le_elHi h2]; rfl
theorem co_can : (coLo r e ≤ c ∧ c ≤ coHi r e) ↔ Can r e c := by
  rw [coLo_le, le_coHi]; exact And.comm

theorem elLo_nonneg (h1 : 0 ≤ r) (hc : 0 ≤ c) : 0 ≤ elLo r c := by
  unfold elLo
  split
  · omega
  · have := Int.ediv_nonneg (by omega : (0 : Int) ≤ (c - 1) * 1000000000) (by omega : (0 : Int) ≤ 1000000000 + r)
    omega
theorem elHi_nonneg (h1 : 0 ≤ r) (h2 : r ≤ 1000000) (hc : 0 ≤ c) : 0 ≤ elHi r c := (le_elHi h2).2 (by rw [Int.zero_mul]; omega)
theorem coLo_nonneg (h2 : r ≤ 1000000) (he : 0 ≤ e) : 0 ≤ coLo r e := Int.ediv_nonneg (Int.mul_nonneg he (by omega)) (by omega)
theorem coHi_nonneg (h1 : 0 ≤ r) (he : 0 ≤ e) : 0 ≤ coHi r e := by
  rw [le_coHi]
  have := Int.mul_nonneg he (by omega : (0 : Int) ≤ 1000000000 + r)
  omega
theorem elLo_up (h1 : 0 ≤ r) (hc : 0 ≤ c) : elLo r c ≤ c := by
  rw [elLo_le h1 hc hc, Int.mul_add]
  have := Int.mul_nonneg hc h1
  omega
theorem up_elHi (h1 : 0 ≤ r) (h2 : r ≤ 1000000) (hc : 0 ≤ c) : c ≤ elHi r c := by
  rw [le_elHi h2, Int.mul_sub]
  have := Int.mul_nonneg hc h1
  omega
/-- The greatest true time is not above one and a bit over a thousandth more. -/
theorem elHi_le (h1 : 0 ≤ r) (h2 : r ≤ 1000000) (hc : 0 ≤ c) : elHi r c ≤ 2 * c + 2 := by
  rcases Int.lt_or_le (2 * c + 2) (elHi r c) with h | h
  · exfalso
    have k : 2 * c + 3 ≤ elHi r c := by omega
    rw [le_elHi h2] at k
    have q := Int.mul_le_mul_of_nonneg_left (by omega : (999000000 : Int) ≤ 1000000000 - r) (by omega : 0 ≤ 2 * c + 3)
    omega
  · exact h
theorem coHi_le (h2 : r ≤ 1000000) (he : 0 ≤ e) : coHi r e ≤ 2 * e + 1 := by
  rcases Int.lt_or_le (2 * e + 1) (coHi r e) with h | h
  · exfalso
    have k : 2 * e + 2 ≤ coHi r e := by omega
    rw [le_coHi] at k
    have q := Int.mul_le_mul_of_nonneg_left (by omega : 1000000000 + r ≤ (1001000000 : Int)) he
    omega
  · exact h
theorem coLo_le_self (h1 : 0 ≤ r) (he : 0 ≤ e) : coLo r e ≤ e := by
  rw [coLo_le, Int.mul_sub]
  have := Int.mul_nonneg he h1
  omega

/-! ### P7.3: order -/

variable {s d : Int}
theorem el_wider (h1 : 0 ≤ r) (h2 : r ≤ s) (h3 : s ≤ 1000000) (hc : 0 ≤ c) : elLo s c ≤ elLo r c ∧ elHi r c ≤ elHi s c := by
  constructor
  · have l := elLo_nonneg h1 hc
    rw [elLo_le (by omega) l hc]
    have k := (elLo_le h1 l hc).1 (Int.le_refl _)
    have := Int.mul_le_mul_of_nonneg_left (by omega : 1000000000 + r ≤ 1000000000 + s) l
    omega
  · have l := elHi_nonneg h1 (by omega) hc
    rw [le_elHi h3]
    have k := (le_elHi (e := elHi r c) (by omega : r ≤ 1000000)).1 (Int.le_refl _)
    have := Int.mul_le_mul_of_nonneg_left (by omega : 1000000000 - s ≤ 1000000000 - r) l
    omega
theorem el_later (h1 : 0 ≤ r) (h2 : r ≤ 1000000) (hc : 0 ≤ c) (hd : c ≤ d) : elLo r c ≤ elLo r d ∧ elHi r c ≤ elHi r d := by
  constructor
  · have l := elLo_nonneg (c := d) h1 (by omega)
    rw [elLo_le h1 l hc]
    have k := (elLo_le h1 l (by omega : 0 ≤ d)).1 (Int.le_refl _)
    omega
  · rw [le_elHi h2]
    have k := (le_elHi (e := elHi r c) h2).1 (Int.le_refl _)
    omega
theorem co_wider (h1 : 0 ≤ r) (h2 : r ≤ s) (he : 0 ≤ e) : coLo s e ≤ coLo r e ∧ coHi r e ≤ coHi s e := by
  constructor
  · rw [coLo_le]
    have k := (coLo_le (c := coLo r e)).1 (Int.le_refl _)
    have := Int.mul_le_mul_of_nonneg_left (by omega : 1000000000 - s ≤ 1000000000 - r) he
    omega
  · rw [le_coHi]
    have k := (le_coHi (c := coHi r e)).1 (Int.le_refl _)
    have := Int.mul_le_mul_of_nonneg_left (by omega : 1000000000 + r ≤ 1000000000 + s) he
    omega
theorem co_later (h1 : 0 ≤ r) (h2 : r ≤ 1000000) (hd : e ≤ d) : coLo r e ≤ coLo r d ∧ coHi r e ≤ coHi r d := by
  constructor
  · rw [coLo_le]
    have k := (coLo_le (c := coLo r d)).1 (Int.le_refl _)
    have := Int.mul_le_mul_of_nonneg_right hd (by omega : (0 : Int) ≤ 1000000000 - r)
    omega
  · rw [le_coHi]
    have k := (le_coHi (c := coHi r e)).1 (Int.le_refl _)
    have := Int.mul_le_mul_of_nonneg_right hd (by omega : (0 : Int) ≤ 1000000000 + r)
    omega

/-! ### P7.4: exact clocks -/

theorem exact_el (hc : 0 ≤ c) : elLo 0 c = c ∧ elHi 0 c = c := by
  have a := elLo_up (Int.le_refl 0) hc
  have b := up_elHi (Int.le_refl 0) (by omega) hc
  refine ⟨?_, ?_⟩
  · have k := (elLo_le (Int.le_refl 0) (elLo_nonneg (Int.le_refl 0) hc) hc).1 (Int.le_refl _)
    rw [Int.add_zero] at k
    omega
  · have k := (le_elHi (e := elHi 0 c) (c := c) (by omega : (0 : Int) ≤ 1000000)).1 (Int.le_refl _)
    rw [Int.sub_zero] at k
    omega
theorem exact_co : coLo 0 e = e ∧ coHi 0 e = e := by
  unfold coLo coHi upD
  rw [Int.sub_zero, Int.add_zero]
  omega

/-! ### P7.7: truth -/

theorem truth {x one two a b : Int} (hx : -r ≤ x) (hx2 : x ≤ r) (h : one ≤ two) (ha : one * (1000000000 + x) / 1000000000 = a) (hb : two * (1000000000 + x) / 1000000000 = b) : Can r (two - one) (b - a) := by
  have e1 : (two - one) * (1000000000 + x) = two * (1000000000 + x) - one * (1000000000 + x) := Int.sub_mul _ _ _
  have q1 := Int.mul_le_mul_of_nonneg_left (by omega : 1000000000 + x ≤ 1000000000 + r) (by omega : 0 ≤ two - one)
  have q2 := Int.mul_le_mul_of_nonneg_left (by omega : 1000000000 - r ≤ 1000000000 + x) (by omega : 0 ≤ two - one)
  generalize (two - one) * (1000000000 + x) = z at *
  generalize two * (1000000000 + x) = u at *
  generalize one * (1000000000 + x) = v at *
  constructor <;> omega
theorem truth_mono {x one two a b : Int} (hx : -1000000 ≤ x) (h : one ≤ two) (ha : one * (1000000000 + x) / 1000000000 = a) (hb : two * (1000000000 + x) / 1000000000 = b) : a ≤ b := by
  rw [← ha, ← hb]
  exact Int.ediv_le_ediv (by omega) (Int.mul_le_mul_of_nonneg_right h (by omega))
end Go.Proofs.Ytpfcjffpomdhbaa
