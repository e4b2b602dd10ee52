/- Layer 5: days and dates as plain arithmetic on integers: no program in it. -/
namespace Go.Proofs.YtaakkfbampgoaaaDoor
set_option linter.unusedVariables false

/-- How many days a month has. -/
def lenI (y m : Int) : Int := if m = 2 then (if y % 4 = 0 then 29 else 28) else if m = 4 ∨ m = 6 ∨ m = 9 ∨ m = 11 then 30 else 31
/-- How many days of a year that is no leap year are before a month (13: the end of the year). -/
def cumI (m : Int) : Int := if m ≤ 1 then 0 else if m = 2 then 31 else if m = 3 then 59 else if m = 4 then 90 else if m = 5 then 120 else if m = 6 then 151 else if m = 7 then 181 else if m = 8 then 212 else if m = 9 then 243 else if m = 10 then 273 else if m = 11 then 304 else if m = 12 then 334 else 365
/-- The number of the first day of a month. -/
def bomI (y m : Int) : Int := 365 * (y - 2000) + (y - 1997) / 4 + cumI m + (if 2 < m ∧ y % 4 = 0 then 1 else 0)
/-- These are a year, a month, and a day of this month. -/
def IsDate (y m d : Int) : Prop := 2000 ≤ y ∧ y ≤ 2093 ∧ 1 ≤ m ∧ m ≤ 12 ∧ 1 ≤ d ∧ d ≤ lenI y m
instance (y m d : Int) : Decidable (IsDate y m d) := by unfold IsDate; infer_instance

theorem month_cases {m : Int} (h1 : 1 ≤ m) (h2 : m ≤ 12) : m = 1 ∨ m = 2 ∨ m = 3 ∨ m = 4 ∨ m = 5 ∨ m = 6 ∨ m = 7 ∨ m = 8 ∨ m = 9 ∨ m = 10 ∨ m = 11 ∨ m = 12 := by omega

theorem len_bounds (y m : Int) : 28 ≤ lenI y m ∧ lenI y m ≤ 31 := by
  unfold lenI; split
  · split <;> omega
  · split <;> omega

theorem bom_one (y : Int) : bomI y 1 = 365 * (y - 2000) + (y - 1997) / 4 := by simp [bomI, cumI]
theorem bom_thirteen (y : Int) : bomI y 13 = bomI (y + 1) 1 := by
  rw [bom_one]; simp [bomI, cumI]; split <;> omega
theorem bom_succ (y m : Int) (h1 : 1 ≤ m) (h2 : m ≤ 12) : bomI y (m + 1) = bomI y m + lenI y m := by
  by_cases hy : y % 4 = 0 <;> rcases month_cases h1 h2 with rfl | rfl | rfl | rfl | rfl | rfl | rfl | rfl | rfl | rfl | rfl | rfl <;> simp [bomI, cumI, lenI, hy] <;> omega

theorem bom_mono (y m k : Int) (h1 : 1 ≤ m) (h2 : m < k) (h3 : k ≤ 13) : bomI y m + lenI y m ≤ bomI y k := by
  have aux : ∀ n : Nat, m + 1 + n ≤ 13 → bomI y m + lenI y m ≤ bomI y (m + 1 + n) := by
    intro n
    induction n with
    | zero => intro _; rw [← bom_succ y m h1 (by omega)]; simp
    | succ n ih =>
      intro h
      have a := ih (by omega)
      have b := bom_succ y (m + 1 + n) (by omega) (by omega)
      have c := (len_bounds y (m + 1 + n)).1
      have e : m + 1 + ((n + 1 : Nat) : Int) = m + 1 + n + 1 := by omega
      rw [e]; omega
  have := aux (k - m - 1).toNat (by omega)
  have e : m + 1 + ((k - m - 1).toNat : Int) = k := by omega
  rwa [e] at this

/-- A month's end is not after the end of its year. -/
theorem bom_in (y m : Int) (h1 : 1 ≤ m) (h2 : m ≤ 12) : bomI y 1 ≤ bomI y m ∧ bomI y m + lenI y m ≤ bomI (y + 1) 1 := by
  refine ⟨?_, ?_⟩
  · by_cases h : m = 1
    · subst h; exact Int.le_refl _
    · have := bom_mono y 1 m (by omega) (by omega) (by omega)
      have := (len_bounds y 1).1
      omega
  · rw [← bom_thirteen]; exact bom_mono y m 13 h1 (by omega) (by omega)

theorem year_mono (y z : Int) (h : y < z) : bomI (y + 1) 1 ≤ bomI z 1 := by rw [bom_one, bom_one]; omega

/-- A day has one date. -/
theorem date_unique {y m d y' m' d' : Int} (h : IsDate y m d) (h' : IsDate y' m' d') (e : bomI y m + d = bomI y' m' + d') : y = y' ∧ m = m' ∧ d = d' := by
  obtain ⟨_, _, a3, a4, a5, a6⟩ := h
  obtain ⟨_, _, b3, b4, b5, b6⟩ := h'
  have i1 := bom_in y m a3 a4
  have i2 := bom_in y' m' b3 b4
  have ey : y = y' := by
    rcases (by omega : y < y' ∨ y = y' ∨ y' < y) with h | h | h
    · have := year_mono y y' h; omega
    · exact h
    · have := year_mono y' y h; omega
  subst ey
  have em : m = m' := by
    rcases (by omega : m < m' ∨ m = m' ∨ m' < m) with h | h | h
    · have := bom_mono y m m' a3 h (by omega); omega
    · exact h
    · have := bom_mono y m' m b3 h (by omega); omega
  subst em
  exact ⟨rfl, rfl, by omega⟩

/-- Where a month is found: the first one that a day is before the end of. -/
theorem month_of (y n : Int) (h1 : bomI y 1 ≤ n) (h2 : n < bomI y 13) : ∃ m, 1 ≤ m ∧ m ≤ 12 ∧ bomI y m ≤ n ∧ n < bomI y m + lenI y m := by
  have aux : ∀ k : Nat, k ≤ 12 → n < bomI y (1 + k) → ∃ m, 1 ≤ m ∧ m ≤ 12 ∧ bomI y m ≤ n ∧ n < bomI y m + lenI y m := by
    intro k
    induction k with
    | zero => intro _ h; simp at h; omega
    | succ k ih =>
      intro hk h
      by_cases hq : n < bomI y (1 + k)
      · exact ih (by omega) hq
      · have b := bom_succ y (1 + k) (by omega) (by omega)
        have e : 1 + ((k + 1 : Nat) : Int) = 1 + k + 1 := by omega
        rw [e, b] at h
        exact ⟨1 + k, by omega, by omega, by omega, h⟩
  exact aux 12 (by omega) h2

/-- Each day has a date. -/
theorem date_exists (n : Int) (h0 : 0 ≤ n) (h1 : n ≤ 34000) : ∃ y m d, IsDate y m d ∧ n = bomI y m + d - 1 := by
  obtain ⟨y, a1, a2, a3, a4⟩ : ∃ y, 2000 ≤ y ∧ y ≤ 2093 ∧ bomI y 1 ≤ n ∧ n < bomI y 13 := by
    by_cases hr : n % 1461 < 366
    · refine ⟨2000 + 4 * (n / 1461), by omega, by omega, ?_, ?_⟩
      · rw [bom_one]; omega
      · rw [bom_thirteen, bom_one]; omega
    · refine ⟨2000 + 4 * (n / 1461) + (n % 1461 - 1) / 365, by omega, by omega, ?_, ?_⟩
      · rw [bom_one]; omega
      · rw [bom_thirteen, bom_one]; omega
  obtain ⟨m, b1, b2, b3, b4⟩ := month_of y n a3 a4
  exact ⟨y, m, n - bomI y m + 1, ⟨a1, a2, b1, b2, by omega, by omega⟩, by omega⟩

/-- The day of the week. -/
def weekI (n : Int) : Int := (n + 5) % 7

/-- What Day, Weekday and Nth return: a number and an error. -/
def finR (n : Int) : Int × Int := if n ≤ 34000 then (n, 0) else (0, 3)
def dayR (y m d : Int) : Int × Int := if IsDate y m d then finR (bomI y m + d - 1) else (0, 1)
def weekR (n : Int) : Int × Int := if 0 ≤ n ∧ n ≤ 34000 then (weekI n, 0) else (0, 1)
/-- How many days of a month are before the first one on a day of the week; how many such days it has. -/
def beforeI (y m w : Int) : Int := (w - (bomI y m + 5)) % 7
def countI (y m w : Int) : Int := (lenI y m + 6 - beforeI y m w) / 7
def NthArgs (y m w k : Int) : Prop := 2000 ≤ y ∧ y ≤ 2093 ∧ 1 ≤ m ∧ m ≤ 12 ∧ 0 ≤ w ∧ w ≤ 6 ∧ (k = -1 ∨ 1 ≤ k ∧ k ≤ 5)
instance (y m w k : Int) : Decidable (NthArgs y m w k) := by unfold NthArgs; infer_instance
def nthR (y m w k : Int) : Int × Int :=
  if NthArgs y m w k then
    (if k = -1 then finR (bomI y m + beforeI y m w + 7 * (countI y m w - 1))
     else if countI y m w < k then (0, 4) else finR (bomI y m + beforeI y m w + 7 * (k - 1)))
  else (0, 1)

theorem bom_range (y m : Int) (h1 : 2000 ≤ y) (h2 : y ≤ 2093) (h3 : 1 ≤ m) (h4 : m ≤ 12) : 0 ≤ bomI y m ∧ bomI y m ≤ 34310 := by
  have a := bom_in y m h3 h4
  have b := (len_bounds y m).1
  rw [bom_one, bom_one] at a
  omega
theorem before_range (y m w : Int) : 0 ≤ beforeI y m w ∧ beforeI y m w ≤ 6 := by unfold beforeI; omega
theorem count_range (y m w : Int) : 4 ≤ countI y m w ∧ countI y m w ≤ 5 := by
  unfold countI
  have a := len_bounds y m
  have b := before_range y m w
  omega
end Go.Proofs.YtaakkfbampgoaaaDoor
