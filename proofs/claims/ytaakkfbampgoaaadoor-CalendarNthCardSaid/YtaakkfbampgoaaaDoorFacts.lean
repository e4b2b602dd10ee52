/- Layer 5: plain facts on days and dates, for the laws. -/
import Derived.Test.YtaakkfbampgoaaaDoorHead
namespace Go.Proofs.YtaakkfbampgoaaaDoor
set_option linter.unusedVariables false
set_option linter.unusedSimpArgs false

theorem fin_yes {n : Int} (h : n ≤ 34000) : finR n = (n, 0) := if_pos h
theorem fin_no {n : Int} (h : 34000 < n) : finR n = (0, 3) := if_neg (by omega)
theorem day_yes {y m d n : Int} (h : IsDate y m d) (hn : n = bomI y m + d - 1) (hu : n ≤ 34000) : dayR y m d = (n, 0) := by
  subst hn; exact (if_pos h).trans (fin_yes hu)
theorem day_late {y m d : Int} (h : IsDate y m d) (hu : 34000 < bomI y m + d - 1) : dayR y m d = (0, 3) := (if_pos h).trans (fin_no hu)
theorem day_none {y m d : Int} (h : ¬ IsDate y m d) : dayR y m d = (0, 1) := if_neg h
theorem week_yes {n : Int} (h : 0 ≤ n) (hu : n ≤ 34000) : weekR n = (weekI n, 0) := if_pos ⟨h, hu⟩

/-- Behind the year 2092 alone are days that are too late. -/
theorem late_year {y m d : Int} (h : IsDate y m d) (hu : 34000 < bomI y m + d - 1) : y = 2093 := by
  obtain ⟨a1, a2, a3, a4, a5, a6⟩ := h
  have := bom_in y m a3 a4
  have := bom_one (y + 1)
  omega

theorem next_date (y m d n : Int) (h : IsDate y m d) (hn : n = bomI y m + d - 1) (hu : n < 34000) :
    (IsDate y m (d + 1) ∧ n + 1 = bomI y m + (d + 1) - 1) ∨ (¬ IsDate y m (d + 1) ∧ m < 12 ∧ IsDate y (m + 1) 1 ∧ n + 1 = bomI y (m + 1) + 1 - 1) ∨ (¬ IsDate y m (d + 1) ∧ m = 12 ∧ IsDate (y + 1) 1 1 ∧ n + 1 = bomI (y + 1) 1 + 1 - 1) := by
  obtain ⟨a1, a2, a3, a4, a5, a6⟩ := h
  have l := len_bounds y m
  by_cases q : d + 1 ≤ lenI y m
  · exact .inl ⟨⟨a1, a2, a3, a4, by omega, q⟩, by omega⟩
  · have nn : ¬ IsDate y m (d + 1) := fun ⟨_, _, _, _, _, x⟩ => q x
    have s := bom_succ y m a3 a4
    by_cases qm : m < 12
    · have l1 := len_bounds y (m + 1)
      exact .inr (.inl ⟨nn, qm, ⟨a1, a2, by omega, by omega, by omega, by omega⟩, by omega⟩)
    · obtain rfl : m = 12 := by omega
      have t := bom_thirteen y
      simp at s
      rw [s] at t
      have l1 := len_bounds (y + 1) 1
      have o := bom_one (y + 1)
      exact .inr (.inr ⟨nn, rfl, ⟨by omega, by omega, by omega, by omega, by omega, by omega⟩, by omega⟩)

theorem len_four (y m : Int) : lenI (y + 4) m = lenI y m := by
  have e : (y + 4) % 4 = y % 4 := by omega
  unfold lenI; rw [e]
theorem bom_four (y m : Int) : bomI (y + 4) m = bomI y m + 1461 := by
  have e : (y + 4) % 4 = y % 4 := by omega
  unfold bomI; rw [e]; omega
theorem four_later (y m d n : Int) (h : IsDate y m d) (hn : n = bomI y m + d - 1) (hu : n + 1461 ≤ 34000) : IsDate (y + 4) m d ∧ n + 1461 = bomI (y + 4) m + d - 1 := by
  obtain ⟨a1, a2, a3, a4, a5, a6⟩ := h
  have e := bom_four y m
  have i := bom_in y m a3 a4
  have o := bom_one y
  exact ⟨⟨by omega, by omega, a3, a4, a5, by rw [len_four]; exact a6⟩, by omega⟩

/-- The year whose 29 February is between a date and the same date of the next year. -/
def leapI (y m : Int) : Int := if 2 < m then y + 1 else y

theorem next_year (y m d n : Int) (h : IsDate y m d) (hn : n = bomI y m + d - 1) (hu : n ≤ 34000) :
    (dayR (y + 1) m d = (0, 1) ∧ (m = 2 ∧ d = 29 ∨ 2092 ≤ y)) ∨ (dayR (y + 1) m d = (0, 3) ∧ 2092 ≤ y) ∨ (dayR (y + 1) m d = (n + 366, 0) ∧ leapI y m % 4 = 0) ∨ (dayR (y + 1) m d = (n + 365, 0) ∧ ¬ leapI y m % 4 = 0) := by
  obtain ⟨a1, a2, a3, a4, a5, a6⟩ := h
  by_cases q : IsDate (y + 1) m d
  · by_cases u : 34000 < bomI (y + 1) m + d - 1
    · have := late_year q u
      exact .inr (.inl ⟨day_late q u, by omega⟩)
    · have b : (leapI y m % 4 = 0 ∧ bomI (y + 1) m = bomI y m + 366) ∨ (¬ leapI y m % 4 = 0 ∧ bomI (y + 1) m = bomI y m + 365) := by
        obtain ⟨k, j, rfl, h1, h2⟩ : ∃ k j, y = 4 * k + j ∧ 0 ≤ j ∧ j < 4 := ⟨y / 4, y % 4, by omega, by omega, by omega⟩
        unfold leapI bomI
        by_cases g : 2 < m
        · simp only [g, if_true, true_and]
          rcases (by omega : j = 0 ∨ j = 1 ∨ j = 2 ∨ j = 3) with rfl | rfl | rfl | rfl
          · rw [if_neg (by omega), if_pos (by omega)]; omega
          · rw [if_neg (by omega), if_neg (by omega)]; omega
          · rw [if_neg (by omega), if_neg (by omega)]; omega
          · rw [if_pos (by omega), if_neg (by omega)]; omega
        · simp only [g, if_false, false_and]
          rcases (by omega : j = 0 ∨ j = 1 ∨ j = 2 ∨ j = 3) with rfl | rfl | rfl | rfl <;> omega
      rcases b with ⟨b1, b2⟩ | ⟨b1, b2⟩
      · exact .inr (.inr (.inl ⟨day_yes q (by omega) (by omega), b1⟩))
      · exact .inr (.inr (.inr ⟨day_yes q (by omega) (by omega), b1⟩))
  · refine .inl ⟨day_none q, ?_⟩
    by_cases hy : 2092 ≤ y
    · exact .inr hy
    · left
      have nd : lenI (y + 1) m < d := by
        rcases (by omega : lenI (y + 1) m < d ∨ d ≤ lenI (y + 1) m) with r | r
        · exact r
        · exact absurd ⟨by omega, by omega, a3, a4, a5, r⟩ q
      by_cases hm : m = 2
      · subst hm
        simp only [lenI, if_true] at nd a6
        split at nd <;> split at a6 <;> omega
      · unfold lenI at nd a6
        rw [if_neg hm] at nd a6
        omega

theorem week_step (n k : Int) : (weekI n + k) % 7 = weekI (n + k) := by unfold weekI; omega
theorem week_range (n : Int) : 0 ≤ weekI n ∧ weekI n ≤ 6 := by unfold weekI; omega

/-- What Nth returns for arguments that are right: j is which one of the days it is. -/
theorem nth_eq (y m w k j : Int) (h1 : 2000 ≤ y) (h2 : y ≤ 2093) (h3 : 1 ≤ m) (h4 : m ≤ 12) (h5 : 0 ≤ w) (h6 : w ≤ 6) (hj : (k = -1 ∧ j = countI y m w) ∨ (1 ≤ k ∧ k ≤ 5 ∧ k ≤ countI y m w ∧ j = k)) :
    nthR y m w k = finR (bomI y m + beforeI y m w + 7 * (j - 1)) ∧ IsDate y m (beforeI y m w + 7 * (j - 1) + 1) ∧ weekI (bomI y m + beforeI y m w + 7 * (j - 1)) = w ∧ 1 ≤ j := by
  have c := count_range y m w
  have b := before_range y m w
  have l := len_bounds y m
  have cl : 7 * countI y m w ≤ lenI y m + 6 - beforeI y m w := by unfold countI; omega
  have j1 : 1 ≤ j ∧ j ≤ countI y m w := by omega
  refine ⟨?_, ⟨h1, h2, h3, h4, by omega, by omega⟩, ?_, j1.1⟩
  · rw [nthR, if_pos ⟨h1, h2, h3, h4, h5, h6, by omega⟩]
    rcases hj with ⟨rfl, rfl⟩ | ⟨a, b, c, rfl⟩
    · rw [if_pos rfl]
    · rw [if_neg (by omega), if_neg (by omega)]
  · unfold weekI beforeI; omega

theorem nth_none (y m w k : Int) (h1 : 2000 ≤ y) (h2 : y ≤ 2093) (h3 : 1 ≤ m) (h4 : m ≤ 12) (h5 : 0 ≤ w) (h6 : w ≤ 6) (hk : 1 ≤ k ∧ k ≤ 5) (hc : countI y m w < k) : nthR y m w k = (0, 4) := by
  rw [nthR, if_pos ⟨h1, h2, h3, h4, h5, h6, by omega⟩, if_neg (by omega), if_pos hc]

theorem nth_facts (y m w k : Int) (h1 : 2000 ≤ y) (h2 : y ≤ 2093) (h3 : 1 ≤ m) (h4 : m ≤ 12) (h5 : 0 ≤ w) (h6 : w ≤ 6) (hk : k = -1 ∨ (1 ≤ k ∧ k ≤ 5)) :
    (k = 5 ∧ nthR y m w k = (0, 4)) ∨ (nthR y m w k = (0, 3) ∧ y = 2093) ∨
    (∃ n z, nthR y m w k = (n, 0) ∧ IsDate y m z ∧ n = bomI y m + z - 1 ∧ 0 ≤ n ∧ n ≤ 34000 ∧ weekR n = (w, 0) ∧ ((k = -1 ∧ lenI y m < z + 7) ∨ (k ≠ -1 ∧ (z - 1) / 7 = k - 1))) := by
  have c := count_range y m w
  have b := before_range y m w
  have br := bom_range y m h1 h2 h3 h4
  by_cases q : 1 ≤ k ∧ countI y m w < k
  · exact .inl ⟨by omega, nth_none y m w k h1 h2 h3 h4 h5 h6 (by omega) q.2⟩
  · right
    obtain ⟨j, hj⟩ : ∃ j, (k = -1 ∧ j = countI y m w) ∨ (1 ≤ k ∧ k ≤ 5 ∧ k ≤ countI y m w ∧ j = k) := by
      rcases hk with rfl | ⟨a, b⟩
      · exact ⟨_, .inl ⟨rfl, rfl⟩⟩
      · exact ⟨k, .inr ⟨a, b, by omega, rfl⟩⟩
    obtain ⟨e1, e2, e3, e4⟩ := nth_eq y m w k j h1 h2 h3 h4 h5 h6 hj
    by_cases u : 34000 < bomI y m + beforeI y m w + 7 * (j - 1)
    · exact .inl ⟨by rw [e1, fin_no u], late_year e2 (by omega)⟩
    · refine .inr ⟨_, _, by rw [e1, fin_yes (by omega)], e2, by omega, by omega, by omega, by rw [week_yes (by omega) (by omega), e3], ?_⟩
      rcases hj with ⟨rfl, rfl⟩ | ⟨a, b, c, rfl⟩
      · left
        refine ⟨rfl, ?_⟩
        have : lenI y m + 6 - beforeI y m w < 7 * countI y m w + 7 := by unfold countI; omega
        omega
      · exact .inr ⟨by omega, by omega⟩

theorem fifth_facts (y m w : Int) (h1 : 2000 ≤ y) (h2 : y ≤ 2093) (h3 : 1 ≤ m) (h4 : m ≤ 12) (h5 : 0 ≤ w) (h6 : w ≤ 6) :
    (nthR y m w (-1) = (0, 3) ∧ y = 2093) ∨ (∃ n, nthR y m w (-1) = (n, 0) ∧ nthR y m w 5 = (n, 0)) ∨ (∃ n, nthR y m w (-1) = (n, 0) ∧ nthR y m w 5 = (0, 4) ∧ nthR y m w 4 = (n, 0)) := by
  have c := count_range y m w
  obtain ⟨e1, e2, e3, e4⟩ := nth_eq y m w (-1) _ h1 h2 h3 h4 h5 h6 (.inl ⟨rfl, rfl⟩)
  by_cases u : 34000 < bomI y m + beforeI y m w + 7 * (countI y m w - 1)
  · exact .inl ⟨by rw [e1, fin_no u], late_year e2 (by omega)⟩
  · right
    by_cases q : countI y m w = 5
    · obtain ⟨f1, _⟩ := nth_eq y m w 5 5 h1 h2 h3 h4 h5 h6 (.inr ⟨by omega, by omega, by omega, rfl⟩)
      rw [q] at e1 u
      exact .inl ⟨_, by rw [e1, fin_yes (by omega)], by rw [f1, fin_yes (by omega)]⟩
    · have q4 : countI y m w = 4 := by omega
      obtain ⟨f1, _⟩ := nth_eq y m w 4 4 h1 h2 h3 h4 h5 h6 (.inr ⟨by omega, by omega, by omega, rfl⟩)
      rw [q4] at e1 u
      exact .inr ⟨_, by rw [e1, fin_yes (by omega)], nth_none y m w 5 h1 h2 h3 h4 h5 h6 (by omega) (by omega), by rw [f1, fin_yes (by omega)]⟩
end Go.Proofs.YtaakkfbampgoaaaDoor
