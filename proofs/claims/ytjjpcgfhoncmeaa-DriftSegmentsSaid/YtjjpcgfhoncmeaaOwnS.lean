/- Layer 7: rows of segments that the call owns; sums of segments in the opposite order, and without the last one. -/
import Derived.OwnWalk
import Derived.Laws.AppendOwn
import Derived.Laws.OwnMore
import Derived.Test.YtjjpcgfhoncmeaaExact
namespace Go.Proofs.Ytjjpcgfhoncmeaa
open Go.RowKit Go
set_option linter.unusedVariables false
set_option linter.unusedSimpArgs false

def encS (s : Sg) : List Value := [.int .i64 s.c, .int .i64 s.tl, .int .i64 s.th, .int .i64 s.al, .int .i64 s.ah]
def cellsS (l : List Sg) : List Value := l.flatMap encS
theorem cellsS_app (a b : List Sg) : cellsS (a ++ b) = cellsS a ++ cellsS b := by simp [cellsS]
theorem cellsS_at (l : List Sg) : ∀ k, k < l.length → (cellsS l)[5 * k]? = some (.int .i64 (l.getD k Sg.nil).c) ∧ (cellsS l)[5 * k + 1]? = some (.int .i64 (l.getD k Sg.nil).tl) ∧ (cellsS l)[5 * k + 2]? = some (.int .i64 (l.getD k Sg.nil).th) ∧
    (cellsS l)[5 * k + 3]? = some (.int .i64 (l.getD k Sg.nil).al) ∧ (cellsS l)[5 * k + 4]? = some (.int .i64 (l.getD k Sg.nil).ah) := by
  induction l with
  | nil => intro k h; simp at h
  | cons x l ih =>
    intro k h
    cases k with
    | zero => exact ⟨rfl, rfl, rfl, rfl, rfl⟩
    | succ k =>
      obtain ⟨h0, h1, h2, h3, h4⟩ := ih k (by simpa using h)
      rw [List.getD_cons_succ]
      refine ⟨?_, ?_, ?_, ?_, ?_⟩
      · rw [show 5 * (k + 1) = 5 * k + 1 + 1 + 1 + 1 + 1 by omega]; exact h0
      · rw [show 5 * (k + 1) + 1 = 5 * k + 1 + 1 + 1 + 1 + 1 + 1 by omega]; exact h1
      · rw [show 5 * (k + 1) + 2 = 5 * k + 2 + 1 + 1 + 1 + 1 + 1 by omega]; exact h2
      · rw [show 5 * (k + 1) + 3 = 5 * k + 3 + 1 + 1 + 1 + 1 + 1 by omega]; exact h3
      · rw [show 5 * (k + 1) + 4 = 5 * k + 4 + 1 + 1 + 1 + 1 + 1 by omega]; exact h4

theorem info_sg : (Try.prog.info? 45).map (fun i => (i.zero, i.size, i.bytes)) = some (some (.agg #[.int .i64 0, .int .i64 0, .int .i64 0, .int .i64 0, .int .i64 0]), 5, 40) := by kernel_rfl

theorem cells_new (w : World) (t : TypeId) (cs : List Value) : ∀ j u, cs[j]? = some u → (w.alloc (.cells cs.toArray t)).cell? ((⟨w.heap.size, 0, none⟩ : Addr).add j) = some u := by
  intro j u h
  rw [add_zero_off, cell_of_row _ _ j cs.toArray t (0, 0) (heap_alloc_new w _)]
  simpa using h
theorem grown_of_below {a w : World} (h : Below a.heap.size a w) : a.grownBy w none := ⟨h.os, h.tape, h.output, h.size, fun k hk _ => h.block k hk⟩

theorem rowS_own {w : World} {base : Nat} {v : Value} {xs : List Sg} (h : w.ownsRow base 45 5 v xs.length (cellsS xs)) (hz : ∀ s ∈ xs, s.Int64) :
    ∃ A cap, v = .slice A xs.length cap ∧ xs.length ≤ cap ∧ cap ≤ 9223372036854775807 ∧ (A = none → cap = 0) ∧ RowS w.heap.size w A xs.length xs := by
  rcases h.2 with ⟨rfl, h0⟩ | ⟨g, cap, cur, rfl, hb, hg, hn, hm, hs, ht⟩
  · exact ⟨none, 0, by rw [h0], by omega, by omega, fun _ => rfl, rfl, fun hn => by omega, hz⟩
  · refine ⟨some ⟨g, 0, none⟩, cap, rfl, hn, by unfold maxLen at hm; omega, (fun h => by cases h), rfl, fun _ => ⟨_, rfl, (Array.getElem?_eq_some_iff.1 hg).1, fun i hi => ?_⟩, hz⟩
    obtain ⟨h0, h1, h2, h3, h4⟩ := cellsS_at xs i hi
    rw [add_zero_off]
    refine ⟨?_, ?_, ?_, ?_, ?_⟩
    · rw [h.cellAt (i * 5) (by omega), show i * 5 = 5 * i by omega]; exact h0
    · rw [h.cellAt (i * 5 + 1) (by omega), show i * 5 = 5 * i by omega]; exact h1
    · rw [h.cellAt (i * 5 + 2) (by omega), show i * 5 = 5 * i by omega]; exact h2
    · rw [h.cellAt (i * 5 + 3) (by omega), show i * 5 = 5 * i by omega]; exact h3
    · rw [h.cellAt (i * 5 + 4) (by omega), show i * 5 = 5 * i by omega]; exact h4

/-! ### The opposite order; all but the last one -/

theorem first_zero (T : Tb) (l : List Sg) : firstE T l = 0 ↔ ∀ s ∈ l, segE T s = 0 := by
  induction l with
  | nil => simp [firstE]
  | cons s r ih =>
    by_cases q : segE T s = 0
    · simp only [firstE, if_pos q, List.mem_cons, forall_eq_or_imp]
      rw [ih]
      exact ⟨fun h => ⟨q, h⟩, fun h => h.2⟩
    · simp only [firstE, if_neg q, List.mem_cons, forall_eq_or_imp]
      exact ⟨fun h => absurd h q, fun h => h.1⟩
theorem first_rev (T : Tb) (l : List Sg) : firstE T l.reverse = 0 ↔ firstE T l = 0 := by
  rw [first_zero, first_zero]
  simp
theorem lo_rev (T : Tb) (l : List Sg) : sumLo T l.reverse = sumLo T l := by
  induction l with
  | nil => rfl
  | cons s r ih => rw [List.reverse_cons, sumLo_app, ih]; simp only [sumLo]; omega
theorem hi_rev (T : Tb) (l : List Sg) : sumHi T l.reverse = sumHi T l := by
  induction l with
  | nil => rfl
  | cons s r ih => rw [List.reverse_cons, sumHi_app, ih]; simp only [sumHi]; omega

/-- An error is an error in the opposite order too. -/
theorem sev_rev_bad (T : Tb) (l : List Sg) (h : (sevR T l).2.2 ≠ 0) : (sevR T l).1 = 0 ∧ (sevR T l).2.1 = 0 ∧ (sevR T l.reverse).2.2 ≠ 0 := by
  unfold sevR at h ⊢
  rw [List.length_reverse, hi_rev, lo_rev]
  by_cases h1 : T.Ok
  · rw [if_pos h1] at h ⊢
    rw [if_pos h1]
    by_cases h2 : 64 < l.length
    · rw [if_pos h2, if_pos h2]; simp
    · rw [if_neg h2] at h ⊢
      rw [if_neg h2]
      by_cases h3 : firstE T l ≠ 0
      · have h4 : firstE T l.reverse ≠ 0 := fun e => h3 ((first_rev T l).1 e)
        rw [if_pos h3, if_pos h4]
        exact ⟨rfl, rfl, h4⟩
      · have h4 : ¬ firstE T l.reverse ≠ 0 := fun e => h3 (fun q => e ((first_rev T l).2 q))
        rw [if_neg h3] at h ⊢
        rw [if_neg h4]
        by_cases h5 : 3000000000000000 < sumHi T l
        · rw [if_pos h5]; simp
        · rw [if_neg h5] at h; exact absurd rfl h
  · rw [if_neg h1, if_neg h1]; simp
/-- What the law asks where there is no error. -/
theorem sev_good (T : Tb) (l : List Sg) (hl : 1 ≤ l.length) (h : (sevR T l).2.2 = 0) :
    T.Ok ∧ sevR T l = (sumLo T l, sumHi T l, 0) ∧ sevR T l.reverse = (sumLo T l, sumHi T l, 0) ∧ sevR T (l.take (l.length - 1)) = (sumLo T (l.take (l.length - 1)), sumHi T (l.take (l.length - 1)), 0) ∧
      segE T (l.getD (l.length - 1) Sg.nil) = 0 ∧ sumLo T l = sumLo T (l.take (l.length - 1)) + segLo T (l.getD (l.length - 1) Sg.nil) ∧ sumHi T l = sumHi T (l.take (l.length - 1)) + segHi T (l.getD (l.length - 1) Sg.nil) ∧
      0 ≤ sumLo T l ∧ 0 ≤ sumHi T l ∧ sumLo T l ≤ 200000000000000000 ∧ sumHi T l ≤ 3000000000000000 := by
  have h1 : T.Ok := by
    rcases Classical.em T.Ok with q | q
    · exact q
    · unfold sevR at h; rw [if_neg q] at h; simp at h
  have h2 : ¬ 64 < l.length := by
    intro q
    unfold sevR at h; rw [if_pos h1, if_pos q] at h; simp at h
  have h3 : ¬ firstE T l ≠ 0 := by
    intro q
    unfold sevR at h; rw [if_pos h1, if_neg h2, if_pos q] at h; exact q h
  have h5 : ¬ 3000000000000000 < sumHi T l := by
    intro q
    unfold sevR at h; rw [if_pos h1, if_neg h2, if_neg h3, if_pos q] at h; simp at h
  have f0 : firstE T l = 0 := Classical.not_not.1 h3
  have fz := (first_zero T l).1 f0
  have el : l.take (l.length - 1) ++ [l.getD (l.length - 1) Sg.nil] = l := by
    have := take_sg l Sg.nil (l.length - 1) (by omega)
    rw [show l.length - 1 + 1 = l.length by omega, List.take_length] at this
    exact this.symm
  have hm : l.getD (l.length - 1) Sg.nil ∈ l := by
    have : l.length - 1 < l.length := by omega
    simp [List.getD, this]
  have s0 := fz _ hm
  have t0 : firstE T (l.take (l.length - 1)) = 0 := (first_zero T _).2 fun s hs => fz s (List.mem_of_mem_take hs)
  have tb := sum_bound T _ t0
  have lb := sum_bound T l f0
  have sb := seg_bound T _ (seg_ok s0)
  have e1 : sumLo T l = sumLo T (l.take (l.length - 1)) + segLo T (l.getD (l.length - 1) Sg.nil) := by
    conv => lhs; rw [← el, sumLo_app]
    simp [sumLo]
  have e2 : sumHi T l = sumHi T (l.take (l.length - 1)) + segHi T (l.getD (l.length - 1) Sg.nil) := by
    conv => lhs; rw [← el, sumHi_app]
    simp [sumHi]
  refine ⟨h1, ?_, ?_, ?_, s0, e1, e2, lb.1, lb.2.2.1, by omega, by omega⟩
  · unfold sevR; rw [if_pos h1, if_neg h2, if_neg h3, if_neg h5]
  · unfold sevR
    rw [List.length_reverse, hi_rev, lo_rev, if_pos h1, if_neg h2, if_neg (fun q => q ((first_rev T l).2 f0)), if_neg h5]
  · unfold sevR
    rw [if_pos h1, if_neg (by rw [List.length_take]; omega), if_neg (fun q => q t0), if_neg (by omega)]
end Go.Proofs.Ytjjpcgfhoncmeaa
