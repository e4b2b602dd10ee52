/- Layer 7: the mathematics of DriftWorst: the greatest of a part of a table; no program in it. -/
import Derived.Test.YtjjpcgfhoncmeaaMatch
namespace Go.Proofs.Ytjjpcgfhoncmeaa
open Go.RowKit Go
set_option linter.unusedVariables false
set_option linter.unusedSimpArgs false

theorem maxRow_ge (l : List Int) (k n : Nat) : ∀ j, j < n → l.getD (k + j) 0 ≤ maxRow l k n := by
  induction n with
  | zero => intro j h; omega
  | succ n ih =>
    intro j h
    simp only [maxRow]
    by_cases e : j = n
    · subst e; omega
    · have := ih j (by omega); omega
theorem maxTab_ge (rt : List (List Int)) (i k n m : Nat) : ∀ a j, a < m → j < n → (rt.getD (i + a) []).getD (k + j) 0 ≤ maxTab rt i k n m := by
  induction m with
  | zero => intro a j h; omega
  | succ m ih =>
    intro a j h hj
    simp only [maxTab]
    by_cases e : a = m
    · subst e
      have := maxRow_ge (rt.getD (i + a) []) k n j hj
      omega
    · have := ih a j (by omega) hj; omega
theorem maxRow_up (l : List Int) (k n : Nat) (X : Int) (hX : 0 ≤ X) (h : ∀ j, j < n → l.getD (k + j) 0 ≤ X) : maxRow l k n ≤ X := by
  induction n with
  | zero => simpa [maxRow] using hX
  | succ n ih =>
    have a := ih (fun j hj => h j (by omega))
    have b := h n (by omega)
    simp only [maxRow]; omega
theorem maxTab_up (rt : List (List Int)) (i k n m : Nat) (X : Int) (hX : 0 ≤ X) (h : ∀ a j, a < m → j < n → (rt.getD (i + a) []).getD (k + j) 0 ≤ X) : maxTab rt i k n m ≤ X := by
  induction m with
  | zero => simpa [maxTab] using hX
  | succ m ih =>
    have a := ih (fun a j ha hj => h a j (by omega) hj)
    have b := maxRow_up (rt.getD (i + m) []) k n X hX (fun j hj => h m j (by omega) hj)
    simp only [maxTab]; omega
theorem maxRow_at (l : List Int) (k n : Nat) (hn : 0 < n) (h : ∀ j, j < n → 0 ≤ l.getD (k + j) 0) : ∃ j, j < n ∧ l.getD (k + j) 0 = maxRow l k n := by
  induction n with
  | zero => omega
  | succ n ih =>
    simp only [maxRow]
    have b := h n (by omega)
    rcases Nat.eq_zero_or_pos n with e | e
    · subst e
      refine ⟨0, by omega, ?_⟩
      simp only [maxRow]; omega
    · obtain ⟨j, hj, q⟩ := ih e (fun j hj => h j (by omega))
      rcases Int.le_total (maxRow l k n) (l.getD (k + n) 0) with c | c
      · exact ⟨n, by omega, by omega⟩
      · exact ⟨j, by omega, by omega⟩
theorem maxTab_at (rt : List (List Int)) (i k n m : Nat) (hn : 0 < n) (hm : 0 < m) (h : ∀ a j, a < m → j < n → 0 ≤ (rt.getD (i + a) []).getD (k + j) 0) :
    ∃ a j, a < m ∧ j < n ∧ (rt.getD (i + a) []).getD (k + j) 0 = maxTab rt i k n m := by
  induction m with
  | zero => omega
  | succ m ih =>
    simp only [maxTab]
    obtain ⟨j', hj', q'⟩ := maxRow_at (rt.getD (i + m) []) k n hn (fun j hj => h m j (by omega) hj)
    have n0 := maxRow_nonneg (rt.getD (i + m) []) k n
    rcases Nat.eq_zero_or_pos m with e | e
    · subst e
      refine ⟨0, j', by omega, hj', ?_⟩
      simp only [maxTab]; omega
    · obtain ⟨a, j, ha, hj, q⟩ := ih e (fun a j ha hj => h a j (by omega) hj)
      rcases Int.le_total (maxTab rt i k n m) (maxRow (rt.getD (i + m) []) k n) with c | c
      · exact ⟨m, j', by omega, hj', by omega⟩
      · exact ⟨a, j, by omega, hj, by omega⟩

theorem cnt_self {l : List Int} (h : RisesL l) {R : Nat} (hR : R < l.length) : cnt l (l.getD R 0) = R + 1 := by
  have a := (cnt_iff h (l.getD R 0) R hR).1 (Int.le_refl _)
  have b := cnt_le l (l.getD R 0)
  rcases Nat.lt_or_ge (R + 1) (cnt l (l.getD R 0)) with q | q
  · exfalso
    have c := (cnt_iff h (l.getD R 0) (R + 1) (by omega)).2 q
    have d := h.lt (R + 1) R (by omega) (by omega)
    omega
  · omega

theorem worst_bad (T : Tb) (tl th al ah : Int) (h : (worstR T tl th al ah).2 ≠ 0) : (worstR T tl th al ah).1 = 0 := by
  unfold worstR at h ⊢
  split
  · rename_i q
    rw [if_pos q] at h
    split
    · rfl
    · rename_i q2
      rw [if_neg q2] at h
      exact absurd rfl h
  · rfl

theorem worst_ok {T : Tb} {tl th al ah w : Int} (h : worstR T tl th al ah = (w, 0)) :
    T.Ok ∧ tl ≤ th ∧ al ≤ ah ∧ 1 ≤ cnt T.tm tl ∧ 1 ≤ cnt T.ag al ∧ w = maxTab T.rt (cnt T.tm tl - 1) (cnt T.ag al - 1) (cnt T.ag ah + 1 - cnt T.ag al) (cnt T.tm th + 1 - cnt T.tm tl) := by
  unfold worstR at h
  split at h
  · rename_i q
    split at h
    · simp at h
    · rename_i q2
      simp only [Prod.mk.injEq] at h
      exact ⟨q.1, q.2.1, q.2.2, by omega, by omega, h.1.symm⟩
  · simp at h

/-- In the ranges, with the rate that Worst says. -/
def Good (T : Tb) (tl th al ah w c d : Int) : Prop := tl ≤ c ∧ c ≤ th ∧ al ≤ d ∧ d ≤ ah ∧ rateR T c d = (w, 0)

/-- Of the lower end and the bands, one has the row asked for. -/
theorem place {l : List Int} (h : RisesL l) {lo hi : Int} (h1 : lo ≤ hi) {a : Nat} (hc : 1 ≤ cnt l lo) (ha : a < cnt l hi + 1 - cnt l lo) :
    ∃ i, i ≤ l.length ∧ lo ≤ (lo :: l).getD i 0 ∧ (lo :: l).getD i 0 ≤ hi ∧ cnt l ((lo :: l).getD i 0) = cnt l lo + a := by
  have b := cnt_le l hi
  rcases Nat.eq_zero_or_pos a with e | e
  · subst e
    exact ⟨0, by omega, by simp, by simpa using h1, by simp⟩
  · obtain ⟨R, hR⟩ : ∃ R, cnt l lo - 1 + a = R := ⟨_, rfl⟩
    have lR : R < l.length := by omega
    refine ⟨R + 1, by omega, ?_⟩
    rw [List.getD_cons_succ]
    have x := (cnt_iff h hi R lR).2 (by omega)
    have y : ¬ l.getD R 0 ≤ lo := fun q => by
      have := (cnt_iff h lo R lR).1 q
      omega
    exact ⟨by omega, x, by rw [cnt_self h lR]; omega⟩

theorem worst_facts {T : Tb} {tl th al ah w : Int} (h : worstR T tl th al ah = (w, 0)) (a b : Int) (h1 : tl ≤ a) (h2 : a ≤ th) (h3 : al ≤ b) (h4 : b ≤ ah) :
    (∃ r, rateR T a b = (r, 0) ∧ r ≤ w) ∧ (∃ n, worstR T a th b ah = (n, 0) ∧ n ≤ w) := by
  obtain ⟨ok, q1, q2, q3, q4, q5⟩ := worst_ok h
  have ma := cnt_mono ok.1 h1
  have mb := cnt_mono ok.2.1 h3
  have na := cnt_mono ok.1 h2
  have nb := cnt_mono ok.2.1 h4
  refine ⟨⟨rateAt T.rt (cnt T.tm a - 1) (cnt T.ag b - 1), ?_, ?_⟩, ⟨maxTab T.rt (cnt T.tm a - 1) (cnt T.ag b - 1) (cnt T.ag ah + 1 - cnt T.ag b) (cnt T.tm th + 1 - cnt T.tm a), ?_, ?_⟩⟩
  · unfold rateR
    rw [if_pos ok, if_neg (by omega)]
  · have := maxTab_ge T.rt (cnt T.tm tl - 1) (cnt T.ag al - 1) (cnt T.ag ah + 1 - cnt T.ag al) (cnt T.tm th + 1 - cnt T.tm tl) (cnt T.tm a - cnt T.tm tl) (cnt T.ag b - cnt T.ag al) (by omega) (by omega)
    rw [← q5] at this
    unfold rateAt
    rwa [show cnt T.tm tl - 1 + (cnt T.tm a - cnt T.tm tl) = cnt T.tm a - 1 by omega, show cnt T.ag al - 1 + (cnt T.ag b - cnt T.ag al) = cnt T.ag b - 1 by omega] at this
  · unfold worstR
    rw [if_pos ⟨ok, h2, h4⟩, if_neg (by omega)]
  · refine maxTab_up _ _ _ _ _ _ (by rw [q5]; exact maxTab_nonneg _ _ _ _ _) fun a' j ha hj => ?_
    have := maxTab_ge T.rt (cnt T.tm tl - 1) (cnt T.ag al - 1) (cnt T.ag ah + 1 - cnt T.ag al) (cnt T.tm th + 1 - cnt T.tm tl) (cnt T.tm a - cnt T.tm tl + a') (cnt T.ag b - cnt T.ag al + j) (by omega) (by omega)
    rw [← q5] at this
    rwa [show cnt T.tm tl - 1 + (cnt T.tm a - cnt T.tm tl + a') = cnt T.tm a - 1 + a' by omega, show cnt T.ag al - 1 + (cnt T.ag b - cnt T.ag al + j) = cnt T.ag b - 1 + j by omega] at this

theorem worst_there {T : Tb} {tl th al ah w : Int} (h : worstR T tl th al ah = (w, 0)) :
    ∃ i j, i ≤ T.tm.length ∧ j ≤ T.ag.length ∧ Good T tl th al ah w ((tl :: T.tm).getD i 0) ((al :: T.ag).getD j 0) := by
  obtain ⟨ok, q1, q2, q3, q4, q5⟩ := worst_ok h
  have ma := cnt_mono ok.1 q1
  have mb := cnt_mono ok.2.1 q2
  have na := cnt_le T.tm th
  have nb := cnt_le T.ag ah
  obtain ⟨a, j, ha, hj, e⟩ := maxTab_at T.rt (cnt T.tm tl - 1) (cnt T.ag al - 1) (cnt T.ag ah + 1 - cnt T.ag al) (cnt T.tm th + 1 - cnt T.tm tl) (by omega) (by omega) (fun a j ha hj => (ok.rate (by omega) (by omega)).1)
  obtain ⟨i1, p1, p2, p3, p4⟩ := place ok.1 q1 q3 ha
  obtain ⟨i2, r1, r2, r3, r4⟩ := place ok.2.1 q2 q4 hj
  refine ⟨i1, i2, p1, r1, p2, p3, r2, r3, ?_⟩
  unfold rateR
  rw [if_pos ok, p4, r4, if_neg (by omega), q5, ← e]
  unfold rateAt
  rw [show cnt T.tm tl + a - 1 = cnt T.tm tl - 1 + a by omega, show cnt T.ag al + j - 1 = cnt T.ag al - 1 + j by omega]
end Go.Proofs.Ytjjpcgfhoncmeaa
