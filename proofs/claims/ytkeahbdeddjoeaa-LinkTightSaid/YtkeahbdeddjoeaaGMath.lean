/- Layer 10: the delays in force that the program goes through, and their fold (no program in it). -/
import Derived.Test.YtkeahbdeddjoeaaGSm
namespace Go.Proofs.Ytkeahbdeddjoeaa
open Go.RowKit Go
set_option linter.unusedVariables false
set_option linter.unusedSimpArgs false

/-- What inForce hands on. -/
def forL (lo hi : Int) : List Ch → List Ch
  | [] => []
  | [x] => if hi < x.t then [] else [x]
  | x :: y :: r => if hi < x.t then [] else if y.t ≤ lo then forL lo hi (y :: r) else x :: forL lo hi (y :: r)
def foldJ (o : Ch) (l : List Ch) : Ch := l.foldl joinR o
def Asc : List Ch → Prop
  | [] => True
  | [_] => True
  | x :: y :: r => x.t < y.t ∧ Asc (y :: r)
theorem asc_gt : ∀ (x : Ch) (r : List Ch), Asc (x :: r) → ∀ y ∈ r, x.t < y.t := by
  intro x r
  induction r generalizing x with
  | nil => intro _ y hy; cases hy
  | cons z r ih =>
    intro h y hy
    rcases List.mem_cons.1 hy with rfl | hy
    · exact h.1
    · have := ih z h.2 y hy
      have := h.1
      omega
theorem foldR_none (lo hi : Int) : ∀ (l : List Ch) (o : Ch), (∀ x ∈ l, ¬ (lo < x.t ∧ x.t ≤ hi)) → foldR lo hi o l = o := by
  intro l
  induction l with
  | nil => intro o _; rfl
  | cons x r ih =>
    intro o h
    rw [foldR, if_neg (h x (by simp))]
    exact ih o (fun y hy => h y (by simp [hy]))
theorem inR_none (t : Int) : ∀ (l : List Ch) (o : Ch), (∀ x ∈ l, ¬ x.t ≤ t) → inR t o l = o := by
  intro l
  induction l with
  | nil => intro o _; rfl
  | cons x r ih =>
    intro o h
    rw [inR, if_neg (h x (by simp))]
    exact ih o (fun y hy => h y (by simp [hy]))
theorem forL_past (lo hi : Int) : ∀ (l : List Ch) (o : Ch), Asc l → (∀ x ∈ l, lo < x.t) → foldJ o (forL lo hi l) = foldR lo hi o l := by
  intro l
  induction l with
  | nil => intro o _ _; rfl
  | cons x r ih =>
    intro o ha hg
    have hx := hg x (by simp)
    cases r with
    | nil =>
      by_cases c : hi < x.t
      · simp only [forL, foldR, if_pos c, foldJ, List.foldl]
        rw [if_neg (by omega)]
      · simp only [forL, foldR, if_neg c, foldJ, List.foldl]
        rw [if_pos (by omega)]
    | cons y r =>
      have hy := hg y (by simp)
      by_cases c : hi < x.t
      · rw [forL, if_pos c, foldR_none lo hi (x :: y :: r) o]
        · rfl
        · intro z hz
          rcases List.mem_cons.1 hz with rfl | hz
          · omega
          · have := asc_gt x (y :: r) ha z hz
            omega
      · rw [forL, if_neg c, if_neg (by omega), foldR, if_pos (by omega)]
        exact ih (joinR o x) ha.2 (fun z hz => hg z (by simp [hz]))
/-- No delays are beyond these. -/
def noneC (lo : Int) : Ch := ⟨lo, 1000000, 0, 1000000, 0⟩
theorem join_none {lo : Int} {x : Ch} (h : x.Form) : joinR (noneC lo) x = { x with t := lo } := by
  obtain ⟨t, a, b, c, d⟩ := x
  obtain ⟨⟨a1, a2, a3⟩, c1, c2, c3⟩ := h
  dsimp only at a1 a2 a3 c1 c2 c3
  simp only [joinR, noneC, Ch.mk.injEq, true_and]
  omega
theorem forL_all (lo hi : Int) (hlh : lo ≤ hi) : ∀ (r : List Ch) (x : Ch), Asc (x :: r) → x.t ≤ lo → (∀ y ∈ x :: r, y.Form) → foldJ (noneC lo) (forL lo hi (x :: r)) = foldR lo hi { inR lo x r with t := lo } r := by
  intro r
  induction r with
  | nil =>
    intro x _ hx hf
    rw [forL, if_neg (by omega)]
    exact join_none (hf x (by simp))
  | cons y r ih =>
    intro x ha hx hf
    by_cases c : y.t ≤ lo
    · rw [forL, if_neg (by omega), if_pos c, ih y ha.2 c (fun z hz => hf z (by simp [List.mem_cons.1 hz])), inR, if_pos c, foldR, if_neg (by omega)]
    · have hp : ∀ z ∈ y :: r, lo < z.t := by
        intro z hz
        rcases List.mem_cons.1 hz with rfl | hz
        · omega
        · have := asc_gt y r ha.2 z hz
          omega
      rw [forL, if_neg (by omega), if_neg c, inR_none lo (y :: r) x (fun z hz => by have := hp z hz; omega), ← forL_past lo hi (y :: r) { x with t := lo } ha.2 hp, ← join_none (hf x (by simp))]
      rfl
theorem asc_of : ∀ (l : List Ch), (∀ k, 0 < k → k < l.length → (l.getD (k - 1) Ch.nil).t < (l.getD k Ch.nil).t) → Asc l := by
  intro l
  induction l with
  | nil => intro _; trivial
  | cons x r ih =>
    intro h
    cases r with
    | nil => trivial
    | cons y r =>
      refine ⟨by have := h 1 (by omega) (by simp); simpa using this, ih (fun k hk hl => ?_)⟩
      have := h (k + 1) (by omega) (by simpa using hl)
      obtain ⟨m, rfl⟩ : ∃ m, k = m + 1 := ⟨k - 1, by omega⟩
      simpa using this
theorem gbounds_is {l : List Ch} {lo hi : Int} (hl : LkOk l) (hi' : IvOk lo hi) : foldJ (noneC lo) (forL lo hi l) = foldR lo hi { forceR l lo with t := lo } l := by
  obtain ⟨h1, h2, h3⟩ := hl
  obtain ⟨i1, i2, i3⟩ := hi'
  have ha : Asc l := asc_of l (fun k hk hl => by have := (h3 k hl).2.1; rwa [if_neg (by omega)] at this)
  have hf : ∀ y ∈ l, y.Form := by
    intro y hy
    obtain ⟨k, hk, rfl⟩ := List.getElem_of_mem hy
    have := (h3 k hk).1
    simpa [List.getD, hk] using this
  have h0 := (h3 0 (by omega)).2.1
  rw [if_pos rfl] at h0
  cases l with
  | nil => simp at h1
  | cons x r =>
    have hx : x.t = 0 := by simpa using h0
    rw [forL_all lo hi i2 r x ha (by omega) hf, foldR, if_neg (by omega)]
    congr 1
    unfold forceR
    rw [inR, if_pos (by show x.t ≤ lo; omega)]
/-- Delays in bounds. -/
theorem forL_sub (lo hi : Int) : ∀ (l : List Ch), ∀ x ∈ forL lo hi l, x ∈ l := by
  intro l
  induction l with
  | nil => intro x hx; exact absurd hx (by simp [forL])
  | cons y r ih =>
    intro x hx
    cases r with
    | nil =>
      unfold forL at hx
      split at hx
      · cases hx
      · exact hx
    | cons z r =>
      unfold forL at hx
      split at hx
      · cases hx
      · split at hx
        · exact List.mem_cons_of_mem _ (ih x hx)
        · rcases List.mem_cons.1 hx with rfl | hx
          · simp
          · exact List.mem_cons_of_mem _ (ih x hx)
theorem forL_len (lo hi : Int) : ∀ (l : List Ch), (forL lo hi l).length ≤ l.length := by
  intro l
  induction l with
  | nil => simp [forL]
  | cons y r ih =>
    cases r with
    | nil => unfold forL; split <;> simp
    | cons z r =>
      unfold forL
      split
      · simp
      · split
        · have := ih; simp only [List.length_cons] at this ⊢; omega
        · have := ih; simp only [List.length_cons] at this ⊢; omega
theorem forL_nil (lo hi : Int) : forL lo hi [] = [] := rfl
theorem forL_end {lo hi : Int} {l : List Ch} {k : Nat} (hk : k < l.length) (h : hi < (l.getD k Ch.nil).t) : forL lo hi (l.drop k) = [] := by
  rw [List.drop_eq_getElem_cons hk]
  rw [show l.getD k Ch.nil = l[k] by simp [List.getD, hk]] at h
  cases l.drop (k + 1) with
  | nil => rw [forL, if_pos h]
  | cons y r => rw [forL, if_pos h]
theorem forL_skip {lo hi : Int} {l : List Ch} {k : Nat} (hk : k + 1 < l.length) (h : ¬ hi < (l.getD k Ch.nil).t) (h2 : (l.getD (k + 1) Ch.nil).t ≤ lo) : forL lo hi (l.drop k) = forL lo hi (l.drop (k + 1)) := by
  rw [List.drop_eq_getElem_cons (show k < l.length by omega), List.drop_eq_getElem_cons hk]
  rw [show l.getD k Ch.nil = l[k] by simp [List.getD, show k < l.length by omega]] at h
  rw [show l.getD (k + 1) Ch.nil = l[k + 1] by simp [List.getD, hk]] at h2
  rw [forL, if_neg h, if_pos h2]
theorem forL_take {lo hi : Int} {l : List Ch} {k : Nat} (hk : k < l.length) (h : ¬ hi < (l.getD k Ch.nil).t) (h2 : k + 1 < l.length → ¬ (l.getD (k + 1) Ch.nil).t ≤ lo) : forL lo hi (l.drop k) = l.getD k Ch.nil :: forL lo hi (l.drop (k + 1)) := by
  rw [List.drop_eq_getElem_cons hk]
  rw [show l.getD k Ch.nil = l[k] by simp [List.getD, hk]] at h ⊢
  by_cases c : k + 1 < l.length
  · have h2 := h2 c
    rw [show l.getD (k + 1) Ch.nil = l[k + 1] by simp [List.getD, c]] at h2
    rw [List.drop_eq_getElem_cons c, forL, if_neg h, if_neg h2]
  · rw [List.drop_eq_nil_of_le (show l.length ≤ k + 1 by omega), forL_nil, forL, if_neg h]
end Go.Proofs.Ytkeahbdeddjoeaa
