/- Layer 10: what Bounds returns, as facts on lists. No program in it. -/
import Derived.Test.YtkeahbdeddjoeaaNMath
namespace Go.Proofs.Ytkeahbdeddjoeaa
open Go.RowKit Go
set_option linter.unusedVariables false
set_option linter.unusedSimpArgs false

theorem in_cases {lo t : Int} (ht : lo ≤ t) (L : List Ch) : ∀ (l : List Ch), (∀ x ∈ l, x ∈ L) → ∀ o o' : Ch, (o = o' ∨ (lo < o.t ∧ o.t ≤ t ∧ o ∈ L)) →
    (inR t o l = inR lo o' l ∨ (lo < (inR t o l).t ∧ (inR t o l).t ≤ t ∧ inR t o l ∈ L))
  | [], _, o, o', h => h
  | x :: r, hs, o, o', h => by
    have ih := in_cases ht L r (fun y hy => hs y (List.mem_cons_of_mem _ hy))
    have hx := hs x (by simp)
    show (inR t (if x.t ≤ t then x else o) r = inR lo (if x.t ≤ lo then x else o') r ∨ _)
    simp only [inR]
    by_cases c1 : x.t ≤ lo
    · rw [if_pos c1, if_pos (by omega : x.t ≤ t)]
      exact ih x x (.inl rfl)
    · rw [if_neg c1]
      by_cases c2 : x.t ≤ t
      · rw [if_pos c2]
        exact ih x o' (.inr ⟨by omega, c2, hx⟩)
      · rw [if_neg c2]
        exact ih o o' h
theorem in_mem {t : Int} (L : List Ch) : ∀ (l : List Ch), (∀ x ∈ l, x ∈ L) → ∀ o, o ∈ L → inR t o l ∈ L
  | [], _, o, h => h
  | x :: r, hs, o, h => by
    simp only [inR]
    refine in_mem L r (fun y hy => hs y (List.mem_cons_of_mem _ hy)) _ ?_
    split
    · exact hs x (by simp)
    · exact h
theorem head_mem {l : List Ch} (h : 1 ≤ l.length) : l.getD 0 Ch.nil ∈ l := by
  cases l with
  | nil => simp at h
  | cons x r => simp
theorem force_mem {l : List Ch} (h : 1 ≤ l.length) (t : Int) : forceR l t ∈ l := in_mem l l (fun _ h => h) _ (head_mem h)

def Wid (r x : Ch) : Prop := r.a ≤ x.a ∧ x.b ≤ r.b ∧ r.c ≤ x.c ∧ x.d ≤ r.d
theorem fold_wid {lo hi : Int} : ∀ (l : List Ch) (o : Ch), (foldR lo hi o l).t = o.t ∧ Wid (foldR lo hi o l) o ∧ ∀ x ∈ l, lo < x.t → x.t ≤ hi → Wid (foldR lo hi o l) x
  | [], o => ⟨rfl, ⟨Int.le_refl _, Int.le_refl _, Int.le_refl _, Int.le_refl _⟩, fun x h => by simp at h⟩
  | x :: r, o => by
    simp only [foldR]
    by_cases c : lo < x.t ∧ x.t ≤ hi
    · rw [if_pos c]
      obtain ⟨h1, ⟨w1, w2, w3, w4⟩, h3⟩ := fold_wid (lo := lo) (hi := hi) r (joinR o x)
      unfold joinR at w1 w2 w3 w4
      dsimp only at w1 w2 w3 w4
      refine ⟨h1, ⟨?_, ?_, ?_, ?_⟩, fun y hy c1 c2 => ?_⟩
      · exact Int.le_trans w1 (by omega)
      · exact Int.le_trans (by omega) w2
      · exact Int.le_trans w3 (by omega)
      · exact Int.le_trans (by omega) w4
      · rcases List.mem_cons.1 hy with rfl | hy
        · exact ⟨Int.le_trans w1 (by omega), Int.le_trans (by omega) w2, Int.le_trans w3 (by omega), Int.le_trans (by omega) w4⟩
        · exact h3 y hy c1 c2
    · rw [if_neg c]
      obtain ⟨h1, h2, h3⟩ := fold_wid (lo := lo) (hi := hi) r o
      refine ⟨h1, h2, fun y hy c1 c2 => ?_⟩
      rcases List.mem_cons.1 hy with rfl | hy
      · exact absurd ⟨c1, c2⟩ c
      · exact h3 y hy c1 c2
/-- Each bound is that of one of the delays. -/
def Frm (L : List Ch) (r : Ch) : Prop := (∃ x ∈ L, x.a = r.a) ∧ (∃ x ∈ L, x.b = r.b) ∧ (∃ x ∈ L, x.c = r.c) ∧ (∃ x ∈ L, x.d = r.d)
theorem frm_join {L : List Ch} {o x : Ch} (h : Frm L o) (hx : x ∈ L) : Frm L (joinR o x) := by
  obtain ⟨h1, h2, h3, h4⟩ := h
  unfold joinR
  refine ⟨?_, ?_, ?_, ?_⟩
  · rcases (by omega : min o.a x.a = o.a ∨ min o.a x.a = x.a) with e | e
    · show ∃ y ∈ L, y.a = min o.a x.a
      rw [e]; exact h1
    · exact ⟨x, hx, e.symm⟩
  · rcases (by omega : max o.b x.b = o.b ∨ max o.b x.b = x.b) with e | e
    · show ∃ y ∈ L, y.b = max o.b x.b
      rw [e]; exact h2
    · exact ⟨x, hx, e.symm⟩
  · rcases (by omega : min o.c x.c = o.c ∨ min o.c x.c = x.c) with e | e
    · show ∃ y ∈ L, y.c = min o.c x.c
      rw [e]; exact h3
    · exact ⟨x, hx, e.symm⟩
  · rcases (by omega : max o.d x.d = o.d ∨ max o.d x.d = x.d) with e | e
    · show ∃ y ∈ L, y.d = max o.d x.d
      rw [e]; exact h4
    · exact ⟨x, hx, e.symm⟩
theorem fold_frm {lo hi : Int} (L : List Ch) : ∀ (l : List Ch), (∀ x ∈ l, x ∈ L) → ∀ o, Frm L o → Frm L (foldR lo hi o l)
  | [], _, o, h => h
  | x :: r, hs, o, h => by
    simp only [foldR]
    refine fold_frm L r (fun y hy => hs y (List.mem_cons_of_mem _ hy)) _ ?_
    split
    · exact frm_join h (hs x (by simp))
    · exact h
theorem fold_one {t : Int} : ∀ (l : List Ch) (o : Ch), foldR t t o l = o
  | [], o => rfl
  | x :: r, o => by
    simp only [foldR]
    rw [if_neg (by omega)]
    exact fold_one r o
theorem in_snoc {t : Int} (c : Ch) (hc : t < c.t) : ∀ (l : List Ch) (o : Ch), inR t o (l ++ [c]) = inR t o l
  | [], o => by
    show inR t (if c.t ≤ t then c else o) [] = o
    rw [if_neg (by omega)]
    rfl
  | x :: r, o => in_snoc c hc r _
theorem fold_snoc {lo hi : Int} (c : Ch) (hc : hi < c.t) : ∀ (l : List Ch) (o : Ch), foldR lo hi o (l ++ [c]) = foldR lo hi o l
  | [], o => by
    show foldR lo hi (if lo < c.t ∧ c.t ≤ hi then joinR o c else o) [] = o
    rw [if_neg (by omega)]
    rfl
  | x :: r, o => fold_snoc c hc r _

theorem bounds_is {l : List Ch} {lo hi : Int} (hk : LkOk l) (hi' : IvOk lo hi) : ∃ a, boundsR l lo hi = (a, 0) ∧ a.t = lo ∧ Frm l a ∧ a = foldR lo hi { forceR l lo with t := lo } l := by
  refine ⟨_, if_pos ⟨hk, hi'⟩, (fold_wid l _).1, ?_, rfl⟩
  have hm := force_mem hk.1 lo
  exact fold_frm l l (fun _ h => h) _ ⟨⟨_, hm, rfl⟩, ⟨_, hm, rfl⟩, ⟨_, hm, rfl⟩, ⟨_, hm, rfl⟩⟩
theorem bounds_one {l : List Ch} {t : Int} (hk : LkOk l) (ht : IvOk t t) : boundsR l t t = ({ forceR l t with t := t }, 0) := by
  unfold boundsR
  rw [if_pos ⟨hk, ht⟩, fold_one]
theorem bounds_wid {l : List Ch} {lo hi t : Int} (hk : LkOk l) (h1 : lo ≤ t) (h2 : t ≤ hi) : Wid (foldR lo hi { forceR l lo with t := lo } l) (forceR l t) := by
  obtain ⟨_, w, hw⟩ := fold_wid (lo := lo) (hi := hi) l { forceR l lo with t := lo }
  rcases in_cases h1 l l (fun _ h => h) (l.getD 0 Ch.nil) _ (.inl rfl) with e | ⟨c1, c2, c3⟩
  · have e' : forceR l t = forceR l lo := e
    rw [e']
    exact w
  · exact hw _ c3 c1 (Int.le_trans c2 h2)
theorem link_snoc {l : List Ch} {c : Ch} (hk : LkOk l) (hl : l.length ≤ 19) (hf : c.Form) (hc : (l.getD (l.length - 1) Ch.nil).t < c.t) (hm : c.t ≤ 3000000000000000) : LkOk (l ++ [c]) := by
  obtain ⟨k1, k2, k3⟩ := hk
  refine ⟨by simp, by simp; omega, fun k hlt => ?_⟩
  rw [List.length_append, List.length_singleton] at hlt
  have g : ∀ j, j < l.length → (l ++ [c]).getD j Ch.nil = l.getD j Ch.nil := fun j hj => by simp [List.getD, List.getElem?_append, hj]
  unfold ElOk
  rcases (by omega : k < l.length ∨ k = l.length) with h | h
  · have := k3 k h
    unfold ElOk at this
    rw [g k h, g (k - 1) (by omega)]
    exact this
  · have e : (l ++ [c]).getD k Ch.nil = c := by rw [h]; simp [List.getD]
    rw [e, g (k - 1) (by omega), if_neg (by omega), h]
    exact ⟨hf, hc, hm⟩
theorem bounds_snoc {l : List Ch} {c : Ch} {lo hi : Int} (hk : LkOk l) (hk' : LkOk (l ++ [c])) (h1 : lo ≤ hi) (hc : hi < c.t) : boundsR (l ++ [c]) lo hi = boundsR l lo hi := by
  unfold boundsR
  have e : forceR (l ++ [c]) lo = forceR l lo := by
    unfold forceR
    rw [in_snoc c (by omega)]
    congr 1
    have := hk.1
    simp only [List.getD, List.getElem?_append]
    rw [if_pos (by omega)]
  rw [e, fold_snoc c hc]
  by_cases q : IvOk lo hi
  · rw [if_pos ⟨hk', q⟩, if_pos ⟨hk, q⟩]
  · rw [if_neg (fun k => q k.2), if_neg (fun k => q k.2)]
theorem any_of {l : List Ch} {p : Ch → Bool} (h : ∃ x ∈ l, p x = true) : l.any p = true := List.any_eq_true.2 h
theorem any_step (l : List Ch) (p : Ch → Bool) (k : Nat) (h : k < l.length) : (l.take (k + 1)).any p = ((l.take k).any p || p (l.getD k Ch.nil)) := by
  rw [List.take_add_one, List.any_append]
  simp [List.getD, h]
theorem sum_ok {l : List Ch} (hk : LkOk l) : ∀ k, k < l.length → 0 ≤ (l.getD k Ch.nil).t ∧ (l.getD k Ch.nil).t ≤ 3000000000000000 ∧ (l.getD k Ch.nil).Form
  | 0, h => by
    obtain ⟨a, b, c⟩ := hk.2.2 0 h
    rw [if_pos rfl] at b
    exact ⟨by omega, c, a⟩
  | k + 1, h => by
    obtain ⟨a, b, c⟩ := hk.2.2 (k + 1) h
    rw [if_neg (by omega)] at b
    have := (sum_ok hk k (by omega)).1
    exact ⟨by rw [Nat.add_sub_cancel] at b; omega, c, a⟩
end Go.Proofs.Ytkeahbdeddjoeaa
