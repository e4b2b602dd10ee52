/- Layer 10: what Sent, Got and Round return, as facts on integers. No program in it. -/
import Derived.Test.YtkeahbdeddjoeaaHead
namespace Go.Proofs.Ytkeahbdeddjoeaa
open Go.RowKit Go
set_option linter.unusedVariables false
set_option linter.unusedSimpArgs false

theorem sent_is {s : Ch} {l h : Int} (hf : s.Form) (hi : IvOk l h) (h0 : s.a ≤ h) : sentR s l h = (max 0 (l - s.b), h - s.a, 0) := by
  unfold sentR
  rw [if_pos ⟨hf, hi⟩, if_neg (by omega)]
theorem got_is {s : Ch} {l h : Int} (hf : s.Form) (hi : IvOk l h) (h0 : h + s.d ≤ 3000000000000000) : gotR s l h = (l + s.c, h + s.d, 0) := by
  unfold gotR
  rw [if_pos ⟨hf, hi⟩, if_neg (by omega)]
theorem got_err {s : Ch} {l h : Int} (hf : s.Form) (hi : IvOk l h) (h0 : 3000000000000000 < h + s.d) : gotR s l h = (0, 0, 3) := by
  unfold gotR
  rw [if_pos ⟨hf, hi⟩, if_pos h0]
theorem round_is {s : Ch} {l h x y : Int} (hf : s.Form) (hi : IvOk l h) (hx : IvOk x y) (h1 : max s.a (x - s.d) ≤ min s.b (y - s.c)) (h2 : max s.a (x - s.d) ≤ h) :
    roundR s l h x y = (max 0 (l - min s.b (y - s.c)), h - max s.a (x - s.d), 0) := by
  unfold roundR
  rw [if_pos ⟨hf, hi, hx⟩, if_neg (by omega)]
theorem sent_ok {s : Ch} {l h u v : Int} (k : sentR s l h = (u, v, 0)) : s.Form ∧ IvOk l h ∧ s.a ≤ h ∧ u = max 0 (l - s.b) ∧ v = h - s.a ∧ IvOk u v := by
  unfold sentR at k
  split at k
  · rename_i c
    split at k
    · simp at k
    · simp only [Prod.mk.injEq] at k
      obtain ⟨⟨⟨a1, a2, a3⟩, b1, b2, b3⟩, i1, i2, i3⟩ := c
      refine ⟨⟨⟨a1, a2, a3⟩, b1, b2, b3⟩, ⟨i1, i2, i3⟩, by omega, by omega, by omega, by omega, by omega, by omega⟩
  · simp at k
theorem got_ok {s : Ch} {l h u v : Int} (k : gotR s l h = (u, v, 0)) : s.Form ∧ IvOk l h ∧ h + s.d ≤ 3000000000000000 ∧ u = l + s.c ∧ v = h + s.d ∧ IvOk u v := by
  unfold gotR at k
  split at k
  · rename_i c
    split at k
    · simp at k
    · simp only [Prod.mk.injEq] at k
      obtain ⟨⟨⟨a1, a2, a3⟩, b1, b2, b3⟩, i1, i2, i3⟩ := c
      refine ⟨⟨⟨a1, a2, a3⟩, b1, b2, b3⟩, ⟨i1, i2, i3⟩, by omega, by omega, by omega, by omega, by omega, by omega⟩
  · simp at k
theorem round_ok {s : Ch} {l h x y u v : Int} (k : roundR s l h x y = (u, v, 0)) :
    s.Form ∧ IvOk l h ∧ IvOk x y ∧ max s.a (x - s.d) ≤ min s.b (y - s.c) ∧ max s.a (x - s.d) ≤ h ∧ u = max 0 (l - min s.b (y - s.c)) ∧ v = h - max s.a (x - s.d) ∧ IvOk u v := by
  unfold roundR at k
  split at k
  · rename_i c
    split at k
    · simp at k
    · simp only [Prod.mk.injEq] at k
      obtain ⟨⟨⟨a1, a2, a3⟩, b1, b2, b3⟩, ⟨i1, i2, i3⟩, ⟨j1, j2, j3⟩⟩ := c
      refine ⟨⟨⟨a1, a2, a3⟩, b1, b2, b3⟩, ⟨i1, i2, i3⟩, ⟨j1, j2, j3⟩, by omega, by omega, by omega, by omega, by omega, by omega, by omega⟩
  · simp at k
theorem sent_no {s : Ch} {l h u v e : Int} (k : sentR s l h = (u, v, e)) (he : e ≠ 0) : u = 0 ∧ v = 0 := by
  unfold sentR at k
  split at k
  · split at k <;> simp only [Prod.mk.injEq] at k <;> omega
  · simp only [Prod.mk.injEq] at k; omega
theorem got_no {s : Ch} {l h u v e : Int} (k : gotR s l h = (u, v, e)) (he : e ≠ 0) : u = 0 ∧ v = 0 := by
  unfold gotR at k
  split at k
  · split at k <;> simp only [Prod.mk.injEq] at k <;> omega
  · simp only [Prod.mk.injEq] at k; omega
theorem round_no {s : Ch} {l h x y u v e : Int} (k : roundR s l h x y = (u, v, e)) (he : e ≠ 0) : u = 0 ∧ v = 0 := by
  unfold roundR at k
  split at k
  · split at k <;> simp only [Prod.mk.injEq] at k <;> omega
  · simp only [Prod.mk.injEq] at k; omega
/-- Narrower delays. -/
def Nar (s s' : Ch) : Prop := s.a ≤ s'.a ∧ s'.b ≤ s.b ∧ s.c ≤ s'.c ∧ s'.d ≤ s.d
theorem sent_nar {s s' : Ch} {l h p q u1 v1 e1 u2 v2 : Int} (hn : Nar s s') (hf : s.Form) (hi : IvOk l h) (hp : l ≤ p) (hq : q ≤ h) (h1 : sentR s l h = (u1, v1, e1)) (h2 : sentR s' p q = (u2, v2, 0)) :
    e1 = 0 ∧ u1 ≤ u2 ∧ v2 ≤ v1 := by
  obtain ⟨_, _, k1, k2, k3, _⟩ := sent_ok h2
  obtain ⟨n1, n2, n3, n4⟩ := hn
  have k4 := sent_is hf hi (by omega)
  rw [h1] at k4
  simp only [Prod.mk.injEq] at k4
  obtain ⟨k5, k6, k7⟩ := k4
  exact ⟨k7, by omega, by omega⟩
theorem got_nar {s s' : Ch} {l h p q u1 v1 u2 v2 e2 : Int} (hn : Nar s s') (hf : s'.Form) (hi : IvOk p q) (hp : l ≤ p) (hq : q ≤ h) (h1 : gotR s l h = (u1, v1, 0)) (h2 : gotR s' p q = (u2, v2, e2)) :
    e2 = 0 ∧ u1 ≤ u2 ∧ v2 ≤ v1 := by
  obtain ⟨_, _, k1, k2, k3, _⟩ := got_ok h1
  obtain ⟨n1, n2, n3, n4⟩ := hn
  have k4 := got_is hf hi (by omega)
  rw [h2] at k4
  simp only [Prod.mk.injEq] at k4
  obtain ⟨k5, k6, k7⟩ := k4
  exact ⟨k7, by omega, by omega⟩
theorem round_sent {s : Ch} {l h x y u1 v1 e1 u2 v2 : Int} (h1 : sentR s l h = (u1, v1, e1)) (h2 : roundR s l h x y = (u2, v2, 0)) : e1 = 0 ∧ u1 ≤ u2 ∧ v2 ≤ v1 := by
  obtain ⟨hf, hi, _, k0, k1, k2, k3, _⟩ := round_ok h2
  have k4 := sent_is hf hi (by omega)
  rw [h1] at k4
  simp only [Prod.mk.injEq] at k4
  obtain ⟨k5, k6, k7⟩ := k4
  exact ⟨k7, by omega, by omega⟩
theorem round_nar {s s' : Ch} {l h p q x y u1 v1 e1 u2 v2 : Int} (hn : Nar s s') (hf : s.Form) (hi : IvOk l h) (hp : l ≤ p) (hq : q ≤ h) (h1 : roundR s l h x y = (u1, v1, e1)) (h2 : roundR s' p q x y = (u2, v2, 0)) :
    e1 = 0 ∧ u1 ≤ u2 ∧ v2 ≤ v1 := by
  obtain ⟨_, _, hx, k0, k1, k2, k3, _⟩ := round_ok h2
  obtain ⟨n1, n2, n3, n4⟩ := hn
  have k4 := round_is hf hi hx (by omega) (by omega)
  rw [h1] at k4
  simp only [Prod.mk.injEq] at k4
  obtain ⟨k5, k6, k7⟩ := k4
  exact ⟨k7, by omega, by omega⟩
end Go.Proofs.Ytkeahbdeddjoeaa
