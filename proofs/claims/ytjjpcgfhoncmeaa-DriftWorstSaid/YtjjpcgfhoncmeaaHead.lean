/- Layer 7: the fixed examples that each statement begins with. -/
import Derived.Test.YtjjpcgfhoncmeaaCon
namespace Go.Proofs.Ytjjpcgfhoncmeaa
open Go.RowKit Go
set_option linter.unusedVariables false
set_option linter.unusedSimpArgs false

/-- It is the example's table. -/
def Tb.Ex (T : Tb) : Prop := T.tm = [-40, 20] ∧ T.ag = [0, 100] ∧ T.rt = [[50, 70], [30, 60]] ∧ T.Room

theorem rowI_lit (W : World) (p : Addr) (a b : Int) (n : Nat) (hn : n = 2) (hp : p.block < W.heap.size) (h0 : W.cell? p = some (.int .i64 a)) (h1 : W.cell? ⟨p.block, p.off + 1, none⟩ = some (.int .i64 b))
    (ha : I64 a) (hb : I64 b) : RowI W.heap.size W (some p) n [a, b] := by
  subst hn
  refine ⟨rfl, fun _ => ⟨p, rfl, hp, fun i hi => ?_⟩, ?_⟩
  · rcases (by omega : i = 0 ∨ i = 1) with rfl | rfl
    · rw [show p.add 0 = p by simp [Addr.add]]; exact h0
    · rw [show p.add 1 = ⟨p.block, p.off + 1, none⟩ by simp [Addr.add]]; exact h1
  · intro x hx
    simp at hx
    rcases hx with rfl | rfl
    · exact ha
    · exact hb

theorem two_new_at (w : World) (t : TypeId) (u v : Value) (g : Nat) (hg : w.heap.size = g) : Two (w.alloc (.cells #[u, v] t)) g t u v := by subst hg; exact Two.new w t u v
theorem three_new_at (w : World) (t : TypeId) (u v x : Value) (g : Nat) (hg : w.heap.size = g) : Three (w.alloc (.cells #[u, v, x] t)) g t u v x := by subst hg; exact Three.new w t u v x
theorem size_alloc (w : World) (o : Obj) (g : Nat) (hg : w.heap.size = g) : (w.alloc o).heap.size = g + 1 := by subst hg; simp

theorem ex_world (w : World) (g : Nat) (hg : w.heap.size = g) : ∃ W, ((((((w.alloc (.cells #[.slice (some ⟨g + 1, 0, none⟩) 2 2, .slice (some ⟨g + 1 + 1, 0, none⟩) 2 2, .slice (some ⟨g + 1 + 1 + 1 + 1 + 1, 0, none⟩) 2 2] 25)).alloc (.cells #[.int .i64 (-40), .int .i64 20] 3)).alloc (.cells #[.int .i64 0, .int .i64 100] 3)).alloc (.cells #[.int .i64 50, .int .i64 70] 3)).alloc (.cells #[.int .i64 30, .int .i64 60] 3)).alloc (.cells #[.slice (some ⟨g + 1 + 1 + 1, 0, none⟩) 2 2, .slice (some ⟨g + 1 + 1 + 1 + 1, 0, none⟩) 2 2] 22)) = W ∧
    Three W g 25 (.slice (some ⟨g + 1, 0, none⟩) 2 2) (.slice (some ⟨g + 1 + 1, 0, none⟩) 2 2) (.slice (some ⟨g + 1 + 1 + 1 + 1 + 1, 0, none⟩) 2 2) ∧
    Two W (g + 1) 3 (.int .i64 (-40)) (.int .i64 20) ∧ Two W (g + 1 + 1) 3 (.int .i64 0) (.int .i64 100) ∧ Two W (g + 1 + 1 + 1) 3 (.int .i64 50) (.int .i64 70) ∧ Two W (g + 1 + 1 + 1 + 1) 3 (.int .i64 30) (.int .i64 60) ∧
    Two W (g + 1 + 1 + 1 + 1 + 1) 22 (.slice (some ⟨g + 1 + 1 + 1, 0, none⟩) 2 2) (.slice (some ⟨g + 1 + 1 + 1 + 1, 0, none⟩) 2 2) ∧ Below w.heap.size w W := by
  have h0 := three_new_at w 25 (.slice (some ⟨g + 1, 0, none⟩) 2 2) (.slice (some ⟨g + 1 + 1, 0, none⟩) 2 2) (.slice (some ⟨g + 1 + 1 + 1 + 1 + 1, 0, none⟩) 2 2) g hg
  have s0 := size_alloc w (.cells #[.slice (some ⟨g + 1, 0, none⟩) 2 2, .slice (some ⟨g + 1 + 1, 0, none⟩) 2 2, .slice (some ⟨g + 1 + 1 + 1 + 1 + 1, 0, none⟩) 2 2] 25) g hg
  have b0 := below_alloc w (.cells #[.slice (some ⟨g + 1, 0, none⟩) 2 2, .slice (some ⟨g + 1 + 1, 0, none⟩) 2 2, .slice (some ⟨g + 1 + 1 + 1 + 1 + 1, 0, none⟩) 2 2] 25)
  generalize w.alloc (.cells #[.slice (some ⟨g + 1, 0, none⟩) 2 2, .slice (some ⟨g + 1 + 1, 0, none⟩) 2 2, .slice (some ⟨g + 1 + 1 + 1 + 1 + 1, 0, none⟩) 2 2] 25) = W0 at h0 s0 b0 ⊢
  have h1 := two_new_at W0 3 (.int .i64 (-40)) (.int .i64 20) (g + 1) s0
  have s1 := size_alloc W0 (.cells #[.int .i64 (-40), .int .i64 20] 3) _ s0
  have b1 := below_more b0 (below_alloc W0 (.cells #[.int .i64 (-40), .int .i64 20] 3))
  replace h0 := h0.alloc (.cells #[.int .i64 (-40), .int .i64 20] 3)
  generalize W0.alloc (.cells #[.int .i64 (-40), .int .i64 20] 3) = W1 at h0 h1 s1 b1 ⊢
  have h2 := two_new_at W1 3 (.int .i64 0) (.int .i64 100) _ s1
  have s2 := size_alloc W1 (.cells #[.int .i64 0, .int .i64 100] 3) _ s1
  have b2 := below_more b1 (below_alloc W1 (.cells #[.int .i64 0, .int .i64 100] 3))
  replace h0 := h0.alloc (.cells #[.int .i64 0, .int .i64 100] 3)
  replace h1 := h1.alloc (.cells #[.int .i64 0, .int .i64 100] 3)
  generalize W1.alloc (.cells #[.int .i64 0, .int .i64 100] 3) = W2 at h0 h1 h2 s2 b2 ⊢
  have h3 := two_new_at W2 3 (.int .i64 50) (.int .i64 70) _ s2
  have s3 := size_alloc W2 (.cells #[.int .i64 50, .int .i64 70] 3) _ s2
  have b3 := below_more b2 (below_alloc W2 (.cells #[.int .i64 50, .int .i64 70] 3))
  replace h0 := h0.alloc (.cells #[.int .i64 50, .int .i64 70] 3)
  replace h1 := h1.alloc (.cells #[.int .i64 50, .int .i64 70] 3)
  replace h2 := h2.alloc (.cells #[.int .i64 50, .int .i64 70] 3)
  generalize W2.alloc (.cells #[.int .i64 50, .int .i64 70] 3) = W3 at h0 h1 h2 h3 s3 b3 ⊢
  have h4 := two_new_at W3 3 (.int .i64 30) (.int .i64 60) _ s3
  have s4 := size_alloc W3 (.cells #[.int .i64 30, .int .i64 60] 3) _ s3
  have b4 := below_more b3 (below_alloc W3 (.cells #[.int .i64 30, .int .i64 60] 3))
  replace h0 := h0.alloc (.cells #[.int .i64 30, .int .i64 60] 3)
  replace h1 := h1.alloc (.cells #[.int .i64 30, .int .i64 60] 3)
  replace h2 := h2.alloc (.cells #[.int .i64 30, .int .i64 60] 3)
  replace h3 := h3.alloc (.cells #[.int .i64 30, .int .i64 60] 3)
  generalize W3.alloc (.cells #[.int .i64 30, .int .i64 60] 3) = W4 at h0 h1 h2 h3 h4 s4 b4 ⊢
  have h5 := two_new_at W4 22 (.slice (some ⟨g + 1 + 1 + 1, 0, none⟩) 2 2) (.slice (some ⟨g + 1 + 1 + 1 + 1, 0, none⟩) 2 2) _ s4
  exact ⟨_, rfl, h0.alloc _, h1.alloc _, h2.alloc _, h3.alloc _, h4.alloc _, h5, below_more b4 (below_alloc W4 _)⟩

theorem rowI_two {W : World} {g : Nat} {a b : Int} (h : Two W g 3 (.int .i64 a) (.int .i64 b)) (ha : I64 a) (hb : I64 b) : RowI W.heap.size W (some ⟨g, 0, none⟩) 2 [a, b] :=
  rowI_lit W ⟨g, 0, none⟩ a b 2 rfl h.lt h.c0 h.c1 ha hb

theorem example_any (w : World) : Calls Try.prog 27 #[] w fun e w' => ∃ T : Tb, e = .returned T.val ∧ T.Ex ∧ T.At w' ∧ Below w.heap.size w w' := by
  obtain ⟨g, hg⟩ : ∃ g, w.heap.size = g := ⟨_, rfl⟩
  obtain ⟨W, hW, h0, h1, h2, h3, h4, h5, hb⟩ := ex_world w g hg
  go_enter Try.func27, Try.ntmps27
  go_wp2_with fail
  try rw [hW]
  have t0 := h0.c0
  have t1 := h0.c1
  have t2 := h0.c2
  have t3 := h0.lt
  refine bodyPost_ret (v := .agg #[.slice (some ⟨g + 1, 0, none⟩) 2 2, .slice (some ⟨g + 1 + 1, 0, none⟩) 2 2, .slice (some ⟨g + 1 + 1 + 1 + 1 + 1, 0, none⟩) 2 2]) (by simp [results, Try.results27, go_sem, t0, t1, t2, t3]) rfl
    ⟨⟨some ⟨g + 1, 0, none⟩, some ⟨g + 1 + 1, 0, none⟩, some ⟨g + 1 + 1 + 1 + 1 + 1, 0, none⟩, 2, 2, 2, 2, 2, 2, [-40, 20], [0, 100], [[50, 70], [30, 60]]⟩, rfl, ⟨rfl, rfl, rfl, ?_⟩, ⟨?_, ?_, ?_, by simp, by simp, by simp⟩, hb⟩
  · exact ⟨⟨by simp, by simp, fun h => by cases h⟩, ⟨by simp, by simp, fun h => by cases h⟩, ⟨by simp, by simp, fun h => by cases h⟩⟩
  · exact rowI_two h1 ⟨by omega, by omega⟩ ⟨by omega, by omega⟩
  · exact rowI_two h2 ⟨by omega, by omega⟩ ⟨by omega, by omega⟩
  · refine ⟨rfl, fun i => if i = 0 then .slice (some ⟨g + 1 + 1 + 1, 0, none⟩) 2 2 else .slice (some ⟨g + 1 + 1 + 1 + 1, 0, none⟩) 2 2, fun _ => ⟨_, rfl, h5.lt, fun i hi => ?_⟩, fun i hi => ?_⟩
    · replace hi : i < 2 := hi
      rcases (by omega : i = 0 ∨ i = 1) with rfl | rfl
      · rw [show Addr.add ⟨g + 1 + 1 + 1 + 1 + 1, 0, none⟩ 0 = ⟨g + 1 + 1 + 1 + 1 + 1, 0, none⟩ by simp [Addr.add]]; exact h5.c0
      · rw [show Addr.add ⟨g + 1 + 1 + 1 + 1 + 1, 0, none⟩ 1 = ⟨g + 1 + 1 + 1 + 1 + 1, 1, none⟩ by simp [Addr.add]]; exact h5.c1
    · replace hi : i < 2 := hi
      rcases (by omega : i = 0 ∨ i = 1) with rfl | rfl
      · exact ⟨_, 2, 2, rfl, by omega, rowI_two h3 ⟨by omega, by omega⟩ ⟨by omega, by omega⟩⟩
      · exact ⟨_, 2, 2, rfl, by omega, rowI_two h4 ⟨by omega, by omega⟩ ⟨by omega, by omega⟩⟩

/-- What the example's table says. -/
theorem ex_ok {T : Tb} (h : T.Ex) : T.Ok := by
  obtain ⟨h1, h2, h3, _⟩ := h
  unfold Tb.Ok; rw [h1, h2, h3]; decide
theorem ex_rate {T : Tb} (h : T.Ex) : rateR T 25 99 = (30, 0) := by
  rw [rateR, if_pos (ex_ok h), h.1, h.2.1, h.2.2.1]; decide
theorem ex_below {T : Tb} (h : T.Ex) : rateR T (-41) 0 = (0, 3) := by
  rw [rateR, if_pos (ex_ok h), h.1, h.2.1, h.2.2.1]; decide
theorem ex_worst {T : Tb} (h : T.Ex) : worstR T 0 30 0 99 = (50, 0) := by
  rw [worstR, if_pos ⟨ex_ok h, by omega, by omega⟩, h.1, h.2.1, h.2.2.1]; decide
theorem ex_worst0 {T : Tb} (h : T.Ex) : worstR T 0 0 0 0 = (50, 0) := by
  rw [worstR, if_pos ⟨ex_ok h, by omega, by omega⟩, h.1, h.2.1, h.2.2.1]; decide
theorem ex_sev {T : Tb} (h : T.Ex) : sevR T [⟨7, 0, 0, 0, 0⟩, ⟨0, 0, 0, 0, 0⟩] = (6, 9, 0) := by
  have e7 : segE T ⟨7, 0, 0, 0, 0⟩ = 0 := by unfold segE; rw [if_pos (by decide), ex_worst0 h]
  have e0 : segE T ⟨0, 0, 0, 0, 0⟩ = 0 := by unfold segE; rw [if_pos (by decide), ex_worst0 h]
  have l7 : segLo T ⟨7, 0, 0, 0, 0⟩ = 6 := by unfold segLo; rw [ex_worst0 h]; decide +kernel
  have l0 : segLo T ⟨0, 0, 0, 0, 0⟩ = 0 := by unfold segLo; rw [ex_worst0 h]; decide +kernel
  have h7 : segHi T ⟨7, 0, 0, 0, 0⟩ = 8 := by unfold segHi; rw [ex_worst0 h]; decide +kernel
  have h0 : segHi T ⟨0, 0, 0, 0, 0⟩ = 1 := by unfold segHi; rw [ex_worst0 h]; decide +kernel
  rw [sevR, if_pos (ex_ok h), if_neg (by simp)]
  simp only [firstE, if_pos e7, if_pos e0, sumLo, sumHi, l7, l0, h7, h0]
  decide
theorem ex_el1 : elR 50000 1000000 = (999950, 1000051, 0) := by decide +kernel
theorem ex_el2 : elR 1000000 0 = (0, 1, 0) := by decide +kernel
theorem ex_co : coR 50000 1000000 = (999950, 1000050, 0) := by decide +kernel
end Go.Proofs.Ytjjpcgfhoncmeaa
