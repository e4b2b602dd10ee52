/- Layer 11: package packet's requestFields over the landed code: a region that draws its order and stores at its end (gen/gen_prog.py writes this). -/
import Derived.Test.YtmfbnajaocaikaaRg
import Derived.Test.YtmfbnajaocaikaaGFl
namespace Go.Proofs.Ytmfbnajaocaikaa
open Go.RowKit Go.Sort Go
set_option linter.unusedVariables false
set_option linter.unusedSimpArgs false

def PhFq (gr gh S : Nat) (nb : Nat) : Nat → Nat → Nat → (Nat → Value) → World → Prop
  | 0, bs, bt, ρ, w => ρ 5 = .pointer (some ⟨gr, 0, none⟩)
  | 1, bs, bt, ρ, w => ρ 6 = .pointer (some ⟨gr, 0, none⟩)
  | 2, bs, bt, ρ, w => ρ 7 = .pointer (some ⟨gr, 0, none⟩)
  | 3, bs, bt, ρ, w => ρ 8 = .pointer (some ⟨gr, 0, none⟩)
  | 4, bs, bt, ρ, w => ρ 9 = .pointer (some ⟨gr, 0, none⟩)
  | 5, bs, bt, ρ, w => ρ 10 = .pointer (some ⟨gr, 1, none⟩)
  | 6, bs, bt, ρ, w => ρ 11 = .pointer (some ⟨gr, 0, none⟩)
  | 7, bs, bt, ρ, w => ρ 12 = .pointer (some ⟨gr, 0, none⟩)
  | 8, bs, bt, ρ, w => ρ 13 = .pointer (some ⟨gr, 2, none⟩)
  | 9, bs, bt, ρ, w => ρ 14 = .pointer (some ⟨gh, 0, none⟩)
  | 10, bs, bt, ρ, w => ρ 15 = .pointer (some ⟨gh, 0, none⟩)
  | 11, bs, bt, ρ, w => ρ 16 = .pointer (some ⟨gh, 0, none⟩)
  | 12, bs, bt, ρ, w => ρ 17 = .pointer (some ⟨gh, 0, none⟩)
  | 13, bs, bt, ρ, w => ρ 18 = .pointer (some ⟨gh, 0, none⟩)
  | 14, bs, bt, ρ, w => ρ 19 = .pointer (some ⟨gh, 1, none⟩)
  | 15, bs, bt, ρ, w => ρ 20 = .agg #[.pointer (some ⟨gr, 0, none⟩), .pointer (some ⟨gr, 1, none⟩), .pointer (some ⟨gr, 2, none⟩), .pointer (some ⟨gh, 0, none⟩), .pointer (some ⟨gh, 1, none⟩)]
  | 16, bs, bt, ρ, w => Cells w S 57 #[.pointer (some ⟨gr, 0, none⟩), .pointer (some ⟨gr, 1, none⟩), .pointer (some ⟨gr, 2, none⟩), .pointer (some ⟨gh, 0, none⟩), .pointer (some ⟨gh, 1, none⟩)]
  | _, _, _, _, _ => True
def PhFq_DS : List Nat := [5, 6, 7, 8, 9, 10, 11, 12, 13, 14, 15, 16, 17, 18, 19, 20]
def PhFq_R (i : Nat) : List Nat := ([[], [0], [0, 1], [], [3], [3, 4], [], [6], [6, 7], [], [9], [9, 10], [], [12], [12, 13], [0, 1, 2, 3, 4, 5, 6, 7, 8, 9, 10, 11, 12, 13, 14], [0, 1, 2, 3, 4, 5, 6, 7, 8, 9, 10, 11, 12, 13, 14, 15]] : List (List Nat)).getD i []
def PhFq_T (i : Nat) : List Nat := ([[5], [6], [7], [8], [9], [10], [11], [12], [13], [14], [15], [16], [17], [18], [19], [20], []] : List (List Nat)).getD i []
set_option maxRecDepth 100000 in
set_option maxHeartbeats 4000000 in
theorem PhFq_region {ops : Array Oper} {Q : Exit → Act → World → Prop} {id : Nat} {B : World} {a0 : Act} (gr gh S : Nat) (nb : Nat) (hnb : nb ≤ B.heap.size)
    (hm : Try.prog.follows .mixedOrders = true) (dep : ∀ (i : Nat) (o : Oper), ops[i]? = some o → ∀ e ∈ o.after, Region.binds .any e = true → e.on < i) (hn : ops.size = 17) (tab : tabB ops PhFq_DS PhFq_R PhFq_T = true) (hsz : 21 ≤ a0.tmps.size)
    (O0 : OpX ops 0 none (some 5) (.move (.tmp 0)))
    (O1 : OpX ops 1 none (some 6) (.nilCheck (.tmp 5)))
    (O2 : OpX ops 2 none (some 7) (.fieldAddr 24 (.tmp 6) 0))
    (O3 : OpX ops 3 none (some 8) (.move (.tmp 0)))
    (O4 : OpX ops 4 none (some 9) (.nilCheck (.tmp 8)))
    (O5 : OpX ops 5 none (some 10) (.fieldAddr 24 (.tmp 9) 1))
    (O6 : OpX ops 6 none (some 11) (.move (.tmp 0)))
    (O7 : OpX ops 7 none (some 12) (.nilCheck (.tmp 11)))
    (O8 : OpX ops 8 none (some 13) (.fieldAddr 24 (.tmp 12) 2))
    (O9 : OpX ops 9 none (some 14) (.move (.tmp 1)))
    (O10 : OpX ops 10 none (some 15) (.nilCheck (.tmp 14)))
    (O11 : OpX ops 11 none (some 16) (.fieldAddr 53 (.tmp 15) 0))
    (O12 : OpX ops 12 none (some 17) (.move (.tmp 1)))
    (O13 : OpX ops 13 none (some 18) (.nilCheck (.tmp 17)))
    (O14 : OpX ops 14 none (some 19) (.fieldAddr 53 (.tmp 18) 1))
    (O15 : OpX ops 15 none (some 20) (.build 57 #[(0, .tmp 7), (1, .tmp 10), (2, .tmp 13), (3, .tmp 16), (4, .tmp 19)]))
    (O16 : OpX ops 16 none none (.store 57 (.tmp 4) (.tmp 20)))
    (rr0 : env a0 0 = .pointer (some ⟨gr, 0, none⟩)) (rr1 : env a0 1 = .pointer (some ⟨gh, 0, none⟩)) (rr4 : env a0 4 = .pointer (some ⟨S, 0, none⟩)) (hgr : gr < B.heap.size) (hgh : gh < B.heap.size) (hSn : nb ≤ S) (PS : Hid (∃ cs : Array Value, Cells B.drew S 57 cs ∧ cs.size = 5))
    (fin : ∀ (u : Nat → Value) (iv : Nat → Nat × Nat) w', Below nb B w' → B.heap.size ≤ w'.heap.size → (∀ j, j < 17 → PhFq gr gh S nb j (iv j).1 (iv j).2 u w') → (∀ j, j < 17 → B.heap.size ≤ (iv j).1 ∧ (iv j).1 ≤ (iv j).2 ∧ (iv j).2 ≤ w'.heap.size) → (∀ j k, j < 17 → k < 17 → j ≠ k → (iv j).2 ≤ (iv k).1 ∨ (iv k).2 ≤ (iv j).1) → (∀ t, t ∉ PhFq_DS → u t = env a0 t) → Q .normal (puts a0 PhFq_DS u) w') :
    (Code.region id ops true).wp Try.prog Q a0 B := by
  have hlt : ∀ d ∈ PhFq_DS, d < a0.tmps.size := fun d hd => Nat.lt_of_lt_of_le ((show ∀ d ∈ PhFq_DS, d < 21 by decide) d hd) hsz
  refine wp_region_rgD nb hnb [16] (fun w => ∃ cs : Array Value, Cells w S 57 cs ∧ cs.size = 5) PS.out ?spsi (PhFq gr gh S nb) PhFq_DS PhFq_R PhFq_T hm dep tab hlt ?supp ?stab ?step (fun u iv w' b bs h r d f => fin u iv w' b bs (fun j hj => h j (by rw [hn]; exact hj)) (fun j hj => r j (by rw [hn]; exact hj)) (fun j k hj hk => d j k (by rw [hn]; exact hj) (by rw [hn]; exact hk)) f)
  case spsi =>
    intro w w' k b
    obtain ⟨cs, k1, k2⟩ := k
    exact ⟨cs, k1.below b k1.lt, k2⟩
  case supp =>
    intro i hi
    rw [hn] at hi
    rcases (by omega : i = 0 ∨ i = 1 ∨ i = 2 ∨ i = 3 ∨ i = 4 ∨ i = 5 ∨ i = 6 ∨ i = 7 ∨ i = 8 ∨ i = 9 ∨ i = 10 ∨ i = 11 ∨ i = 12 ∨ i = 13 ∨ i = 14 ∨ i = 15 ∨ i = 16) with rfl | rfl | rfl | rfl | rfl | rfl | rfl | rfl | rfl | rfl | rfl | rfl | rfl | rfl | rfl | rfl | rfl <;> intro bs bt ρ ρ' w h k
    · have k' : ρ 5 = .pointer (some ⟨gr, 0, none⟩) := k
      show ρ' 5 = .pointer (some ⟨gr, 0, none⟩)
      rw [h 5 (by decide)]
      exact k'
    · have k' : ρ 6 = .pointer (some ⟨gr, 0, none⟩) := k
      show ρ' 6 = .pointer (some ⟨gr, 0, none⟩)
      rw [h 6 (by decide)]
      exact k'
    · have k' : ρ 7 = .pointer (some ⟨gr, 0, none⟩) := k
      show ρ' 7 = .pointer (some ⟨gr, 0, none⟩)
      rw [h 7 (by decide)]
      exact k'
    · have k' : ρ 8 = .pointer (some ⟨gr, 0, none⟩) := k
      show ρ' 8 = .pointer (some ⟨gr, 0, none⟩)
      rw [h 8 (by decide)]
      exact k'
    · have k' : ρ 9 = .pointer (some ⟨gr, 0, none⟩) := k
      show ρ' 9 = .pointer (some ⟨gr, 0, none⟩)
      rw [h 9 (by decide)]
      exact k'
    · have k' : ρ 10 = .pointer (some ⟨gr, 1, none⟩) := k
      show ρ' 10 = .pointer (some ⟨gr, 1, none⟩)
      rw [h 10 (by decide)]
      exact k'
    · have k' : ρ 11 = .pointer (some ⟨gr, 0, none⟩) := k
      show ρ' 11 = .pointer (some ⟨gr, 0, none⟩)
      rw [h 11 (by decide)]
      exact k'
    · have k' : ρ 12 = .pointer (some ⟨gr, 0, none⟩) := k
      show ρ' 12 = .pointer (some ⟨gr, 0, none⟩)
      rw [h 12 (by decide)]
      exact k'
    · have k' : ρ 13 = .pointer (some ⟨gr, 2, none⟩) := k
      show ρ' 13 = .pointer (some ⟨gr, 2, none⟩)
      rw [h 13 (by decide)]
      exact k'
    · have k' : ρ 14 = .pointer (some ⟨gh, 0, none⟩) := k
      show ρ' 14 = .pointer (some ⟨gh, 0, none⟩)
      rw [h 14 (by decide)]
      exact k'
    · have k' : ρ 15 = .pointer (some ⟨gh, 0, none⟩) := k
      show ρ' 15 = .pointer (some ⟨gh, 0, none⟩)
      rw [h 15 (by decide)]
      exact k'
    · have k' : ρ 16 = .pointer (some ⟨gh, 0, none⟩) := k
      show ρ' 16 = .pointer (some ⟨gh, 0, none⟩)
      rw [h 16 (by decide)]
      exact k'
    · have k' : ρ 17 = .pointer (some ⟨gh, 0, none⟩) := k
      show ρ' 17 = .pointer (some ⟨gh, 0, none⟩)
      rw [h 17 (by decide)]
      exact k'
    · have k' : ρ 18 = .pointer (some ⟨gh, 0, none⟩) := k
      show ρ' 18 = .pointer (some ⟨gh, 0, none⟩)
      rw [h 18 (by decide)]
      exact k'
    · have k' : ρ 19 = .pointer (some ⟨gh, 1, none⟩) := k
      show ρ' 19 = .pointer (some ⟨gh, 1, none⟩)
      rw [h 19 (by decide)]
      exact k'
    · have k' : ρ 20 = .agg #[.pointer (some ⟨gr, 0, none⟩), .pointer (some ⟨gr, 1, none⟩), .pointer (some ⟨gr, 2, none⟩), .pointer (some ⟨gh, 0, none⟩), .pointer (some ⟨gh, 1, none⟩)] := k
      show ρ' 20 = .agg #[.pointer (some ⟨gr, 0, none⟩), .pointer (some ⟨gr, 1, none⟩), .pointer (some ⟨gr, 2, none⟩), .pointer (some ⟨gh, 0, none⟩), .pointer (some ⟨gh, 1, none⟩)]
      rw [h 20 (by decide)]
      exact k'
    · have k' : Cells w S 57 #[.pointer (some ⟨gr, 0, none⟩), .pointer (some ⟨gr, 1, none⟩), .pointer (some ⟨gr, 2, none⟩), .pointer (some ⟨gh, 0, none⟩), .pointer (some ⟨gh, 1, none⟩)] := k
      show Cells w S 57 #[.pointer (some ⟨gr, 0, none⟩), .pointer (some ⟨gr, 1, none⟩), .pointer (some ⟨gr, 2, none⟩), .pointer (some ⟨gh, 0, none⟩), .pointer (some ⟨gh, 1, none⟩)]
      exact k'
  case stab =>
    intro i hi
    rw [hn] at hi
    rcases (by omega : i = 0 ∨ i = 1 ∨ i = 2 ∨ i = 3 ∨ i = 4 ∨ i = 5 ∨ i = 6 ∨ i = 7 ∨ i = 8 ∨ i = 9 ∨ i = 10 ∨ i = 11 ∨ i = 12 ∨ i = 13 ∨ i = 14 ∨ i = 15 ∨ i = 16) with rfl | rfl | rfl | rfl | rfl | rfl | rfl | rfl | rfl | rfl | rfl | rfl | rfl | rfl | rfl | rfl | rfl <;> intro bs bt ρ w w' hbt k b
    · have k' : ρ 5 = .pointer (some ⟨gr, 0, none⟩) := k
      exact k'
    · have k' : ρ 6 = .pointer (some ⟨gr, 0, none⟩) := k
      exact k'
    · have k' : ρ 7 = .pointer (some ⟨gr, 0, none⟩) := k
      exact k'
    · have k' : ρ 8 = .pointer (some ⟨gr, 0, none⟩) := k
      exact k'
    · have k' : ρ 9 = .pointer (some ⟨gr, 0, none⟩) := k
      exact k'
    · have k' : ρ 10 = .pointer (some ⟨gr, 1, none⟩) := k
      exact k'
    · have k' : ρ 11 = .pointer (some ⟨gr, 0, none⟩) := k
      exact k'
    · have k' : ρ 12 = .pointer (some ⟨gr, 0, none⟩) := k
      exact k'
    · have k' : ρ 13 = .pointer (some ⟨gr, 2, none⟩) := k
      exact k'
    · have k' : ρ 14 = .pointer (some ⟨gh, 0, none⟩) := k
      exact k'
    · have k' : ρ 15 = .pointer (some ⟨gh, 0, none⟩) := k
      exact k'
    · have k' : ρ 16 = .pointer (some ⟨gh, 0, none⟩) := k
      exact k'
    · have k' : ρ 17 = .pointer (some ⟨gh, 0, none⟩) := k
      exact k'
    · have k' : ρ 18 = .pointer (some ⟨gh, 0, none⟩) := k
      exact k'
    · have k' : ρ 19 = .pointer (some ⟨gh, 1, none⟩) := k
      exact k'
    · have k' : ρ 20 = .agg #[.pointer (some ⟨gr, 0, none⟩), .pointer (some ⟨gr, 1, none⟩), .pointer (some ⟨gr, 2, none⟩), .pointer (some ⟨gh, 0, none⟩), .pointer (some ⟨gh, 1, none⟩)] := k
      exact k'
    · exact k.below b k.lt
  case step =>
    intro i hi
    rw [hn] at hi
    rcases (by omega : i = 0 ∨ i = 1 ∨ i = 2 ∨ i = 3 ∨ i = 4 ∨ i = 5 ∨ i = 6 ∨ i = 7 ∨ i = 8 ∨ i = 9 ∨ i = 10 ∨ i = 11 ∨ i = 12 ∨ i = 13 ∨ i = 14 ∨ i = 15 ∨ i = 16) with rfl | rfl | rfl | rfl | rfl | rfl | rfl | rfl | rfl | rfl | rfl | rfl | rfl | rfl | rfl | rfl | rfl <;> intro L iv a w hLi hs hb hbs hps hf hr hall hra hdi
    · obtain ⟨o, ho, hg, hd, hop⟩ := O0
      clear O1 O2 O3 O4 O5 O6 O7 O8 O9 O10 O11 O12 O13 O14 O15 O16 fin dep
      have r0 : a.eval (.tmp 0) = .pointer (some ⟨gr, 0, none⟩) := (hf 0 (fun k o ho e => absurd (tab_T tab ho e).1 (by decide))).trans rr0
      have ec : ∀ v, a.eval (.const v) = v := fun _ => rfl
      have ef : ∀ f, a.eval (.func f) = .func (.func f) #[] #[] := fun _ => rfl
      refine wpOp_of ho hg (wp_val (v := .pointer (some ⟨gr, 0, none⟩)) (w' := w) ?_ ⟨_, by rw [ho]; rfl, by rw [hd]; exact env_put_same (by rw [hs]; exact hlt _ (by decide)), .inl (Below.refl _ _)⟩)
      clear hr hall hra hdi hf
      generalize a.eval = ρ at ec ef r0 ⊢
      simp [go_sem, execOp, hop, ec, ef, r0]
    · obtain ⟨o, ho, hg, hd, hop⟩ := O1
      clear O0 O2 O3 O4 O5 O6 O7 O8 O9 O10 O11 O12 O13 O14 O15 O16 fin dep
      have d0 : a.eval (.tmp 5) = .pointer (some ⟨gr, 0, none⟩) := (hr 0 (by decide)).2
      have flt : gr < w.heap.size := Nat.lt_of_lt_of_le hgr hbs
      have ec : ∀ v, a.eval (.const v) = v := fun _ => rfl
      have ef : ∀ f, a.eval (.func f) = .func (.func f) #[] #[] := fun _ => rfl
      refine wpOp_of ho hg (wp_val (v := .pointer (some ⟨gr, 0, none⟩)) (w' := w) ?_ ⟨_, by rw [ho]; rfl, by rw [hd]; exact env_put_same (by rw [hs]; exact hlt _ (by decide)), .inl (Below.refl _ _)⟩)
      clear hr hall hra hdi hf
      generalize a.eval = ρ at ec ef d0 ⊢
      simp [go_sem, execOp, hop, ec, ef, d0, flt]
    · obtain ⟨o, ho, hg, hd, hop⟩ := O2
      clear O0 O1 O3 O4 O5 O6 O7 O8 O9 O10 O11 O12 O13 O14 O15 O16 fin dep
      have d1 : a.eval (.tmp 6) = .pointer (some ⟨gr, 0, none⟩) := (hr 1 (by decide)).2
      have flt : gr < w.heap.size := Nat.lt_of_lt_of_le hgr hbs
      have ec : ∀ v, a.eval (.const v) = v := fun _ => rfl
      have ef : ∀ f, a.eval (.func f) = .func (.func f) #[] #[] := fun _ => rfl
      refine wpOp_of ho hg (wp_val (v := .pointer (some ⟨gr, 0, none⟩)) (w' := w) ?_ ⟨_, by rw [ho]; rfl, by rw [hd]; exact env_put_same (by rw [hs]; exact hlt _ (by decide)), .inl (Below.refl _ _)⟩)
      clear hr hall hra hdi hf
      generalize a.eval = ρ at ec ef d1 ⊢
      simp [go_sem, execOp, hop, ec, ef, d1, flt]
    · obtain ⟨o, ho, hg, hd, hop⟩ := O3
      clear O0 O1 O2 O4 O5 O6 O7 O8 O9 O10 O11 O12 O13 O14 O15 O16 fin dep
      have r0 : a.eval (.tmp 0) = .pointer (some ⟨gr, 0, none⟩) := (hf 0 (fun k o ho e => absurd (tab_T tab ho e).1 (by decide))).trans rr0
      have ec : ∀ v, a.eval (.const v) = v := fun _ => rfl
      have ef : ∀ f, a.eval (.func f) = .func (.func f) #[] #[] := fun _ => rfl
      refine wpOp_of ho hg (wp_val (v := .pointer (some ⟨gr, 0, none⟩)) (w' := w) ?_ ⟨_, by rw [ho]; rfl, by rw [hd]; exact env_put_same (by rw [hs]; exact hlt _ (by decide)), .inl (Below.refl _ _)⟩)
      clear hr hall hra hdi hf
      generalize a.eval = ρ at ec ef r0 ⊢
      simp [go_sem, execOp, hop, ec, ef, r0]
    · obtain ⟨o, ho, hg, hd, hop⟩ := O4
      clear O0 O1 O2 O3 O5 O6 O7 O8 O9 O10 O11 O12 O13 O14 O15 O16 fin dep
      have d3 : a.eval (.tmp 8) = .pointer (some ⟨gr, 0, none⟩) := (hr 3 (by decide)).2
      have flt : gr < w.heap.size := Nat.lt_of_lt_of_le hgr hbs
      have ec : ∀ v, a.eval (.const v) = v := fun _ => rfl
      have ef : ∀ f, a.eval (.func f) = .func (.func f) #[] #[] := fun _ => rfl
      refine wpOp_of ho hg (wp_val (v := .pointer (some ⟨gr, 0, none⟩)) (w' := w) ?_ ⟨_, by rw [ho]; rfl, by rw [hd]; exact env_put_same (by rw [hs]; exact hlt _ (by decide)), .inl (Below.refl _ _)⟩)
      clear hr hall hra hdi hf
      generalize a.eval = ρ at ec ef d3 ⊢
      simp [go_sem, execOp, hop, ec, ef, d3, flt]
    · obtain ⟨o, ho, hg, hd, hop⟩ := O5
      clear O0 O1 O2 O3 O4 O6 O7 O8 O9 O10 O11 O12 O13 O14 O15 O16 fin dep
      have d4 : a.eval (.tmp 9) = .pointer (some ⟨gr, 0, none⟩) := (hr 4 (by decide)).2
      have flt : gr < w.heap.size := Nat.lt_of_lt_of_le hgr hbs
      have ec : ∀ v, a.eval (.const v) = v := fun _ => rfl
      have ef : ∀ f, a.eval (.func f) = .func (.func f) #[] #[] := fun _ => rfl
      refine wpOp_of ho hg (wp_val (v := .pointer (some ⟨gr, 1, none⟩)) (w' := w) ?_ ⟨_, by rw [ho]; rfl, by rw [hd]; exact env_put_same (by rw [hs]; exact hlt _ (by decide)), .inl (Below.refl _ _)⟩)
      clear hr hall hra hdi hf
      generalize a.eval = ρ at ec ef d4 ⊢
      simp [go_sem, execOp, hop, ec, ef, d4, flt]
    · obtain ⟨o, ho, hg, hd, hop⟩ := O6
      clear O0 O1 O2 O3 O4 O5 O7 O8 O9 O10 O11 O12 O13 O14 O15 O16 fin dep
      have r0 : a.eval (.tmp 0) = .pointer (some ⟨gr, 0, none⟩) := (hf 0 (fun k o ho e => absurd (tab_T tab ho e).1 (by decide))).trans rr0
      have ec : ∀ v, a.eval (.const v) = v := fun _ => rfl
      have ef : ∀ f, a.eval (.func f) = .func (.func f) #[] #[] := fun _ => rfl
      refine wpOp_of ho hg (wp_val (v := .pointer (some ⟨gr, 0, none⟩)) (w' := w) ?_ ⟨_, by rw [ho]; rfl, by rw [hd]; exact env_put_same (by rw [hs]; exact hlt _ (by decide)), .inl (Below.refl _ _)⟩)
      clear hr hall hra hdi hf
      generalize a.eval = ρ at ec ef r0 ⊢
      simp [go_sem, execOp, hop, ec, ef, r0]
    · obtain ⟨o, ho, hg, hd, hop⟩ := O7
      clear O0 O1 O2 O3 O4 O5 O6 O8 O9 O10 O11 O12 O13 O14 O15 O16 fin dep
      have d6 : a.eval (.tmp 11) = .pointer (some ⟨gr, 0, none⟩) := (hr 6 (by decide)).2
      have flt : gr < w.heap.size := Nat.lt_of_lt_of_le hgr hbs
      have ec : ∀ v, a.eval (.const v) = v := fun _ => rfl
      have ef : ∀ f, a.eval (.func f) = .func (.func f) #[] #[] := fun _ => rfl
      refine wpOp_of ho hg (wp_val (v := .pointer (some ⟨gr, 0, none⟩)) (w' := w) ?_ ⟨_, by rw [ho]; rfl, by rw [hd]; exact env_put_same (by rw [hs]; exact hlt _ (by decide)), .inl (Below.refl _ _)⟩)
      clear hr hall hra hdi hf
      generalize a.eval = ρ at ec ef d6 ⊢
      simp [go_sem, execOp, hop, ec, ef, d6, flt]
    · obtain ⟨o, ho, hg, hd, hop⟩ := O8
      clear O0 O1 O2 O3 O4 O5 O6 O7 O9 O10 O11 O12 O13 O14 O15 O16 fin dep
      have d7 : a.eval (.tmp 12) = .pointer (some ⟨gr, 0, none⟩) := (hr 7 (by decide)).2
      have flt : gr < w.heap.size := Nat.lt_of_lt_of_le hgr hbs
      have ec : ∀ v, a.eval (.const v) = v := fun _ => rfl
      have ef : ∀ f, a.eval (.func f) = .func (.func f) #[] #[] := fun _ => rfl
      refine wpOp_of ho hg (wp_val (v := .pointer (some ⟨gr, 2, none⟩)) (w' := w) ?_ ⟨_, by rw [ho]; rfl, by rw [hd]; exact env_put_same (by rw [hs]; exact hlt _ (by decide)), .inl (Below.refl _ _)⟩)
      clear hr hall hra hdi hf
      generalize a.eval = ρ at ec ef d7 ⊢
      simp [go_sem, execOp, hop, ec, ef, d7, flt]
    · obtain ⟨o, ho, hg, hd, hop⟩ := O9
      clear O0 O1 O2 O3 O4 O5 O6 O7 O8 O10 O11 O12 O13 O14 O15 O16 fin dep
      have r1 : a.eval (.tmp 1) = .pointer (some ⟨gh, 0, none⟩) := (hf 1 (fun k o ho e => absurd (tab_T tab ho e).1 (by decide))).trans rr1
      have ec : ∀ v, a.eval (.const v) = v := fun _ => rfl
      have ef : ∀ f, a.eval (.func f) = .func (.func f) #[] #[] := fun _ => rfl
      refine wpOp_of ho hg (wp_val (v := .pointer (some ⟨gh, 0, none⟩)) (w' := w) ?_ ⟨_, by rw [ho]; rfl, by rw [hd]; exact env_put_same (by rw [hs]; exact hlt _ (by decide)), .inl (Below.refl _ _)⟩)
      clear hr hall hra hdi hf
      generalize a.eval = ρ at ec ef r1 ⊢
      simp [go_sem, execOp, hop, ec, ef, r1]
    · obtain ⟨o, ho, hg, hd, hop⟩ := O10
      clear O0 O1 O2 O3 O4 O5 O6 O7 O8 O9 O11 O12 O13 O14 O15 O16 fin dep
      have d9 : a.eval (.tmp 14) = .pointer (some ⟨gh, 0, none⟩) := (hr 9 (by decide)).2
      have flt : gh < w.heap.size := Nat.lt_of_lt_of_le hgh hbs
      have ec : ∀ v, a.eval (.const v) = v := fun _ => rfl
      have ef : ∀ f, a.eval (.func f) = .func (.func f) #[] #[] := fun _ => rfl
      refine wpOp_of ho hg (wp_val (v := .pointer (some ⟨gh, 0, none⟩)) (w' := w) ?_ ⟨_, by rw [ho]; rfl, by rw [hd]; exact env_put_same (by rw [hs]; exact hlt _ (by decide)), .inl (Below.refl _ _)⟩)
      clear hr hall hra hdi hf
      generalize a.eval = ρ at ec ef d9 ⊢
      simp [go_sem, execOp, hop, ec, ef, d9, flt]
    · obtain ⟨o, ho, hg, hd, hop⟩ := O11
      clear O0 O1 O2 O3 O4 O5 O6 O7 O8 O9 O10 O12 O13 O14 O15 O16 fin dep
      have d10 : a.eval (.tmp 15) = .pointer (some ⟨gh, 0, none⟩) := (hr 10 (by decide)).2
      have flt : gh < w.heap.size := Nat.lt_of_lt_of_le hgh hbs
      have ec : ∀ v, a.eval (.const v) = v := fun _ => rfl
      have ef : ∀ f, a.eval (.func f) = .func (.func f) #[] #[] := fun _ => rfl
      refine wpOp_of ho hg (wp_val (v := .pointer (some ⟨gh, 0, none⟩)) (w' := w) ?_ ⟨_, by rw [ho]; rfl, by rw [hd]; exact env_put_same (by rw [hs]; exact hlt _ (by decide)), .inl (Below.refl _ _)⟩)
      clear hr hall hra hdi hf
      generalize a.eval = ρ at ec ef d10 ⊢
      simp [go_sem, execOp, hop, ec, ef, d10, flt]
    · obtain ⟨o, ho, hg, hd, hop⟩ := O12
      clear O0 O1 O2 O3 O4 O5 O6 O7 O8 O9 O10 O11 O13 O14 O15 O16 fin dep
      have r1 : a.eval (.tmp 1) = .pointer (some ⟨gh, 0, none⟩) := (hf 1 (fun k o ho e => absurd (tab_T tab ho e).1 (by decide))).trans rr1
      have ec : ∀ v, a.eval (.const v) = v := fun _ => rfl
      have ef : ∀ f, a.eval (.func f) = .func (.func f) #[] #[] := fun _ => rfl
      refine wpOp_of ho hg (wp_val (v := .pointer (some ⟨gh, 0, none⟩)) (w' := w) ?_ ⟨_, by rw [ho]; rfl, by rw [hd]; exact env_put_same (by rw [hs]; exact hlt _ (by decide)), .inl (Below.refl _ _)⟩)
      clear hr hall hra hdi hf
      generalize a.eval = ρ at ec ef r1 ⊢
      simp [go_sem, execOp, hop, ec, ef, r1]
    · obtain ⟨o, ho, hg, hd, hop⟩ := O13
      clear O0 O1 O2 O3 O4 O5 O6 O7 O8 O9 O10 O11 O12 O14 O15 O16 fin dep
      have d12 : a.eval (.tmp 17) = .pointer (some ⟨gh, 0, none⟩) := (hr 12 (by decide)).2
      have flt : gh < w.heap.size := Nat.lt_of_lt_of_le hgh hbs
      have ec : ∀ v, a.eval (.const v) = v := fun _ => rfl
      have ef : ∀ f, a.eval (.func f) = .func (.func f) #[] #[] := fun _ => rfl
      refine wpOp_of ho hg (wp_val (v := .pointer (some ⟨gh, 0, none⟩)) (w' := w) ?_ ⟨_, by rw [ho]; rfl, by rw [hd]; exact env_put_same (by rw [hs]; exact hlt _ (by decide)), .inl (Below.refl _ _)⟩)
      clear hr hall hra hdi hf
      generalize a.eval = ρ at ec ef d12 ⊢
      simp [go_sem, execOp, hop, ec, ef, d12, flt]
    · obtain ⟨o, ho, hg, hd, hop⟩ := O14
      clear O0 O1 O2 O3 O4 O5 O6 O7 O8 O9 O10 O11 O12 O13 O15 O16 fin dep
      have d13 : a.eval (.tmp 18) = .pointer (some ⟨gh, 0, none⟩) := (hr 13 (by decide)).2
      have flt : gh < w.heap.size := Nat.lt_of_lt_of_le hgh hbs
      have ec : ∀ v, a.eval (.const v) = v := fun _ => rfl
      have ef : ∀ f, a.eval (.func f) = .func (.func f) #[] #[] := fun _ => rfl
      refine wpOp_of ho hg (wp_val (v := .pointer (some ⟨gh, 1, none⟩)) (w' := w) ?_ ⟨_, by rw [ho]; rfl, by rw [hd]; exact env_put_same (by rw [hs]; exact hlt _ (by decide)), .inl (Below.refl _ _)⟩)
      clear hr hall hra hdi hf
      generalize a.eval = ρ at ec ef d13 ⊢
      simp [go_sem, execOp, hop, ec, ef, d13, flt]
    · obtain ⟨o, ho, hg, hd, hop⟩ := O15
      clear O0 O1 O2 O3 O4 O5 O6 O7 O8 O9 O10 O11 O12 O13 O14 O16 fin dep
      have d2 : a.eval (.tmp 7) = .pointer (some ⟨gr, 0, none⟩) := (hr 2 (by decide)).2
      have d5 : a.eval (.tmp 10) = .pointer (some ⟨gr, 1, none⟩) := (hr 5 (by decide)).2
      have d8 : a.eval (.tmp 13) = .pointer (some ⟨gr, 2, none⟩) := (hr 8 (by decide)).2
      have d11 : a.eval (.tmp 16) = .pointer (some ⟨gh, 0, none⟩) := (hr 11 (by decide)).2
      have d14 : a.eval (.tmp 19) = .pointer (some ⟨gh, 1, none⟩) := (hr 14 (by decide)).2
      have ec : ∀ v, a.eval (.const v) = v := fun _ => rfl
      have ef : ∀ f, a.eval (.func f) = .func (.func f) #[] #[] := fun _ => rfl
      refine wpOp_of ho hg (wp_val (v := .agg #[.pointer (some ⟨gr, 0, none⟩), .pointer (some ⟨gr, 1, none⟩), .pointer (some ⟨gr, 2, none⟩), .pointer (some ⟨gh, 0, none⟩), .pointer (some ⟨gh, 1, none⟩)]) (w' := w) ?_ ⟨_, by rw [ho]; rfl, by rw [hd]; exact env_put_same (by rw [hs]; exact hlt _ (by decide)), .inl (Below.refl _ _)⟩)
      clear hr hall hra hdi hf
      generalize a.eval = ρ at ec ef d2 d5 d8 d11 d14 ⊢
      simp [go_sem, execOp, hop, ec, ef, d2, d5, d8, d11, d14]
    · obtain ⟨o, ho, hg, hd, hop⟩ := O16
      clear O0 O1 O2 O3 O4 O5 O6 O7 O8 O9 O10 O11 O12 O13 O14 O15 fin dep
      have d15 : a.eval (.tmp 20) = .agg #[.pointer (some ⟨gr, 0, none⟩), .pointer (some ⟨gr, 1, none⟩), .pointer (some ⟨gr, 2, none⟩), .pointer (some ⟨gh, 0, none⟩), .pointer (some ⟨gh, 1, none⟩)] := (hr 15 (by decide)).2
      have r4 : a.eval (.tmp 4) = .pointer (some ⟨S, 0, none⟩) := (hf 4 (fun k o ho e => absurd (tab_T tab ho e).1 (by decide))).trans rr4
      have ps := hps (fun j hj => by
        simp only [List.mem_cons, List.not_mem_nil, or_false] at hj
        rcases hj with rfl
        · exact hLi)
      have ec : ∀ v, a.eval (.const v) = v := fun _ => rfl
      have ef : ∀ f, a.eval (.func f) = .func (.func f) #[] #[] := fun _ => rfl
      have dbi : a.eval (.tmp 20) = .agg #[.pointer (some ⟨gr, 0, none⟩), .pointer (some ⟨gr, 1, none⟩), .pointer (some ⟨gr, 2, none⟩), .pointer (some ⟨gh, 0, none⟩), .pointer (some ⟨gh, 1, none⟩)] := (hr 15 (by decide)).2
      obtain ⟨cs, h4, h5⟩ := ps
      have f0 := h4.free 0
      have c0 := cells_some h4 0 (by omega)
      have f1 := h4.free 1
      have c1 := cells_some h4 1 (by omega)
      have f2 := h4.free 2
      have c2 := cells_some h4 2 (by omega)
      have f3 := h4.free 3
      have c3 := cells_some h4 3 (by omega)
      have f4 := h4.free 4
      have c4 := cells_some h4 4 (by omega)
      refine wpOp_of ho hg (wp_skip (w' := fillC w S 0 [.pointer (some ⟨gr, 0, none⟩), .pointer (some ⟨gr, 1, none⟩), .pointer (some ⟨gr, 2, none⟩), .pointer (some ⟨gh, 0, none⟩), .pointer (some ⟨gh, 1, none⟩)]) ?_ ⟨undef, by rw [ho]; rfl, fill_all h4 h5, .inr ⟨S, hSn, fill_only _ _ _ _, fun j hj hLj k => ?_, fun h => absurd (by decide) h⟩⟩)
      · have hlt4 := h4.lt
        clear hr hall hra hdi hf
        generalize a.eval = ρ at ec ef dbi r4 ⊢
        simp [go_sem, execOp, hop, ec, ef, dbi, r4, hlt4, fillC, f0, c0, f1, c1, f2, c2, f3, c3, f4, c4]
      · rw [hn] at hj
        rcases (by omega : j = 0 ∨ j = 1 ∨ j = 2 ∨ j = 3 ∨ j = 4 ∨ j = 5 ∨ j = 6 ∨ j = 7 ∨ j = 8 ∨ j = 9 ∨ j = 10 ∨ j = 11 ∨ j = 12 ∨ j = 13 ∨ j = 14 ∨ j = 15 ∨ j = 16) with rfl | rfl | rfl | rfl | rfl | rfl | rfl | rfl | rfl | rfl | rfl | rfl | rfl | rfl | rfl | rfl | rfl
        · have k' : (env a) 5 = .pointer (some ⟨gr, 0, none⟩) := k
          exact k'
        · have k' : (env a) 6 = .pointer (some ⟨gr, 0, none⟩) := k
          exact k'
        · have k' : (env a) 7 = .pointer (some ⟨gr, 0, none⟩) := k
          exact k'
        · have k' : (env a) 8 = .pointer (some ⟨gr, 0, none⟩) := k
          exact k'
        · have k' : (env a) 9 = .pointer (some ⟨gr, 0, none⟩) := k
          exact k'
        · have k' : (env a) 10 = .pointer (some ⟨gr, 1, none⟩) := k
          exact k'
        · have k' : (env a) 11 = .pointer (some ⟨gr, 0, none⟩) := k
          exact k'
        · have k' : (env a) 12 = .pointer (some ⟨gr, 0, none⟩) := k
          exact k'
        · have k' : (env a) 13 = .pointer (some ⟨gr, 2, none⟩) := k
          exact k'
        · have k' : (env a) 14 = .pointer (some ⟨gh, 0, none⟩) := k
          exact k'
        · have k' : (env a) 15 = .pointer (some ⟨gh, 0, none⟩) := k
          exact k'
        · have k' : (env a) 16 = .pointer (some ⟨gh, 0, none⟩) := k
          exact k'
        · have k' : (env a) 17 = .pointer (some ⟨gh, 0, none⟩) := k
          exact k'
        · have k' : (env a) 18 = .pointer (some ⟨gh, 0, none⟩) := k
          exact k'
        · have k' : (env a) 19 = .pointer (some ⟨gh, 1, none⟩) := k
          exact k'
        · have k' : (env a) 20 = .agg #[.pointer (some ⟨gr, 0, none⟩), .pointer (some ⟨gr, 1, none⟩), .pointer (some ⟨gr, 2, none⟩), .pointer (some ⟨gh, 0, none⟩), .pointer (some ⟨gh, 1, none⟩)] := k
          exact k'
        · rw [hLi] at hLj; cases hLj
set_option maxRecDepth 100000 in
set_option maxHeartbeats 8000000 in
theorem grqf_any (gr gh : Nat) (w : World) (hgr : gr < w.heap.size) (hgh : gh < w.heap.size) :
    Calls Try.prog 25 #[.pointer (some ⟨gr, 0, none⟩), .pointer (some ⟨gh, 0, none⟩)] w (Gives (.agg #[.pointer (some ⟨gr, 0, none⟩), .pointer (some ⟨gr, 1, none⟩), .pointer (some ⟨gr, 2, none⟩), .pointer (some ⟨gh, 0, none⟩), .pointer (some ⟨gh, 1, none⟩)]) w) := by
  obtain ⟨W, hW⟩ : ∃ W, w.alloc (.cells #[.pointer none, .pointer none, .pointer none, .pointer none, .pointer none] 57) = W := ⟨_, rfl⟩
  have T0 : Hid (Cells W w.heap.size 57 #[.pointer none, .pointer none, .pointer none, .pointer none, .pointer none]) := by rw [← hW]; exact Cells.new w _ _
  have B0 : Hid (Below w.heap.size w W) := by rw [← hW]; exact below_alloc w _
  have hsz : W.heap.size = w.heap.size + 1 := by rw [← hW]; simp
  go_enter Try.func25, Try.ntmps25
  go_wp2_with fail
  refine PhFq_region gr gh w.heap.size w.heap.size (by omega) rfl (dep_of (by kernel_rfl)) rfl (by kernel_rfl) (by simp)
    ⟨_, rfl, rfl, rfl, rfl⟩
    ⟨_, rfl, rfl, rfl, rfl⟩
    ⟨_, rfl, rfl, rfl, rfl⟩
    ⟨_, rfl, rfl, rfl, rfl⟩
    ⟨_, rfl, rfl, rfl, rfl⟩
    ⟨_, rfl, rfl, rfl, rfl⟩
    ⟨_, rfl, rfl, rfl, rfl⟩
    ⟨_, rfl, rfl, rfl, rfl⟩
    ⟨_, rfl, rfl, rfl, rfl⟩
    ⟨_, rfl, rfl, rfl, rfl⟩
    ⟨_, rfl, rfl, rfl, rfl⟩
    ⟨_, rfl, rfl, rfl, rfl⟩
    ⟨_, rfl, rfl, rfl, rfl⟩
    ⟨_, rfl, rfl, rfl, rfl⟩
    ⟨_, rfl, rfl, rfl, rfl⟩
    ⟨_, rfl, rfl, rfl, rfl⟩
    ⟨_, rfl, rfl, rfl, rfl⟩
    rfl rfl rfl (by omega) (by omega) (Nat.le_refl _) (Lib.hid ⟨_, T0.out.below ((Drew.one W).below W.heap.size) T0.out.lt, rfl⟩) ?_
  intro u iv w' b bs hΦ _ _ hu
  have T1 : Cells w' w.heap.size 57 #[.pointer (some ⟨gr, 0, none⟩), .pointer (some ⟨gr, 1, none⟩), .pointer (some ⟨gr, 2, none⟩), .pointer (some ⟨gh, 0, none⟩), .pointer (some ⟨gh, 1, none⟩)] := hΦ 16 (by omega)
  have BB := Lib.hid (B0.out.trans b)
  have t0 := T1.c 0 rfl
  have t1 := T1.c 1 rfl
  have t2 := T1.c 2 rfl
  have t3 := T1.c 3 rfl
  have t4 := T1.c 4 rfl
  have tl := T1.lt
  clear hΦ
  simp only [PhFq_DS, puts, Act.put, Array.set!_eq_setIfInBounds, List.setIfInBounds_toArray, List.set_cons_succ, List.set_cons_zero]
  go_wp2_with fail
  refine bodyPost_ret (v := .agg #[.pointer (some ⟨gr, 0, none⟩), .pointer (some ⟨gr, 1, none⟩), .pointer (some ⟨gr, 2, none⟩), .pointer (some ⟨gh, 0, none⟩), .pointer (some ⟨gh, 1, none⟩)]) (by simp [results, Try.results25, go_sem, t0, t1, t2, t3, t4, tl]) rfl ⟨rfl, BB.out⟩
end Go.Proofs.Ytmfbnajaocaikaa
