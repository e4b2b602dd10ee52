/- Layer 11: package packet's replyFields over the landed code: a region that draws its order and stores at its end (gen/gen_prog.py writes this). -/
import Derived.Test.YtmfbnajaocaikaaRg
import Derived.Test.YtmfbnajaocaikaaGFq
namespace Go.Proofs.Ytmfbnajaocaikaa
open Go.RowKit Go.Sort Go
set_option linter.unusedVariables false
set_option linter.unusedSimpArgs false

def PhFp (gr gh S : Nat) (nb : Nat) : Nat → Nat → Nat → (Nat → Value) → World → Prop
  | 0, bs, bt, ρ, w => ρ 5 = .pointer (some ⟨gr, 0, none⟩)
  | 1, bs, bt, ρ, w => ρ 6 = .pointer (some ⟨gr, 0, none⟩)
  | 2, bs, bt, ρ, w => ρ 7 = .pointer (some ⟨gr, 0, none⟩)
  | 3, bs, bt, ρ, w => ρ 8 = .pointer (some ⟨gr, 0, none⟩)
  | 4, bs, bt, ρ, w => ρ 9 = .pointer (some ⟨gr, 0, none⟩)
  | 5, bs, bt, ρ, w => ρ 10 = .pointer (some ⟨gr, 1, none⟩)
  | 6, bs, bt, ρ, w => ρ 11 = .pointer (some ⟨gr, 0, none⟩)
  | 7, bs, bt, ρ, w => ρ 12 = .pointer (some ⟨gr, 0, none⟩)
  | 8, bs, bt, ρ, w => ρ 13 = .pointer (some ⟨gr, 2, none⟩)
  | 9, bs, bt, ρ, w => ρ 14 = .pointer (some ⟨gh, 0, none⟩)
  | 10, bs, bt, ρ, w => ρ 15 = .pointer (some ⟨gh, 0, none⟩)
  | 11, bs, bt, ρ, w => ρ 16 = .pointer (some ⟨gh, 0, none⟩)
  | 12, bs, bt, ρ, w => ρ 17 = .pointer (some ⟨gh, 0, none⟩)
  | 13, bs, bt, ρ, w => ρ 18 = .pointer (some ⟨gh, 0, none⟩)
  | 14, bs, bt, ρ, w => ρ 19 = .pointer (some ⟨gh, 1, none⟩)
  | 15, bs, bt, ρ, w => ρ 20 = .pointer (some ⟨gr, 0, none⟩)
  | 16, bs, bt, ρ, w => ρ 21 = .pointer (some ⟨gr, 0, none⟩)
  | 17, bs, bt, ρ, w => ρ 22 = .pointer (some ⟨gr, 4, none⟩)
  | 18, bs, bt, ρ, w => ρ 23 = .pointer (some ⟨gr, 4, none⟩)
  | 19, bs, bt, ρ, w => ρ 24 = .pointer (some ⟨gr, 0, none⟩)
  | 20, bs, bt, ρ, w => ρ 25 = .pointer (some ⟨gr, 0, none⟩)
  | 21, bs, bt, ρ, w => ρ 26 = .pointer (some ⟨gr, 4, none⟩)
  | 22, bs, bt, ρ, w => ρ 27 = .pointer (some ⟨gr, 5, none⟩)
  | 23, bs, bt, ρ, w => ρ 28 = .pointer (some ⟨gr, 0, none⟩)
  | 24, bs, bt, ρ, w => ρ 29 = .pointer (some ⟨gr, 0, none⟩)
  | 25, bs, bt, ρ, w => ρ 30 = .pointer (some ⟨gr, 6, none⟩)
  | 26, bs, bt, ρ, w => ρ 31 = .pointer (some ⟨gr, 0, none⟩)
  | 27, bs, bt, ρ, w => ρ 32 = .pointer (some ⟨gr, 0, none⟩)
  | 28, bs, bt, ρ, w => ρ 33 = .pointer (some ⟨gr, 7, none⟩)
  | 29, bs, bt, ρ, w => ρ 34 = .pointer (some ⟨gr, 0, none⟩)
  | 30, bs, bt, ρ, w => ρ 35 = .pointer (some ⟨gr, 0, none⟩)
  | 31, bs, bt, ρ, w => ρ 36 = .pointer (some ⟨gr, 8, none⟩)
  | 32, bs, bt, ρ, w => ρ 37 = .pointer (some ⟨gr, 8, none⟩)
  | 33, bs, bt, ρ, w => ρ 38 = .pointer (some ⟨gr, 0, none⟩)
  | 34, bs, bt, ρ, w => ρ 39 = .pointer (some ⟨gr, 0, none⟩)
  | 35, bs, bt, ρ, w => ρ 40 = .pointer (some ⟨gr, 8, none⟩)
  | 36, bs, bt, ρ, w => ρ 41 = .pointer (some ⟨gr, 9, none⟩)
  | 37, bs, bt, ρ, w => ρ 42 = .agg #[.pointer (some ⟨gr, 0, none⟩), .pointer (some ⟨gr, 1, none⟩), .pointer (some ⟨gr, 2, none⟩), .pointer (some ⟨gh, 0, none⟩), .pointer (some ⟨gh, 1, none⟩), .pointer (some ⟨gr, 4, none⟩), .pointer (some ⟨gr, 5, none⟩), .pointer (some ⟨gr, 6, none⟩), .pointer (some ⟨gr, 7, none⟩), .pointer (some ⟨gr, 8, none⟩), .pointer (some ⟨gr, 9, none⟩)]
  | 38, bs, bt, ρ, w => Cells w S 71 #[.pointer (some ⟨gr, 0, none⟩), .pointer (some ⟨gr, 1, none⟩), .pointer (some ⟨gr, 2, none⟩), .pointer (some ⟨gh, 0, none⟩), .pointer (some ⟨gh, 1, none⟩), .pointer (some ⟨gr, 4, none⟩), .pointer (some ⟨gr, 5, none⟩), .pointer (some ⟨gr, 6, none⟩), .pointer (some ⟨gr, 7, none⟩), .pointer (some ⟨gr, 8, none⟩), .pointer (some ⟨gr, 9, none⟩)]
  | _, _, _, _, _ => True
def PhFp_DS : List Nat := [5, 6, 7, 8, 9, 10, 11, 12, 13, 14, 15, 16, 17, 18, 19, 20, 21, 22, 23, 24, 25, 26, 27, 28, 29, 30, 31, 32, 33, 34, 35, 36, 37, 38, 39, 40, 41, 42]
def PhFp_R (i : Nat) : List Nat := ([[], [0], [0, 1], [], [3], [3, 4], [], [6], [6, 7], [], [9], [9, 10], [], [12], [12, 13], [], [15], [15, 16], [15, 16, 17], [], [19], [19, 20], [19, 20, 21], [], [23], [23, 24], [], [26], [26, 27], [], [29], [29, 30], [29, 30, 31], [], [33], [33, 34], [33, 34, 35], [0, 1, 2, 3, 4, 5, 6, 7, 8, 9, 10, 11, 12, 13, 14, 15, 16, 17, 18, 19, 20, 21, 22, 23, 24, 25, 26, 27, 28, 29, 30, 31, 32, 33, 34, 35, 36], [0, 1, 2, 3, 4, 5, 6, 7, 8, 9, 10, 11, 12, 13, 14, 15, 16, 17, 18, 19, 20, 21, 22, 23, 24, 25, 26, 27, 28, 29, 30, 31, 32, 33, 34, 35, 36, 37]] : List (List Nat)).getD i []
def PhFp_T (i : Nat) : List Nat := ([[5], [6], [7], [8], [9], [10], [11], [12], [13], [14], [15], [16], [17], [18], [19], [20], [21], [22], [23], [24], [25], [26], [27], [28], [29], [30], [31], [32], [33], [34], [35], [36], [37], [38], [39], [40], [41], [42], []] : List (List Nat)).getD i []
set_option maxRecDepth 100000 in
set_option maxHeartbeats 4000000 in
theorem PhFp_region {ops : Array Oper} {Q : Exit → Act → World → Prop} {id : Nat} {B : World} {a0 : Act} (gr gh S : Nat) (nb : Nat) (hnb : nb ≤ B.heap.size)
    (hm : Try.prog.follows .mixedOrders = true) (dep : ∀ (i : Nat) (o : Oper), ops[i]? = some o → ∀ e ∈ o.after, Region.binds .any e = true → e.on < i) (hn : ops.size = 39) (tab : tabB ops PhFp_DS PhFp_R PhFp_T = true) (hsz : 43 ≤ a0.tmps.size)
    (O0 : OpX ops 0 none (some 5) (.move (.tmp 0)))
    (O1 : OpX ops 1 none (some 6) (.nilCheck (.tmp 5)))
    (O2 : OpX ops 2 none (some 7) (.fieldAddr 30 (.tmp 6) 0))
    (O3 : OpX ops 3 none (some 8) (.move (.tmp 0)))
    (O4 : OpX ops 4 none (some 9) (.nilCheck (.tmp 8)))
    (O5 : OpX ops 5 none (some 10) (.fieldAddr 30 (.tmp 9) 1))
    (O6 : OpX ops 6 none (some 11) (.move (.tmp 0)))
    (O7 : OpX ops 7 none (some 12) (.nilCheck (.tmp 11)))
    (O8 : OpX ops 8 none (some 13) (.fieldAddr 30 (.tmp 12) 2))
    (O9 : OpX ops 9 none (some 14) (.move (.tmp 1)))
    (O10 : OpX ops 10 none (some 15) (.nilCheck (.tmp 14)))
    (O11 : OpX ops 11 none (some 16) (.fieldAddr 53 (.tmp 15) 0))
    (O12 : OpX ops 12 none (some 17) (.move (.tmp 1)))
    (O13 : OpX ops 13 none (some 18) (.nilCheck (.tmp 17)))
    (O14 : OpX ops 14 none (some 19) (.fieldAddr 53 (.tmp 18) 1))
    (O15 : OpX ops 15 none (some 20) (.move (.tmp 0)))
    (O16 : OpX ops 16 none (some 21) (.nilCheck (.tmp 20)))
    (O17 : OpX ops 17 none (some 22) (.fieldAddr 30 (.tmp 21) 4))
    (O18 : OpX ops 18 none (some 23) (.fieldAddr 26 (.tmp 22) 0))
    (O19 : OpX ops 19 none (some 24) (.move (.tmp 0)))
    (O20 : OpX ops 20 none (some 25) (.nilCheck (.tmp 24)))
    (O21 : OpX ops 21 none (some 26) (.fieldAddr 30 (.tmp 25) 4))
    (O22 : OpX ops 22 none (some 27) (.fieldAddr 26 (.tmp 26) 1))
    (O23 : OpX ops 23 none (some 28) (.move (.tmp 0)))
    (O24 : OpX ops 24 none (some 29) (.nilCheck (.tmp 28)))
    (O25 : OpX ops 25 none (some 30) (.fieldAddr 30 (.tmp 29) 5))
    (O26 : OpX ops 26 none (some 31) (.move (.tmp 0)))
    (O27 : OpX ops 27 none (some 32) (.nilCheck (.tmp 31)))
    (O28 : OpX ops 28 none (some 33) (.fieldAddr 30 (.tmp 32) 6))
    (O29 : OpX ops 29 none (some 34) (.move (.tmp 0)))
    (O30 : OpX ops 30 none (some 35) (.nilCheck (.tmp 34)))
    (O31 : OpX ops 31 none (some 36) (.fieldAddr 30 (.tmp 35) 7))
    (O32 : OpX ops 32 none (some 37) (.fieldAddr 28 (.tmp 36) 0))
    (O33 : OpX ops 33 none (some 38) (.move (.tmp 0)))
    (O34 : OpX ops 34 none (some 39) (.nilCheck (.tmp 38)))
    (O35 : OpX ops 35 none (some 40) (.fieldAddr 30 (.tmp 39) 7))
    (O36 : OpX ops 36 none (some 41) (.fieldAddr 28 (.tmp 40) 1))
    (O37 : OpX ops 37 none (some 42) (.build 71 #[(0, .tmp 7), (1, .tmp 10), (2, .tmp 13), (3, .tmp 16), (4, .tmp 19), (5, .tmp 23), (6, .tmp 27), (7, .tmp 30), (8, .tmp 33), (9, .tmp 37), (10, .tmp 41)]))
    (O38 : OpX ops 38 none none (.store 71 (.tmp 4) (.tmp 42)))
    (rr0 : env a0 0 = .pointer (some ⟨gr, 0, none⟩)) (rr1 : env a0 1 = .pointer (some ⟨gh, 0, none⟩)) (rr4 : env a0 4 = .pointer (some ⟨S, 0, none⟩)) (hgr : gr < B.heap.size) (hgh : gh < B.heap.size) (hSn : nb ≤ S) (PS : Hid (∃ cs : Array Value, Cells B.drew S 71 cs ∧ cs.size = 11))
    (fin : ∀ (u : Nat → Value) (iv : Nat → Nat × Nat) w', Below nb B w' → B.heap.size ≤ w'.heap.size → (∀ j, j < 39 → PhFp gr gh S nb j (iv j).1 (iv j).2 u w') → (∀ j, j < 39 → B.heap.size ≤ (iv j).1 ∧ (iv j).1 ≤ (iv j).2 ∧ (iv j).2 ≤ w'.heap.size) → (∀ j k, j < 39 → k < 39 → j ≠ k → (iv j).2 ≤ (iv k).1 ∨ (iv k).2 ≤ (iv j).1) → (∀ t, t ∉ PhFp_DS → u t = env a0 t) → Q .normal (puts a0 PhFp_DS u) w') :
    (Code.region id ops true).wp Try.prog Q a0 B := by
  have hlt : ∀ d ∈ PhFp_DS, d < a0.tmps.size := fun d hd => Nat.lt_of_lt_of_le ((show ∀ d ∈ PhFp_DS, d < 43 by decide) d hd) hsz
  refine wp_region_rgD nb hnb [38] (fun w => ∃ cs : Array Value, Cells w S 71 cs ∧ cs.size = 11) PS.out ?spsi (PhFp gr gh S nb) PhFp_DS PhFp_R PhFp_T hm dep tab hlt ?supp ?stab ?step (fun u iv w' b bs h r d f => fin u iv w' b bs (fun j hj => h j (by rw [hn]; exact hj)) (fun j hj => r j (by rw [hn]; exact hj)) (fun j k hj hk => d j k (by rw [hn]; exact hj) (by rw [hn]; exact hk)) f)
  case spsi =>
    intro w w' k b
    obtain ⟨cs, k1, k2⟩ := k
    exact ⟨cs, k1.below b k1.lt, k2⟩
  case supp =>
    intro i hi
    rw [hn] at hi
    rcases (by omega : i = 0 ∨ i = 1 ∨ i = 2 ∨ i = 3 ∨ i = 4 ∨ i = 5 ∨ i = 6 ∨ i = 7 ∨ i = 8 ∨ i = 9 ∨ i = 10 ∨ i = 11 ∨ i = 12 ∨ i = 13 ∨ i = 14 ∨ i = 15 ∨ i = 16 ∨ i = 17 ∨ i = 18 ∨ i = 19 ∨ i = 20 ∨ i = 21 ∨ i = 22 ∨ i = 23 ∨ i = 24 ∨ i = 25 ∨ i = 26 ∨ i = 27 ∨ i = 28 ∨ i = 29 ∨ i = 30 ∨ i = 31 ∨ i = 32 ∨ i = 33 ∨ i = 34 ∨ i = 35 ∨ i = 36 ∨ i = 37 ∨ i = 38) with rfl | rfl | rfl | rfl | rfl | rfl | rfl | rfl | rfl | rfl | rfl | rfl | rfl | rfl | rfl | rfl | rfl | rfl | rfl | rfl | rfl | rfl | rfl | rfl | rfl | rfl | rfl | rfl | rfl | rfl | rfl | rfl | rfl | rfl | rfl | rfl | rfl | rfl | rfl <;> intro bs bt ρ ρ' w h k
    · have k' : ρ 5 = .pointer (some ⟨gr, 0, none⟩) := k
      show ρ' 5 = .pointer (some ⟨gr, 0, none⟩)
      rw [h 5 (by decide)]
      exact k'
    · have k' : ρ 6 = .pointer (some ⟨gr, 0, none⟩) := k
      show ρ' 6 = .pointer (some ⟨gr, 0, none⟩)
      rw [h 6 (by decide)]
      exact k'
    · have k' : ρ 7 = .pointer (some ⟨gr, 0, none⟩) := k
      show ρ' 7 = .pointer (some ⟨gr, 0, none⟩)
      rw [h 7 (by decide)]
      exact k'
    · have k' : ρ 8 = .pointer (some ⟨gr, 0, none⟩) := k
      show ρ' 8 = .pointer (some ⟨gr, 0, none⟩)
      rw [h 8 (by decide)]
      exact k'
    · have k' : ρ 9 = .pointer (some ⟨gr, 0, none⟩) := k
      show ρ' 9 = .pointer (some ⟨gr, 0, none⟩)
      rw [h 9 (by decide)]
      exact k'
    · have k' : ρ 10 = .pointer (some ⟨gr, 1, none⟩) := k
      show ρ' 10 = .pointer (some ⟨gr, 1, none⟩)
      rw [h 10 (by decide)]
      exact k'
    · have k' : ρ 11 = .pointer (some ⟨gr, 0, none⟩) := k
      show ρ' 11 = .pointer (some ⟨gr, 0, none⟩)
      rw [h 11 (by decide)]
      exact k'
    · have k' : ρ 12 = .pointer (some ⟨gr, 0, none⟩) := k
      show ρ' 12 = .pointer (some ⟨gr, 0, none⟩)
      rw [h 12 (by decide)]
      exact k'
    · have k' : ρ 13 = .pointer (some ⟨gr, 2, none⟩) := k
      show ρ' 13 = .pointer (some ⟨gr, 2, none⟩)
      rw [h 13 (by decide)]
      exact k'
    · have k' : ρ 14 = .pointer (some ⟨gh, 0, none⟩) := k
      show ρ' 14 = .pointer (some ⟨gh, 0, none⟩)
      rw [h 14 (by decide)]
      exact k'
    · have k' : ρ 15 = .pointer (some ⟨gh, 0, none⟩) := k
      show ρ' 15 = .pointer (some ⟨gh, 0, none⟩)
      rw [h 15 (by decide)]
      exact k'
    · have k' : ρ 16 = .pointer (some ⟨gh, 0, none⟩) := k
      show ρ' 16 = .pointer (some ⟨gh, 0, none⟩)
      rw [h 16 (by decide)]
      exact k'
    · have k' : ρ 17 = .pointer (some ⟨gh, 0, none⟩) := k
      show ρ' 17 = .pointer (some ⟨gh, 0, none⟩)
      rw [h 17 (by decide)]
      exact k'
    · have k' : ρ 18 = .pointer (some ⟨gh, 0, none⟩) := k
      show ρ' 18 = .pointer (some ⟨gh, 0, none⟩)
      rw [h 18 (by decide)]
      exact k'
    · have k' : ρ 19 = .pointer (some ⟨gh, 1, none⟩) := k
      show ρ' 19 = .pointer (some ⟨gh, 1, none⟩)
      rw [h 19 (by decide)]
      exact k'
    · have k' : ρ 20 = .pointer (some ⟨gr, 0, none⟩) := k
      show ρ' 20 = .pointer (some ⟨gr, 0, none⟩)
      rw [h 20 (by decide)]
      exact k'
    · have k' : ρ 21 = .pointer (some ⟨gr, 0, none⟩) := k
      show ρ' 21 = .pointer (some ⟨gr, 0, none⟩)
      rw [h 21 (by decide)]
      exact k'
    · have k' : ρ 22 = .pointer (some ⟨gr, 4, none⟩) := k
      show ρ' 22 = .pointer (some ⟨gr, 4, none⟩)
      rw [h 22 (by decide)]
      exact k'
    · have k' : ρ 23 = .pointer (some ⟨gr, 4, none⟩) := k
      show ρ' 23 = .pointer (some ⟨gr, 4, none⟩)
      rw [h 23 (by decide)]
      exact k'
    · have k' : ρ 24 = .pointer (some ⟨gr, 0, none⟩) := k
      show ρ' 24 = .pointer (some ⟨gr, 0, none⟩)
      rw [h 24 (by decide)]
      exact k'
    · have k' : ρ 25 = .pointer (some ⟨gr, 0, none⟩) := k
      show ρ' 25 = .pointer (some ⟨gr, 0, none⟩)
      rw [h 25 (by decide)]
      exact k'
    · have k' : ρ 26 = .pointer (some ⟨gr, 4, none⟩) := k
      show ρ' 26 = .pointer (some ⟨gr, 4, none⟩)
      rw [h 26 (by decide)]
      exact k'
    · have k' : ρ 27 = .pointer (some ⟨gr, 5, none⟩) := k
      show ρ' 27 = .pointer (some ⟨gr, 5, none⟩)
      rw [h 27 (by decide)]
      exact k'
    · have k' : ρ 28 = .pointer (some ⟨gr, 0, none⟩) := k
      show ρ' 28 = .pointer (some ⟨gr, 0, none⟩)
      rw [h 28 (by decide)]
      exact k'
    · have k' : ρ 29 = .pointer (some ⟨gr, 0, none⟩) := k
      show ρ' 29 = .pointer (some ⟨gr, 0, none⟩)
      rw [h 29 (by decide)]
      exact k'
    · have k' : ρ 30 = .pointer (some ⟨gr, 6, none⟩) := k
      show ρ' 30 = .pointer (some ⟨gr, 6, none⟩)
      rw [h 30 (by decide)]
      exact k'
    · have k' : ρ 31 = .pointer (some ⟨gr, 0, none⟩) := k
      show ρ' 31 = .pointer (some ⟨gr, 0, none⟩)
      rw [h 31 (by decide)]
      exact k'
    · have k' : ρ 32 = .pointer (some ⟨gr, 0, none⟩) := k
      show ρ' 32 = .pointer (some ⟨gr, 0, none⟩)
      rw [h 32 (by decide)]
      exact k'
    · have k' : ρ 33 = .pointer (some ⟨gr, 7, none⟩) := k
      show ρ' 33 = .pointer (some ⟨gr, 7, none⟩)
      rw [h 33 (by decide)]
      exact k'
    · have k' : ρ 34 = .pointer (some ⟨gr, 0, none⟩) := k
      show ρ' 34 = .pointer (some ⟨gr, 0, none⟩)
      rw [h 34 (by decide)]
      exact k'
    · have k' : ρ 35 = .pointer (some ⟨gr, 0, none⟩) := k
      show ρ' 35 = .pointer (some ⟨gr, 0, none⟩)
      rw [h 35 (by decide)]
      exact k'
    · have k' : ρ 36 = .pointer (some ⟨gr, 8, none⟩) := k
      show ρ' 36 = .pointer (some ⟨gr, 8, none⟩)
      rw [h 36 (by decide)]
      exact k'
    · have k' : ρ 37 = .pointer (some ⟨gr, 8, none⟩) := k
      show ρ' 37 = .pointer (some ⟨gr, 8, none⟩)
      rw [h 37 (by decide)]
      exact k'
    · have k' : ρ 38 = .pointer (some ⟨gr, 0, none⟩) := k
      show ρ' 38 = .pointer (some ⟨gr, 0, none⟩)
      rw [h 38 (by decide)]
      exact k'
    · have k' : ρ 39 = .pointer (some ⟨gr, 0, none⟩) := k
      show ρ' 39 = .pointer (some ⟨gr, 0, none⟩)
      rw [h 39 (by decide)]
      exact k'
    · have k' : ρ 40 = .pointer (some ⟨gr, 8, none⟩) := k
      show ρ' 40 = .pointer (some ⟨gr, 8, none⟩)
      rw [h 40 (by decide)]
      exact k'
    · have k' : ρ 41 = .pointer (some ⟨gr, 9, none⟩) := k
      show ρ' 41 = .pointer (some ⟨gr, 9, none⟩)
      rw [h 41 (by decide)]
      exact k'
    · have k' : ρ 42 = .agg #[.pointer (some ⟨gr, 0, none⟩), .pointer (some ⟨gr, 1, none⟩), .pointer (some ⟨gr, 2, none⟩), .pointer (some ⟨gh, 0, none⟩), .pointer (some ⟨gh, 1, none⟩), .pointer (some ⟨gr, 4, none⟩), .pointer (some ⟨gr, 5, none⟩), .pointer (some ⟨gr, 6, none⟩), .pointer (some ⟨gr, 7, none⟩), .pointer (some ⟨gr, 8, none⟩), .pointer (some ⟨gr, 9, none⟩)] := k
      show ρ' 42 = .agg #[.pointer (some ⟨gr, 0, none⟩), .pointer (some ⟨gr, 1, none⟩), .pointer (some ⟨gr, 2, none⟩), .pointer (some ⟨gh, 0, none⟩), .pointer (some ⟨gh, 1, none⟩), .pointer (some ⟨gr, 4, none⟩), .pointer (some ⟨gr, 5, none⟩), .pointer (some ⟨gr, 6, none⟩), .pointer (some ⟨gr, 7, none⟩), .pointer (some ⟨gr, 8, none⟩), .pointer (some ⟨gr, 9, none⟩)]
      rw [h 42 (by decide)]
      exact k'
    · have k' : Cells w S 71 #[.pointer (some ⟨gr, 0, none⟩), .pointer (some ⟨gr, 1, none⟩), .pointer (some ⟨gr, 2, none⟩), .pointer (some ⟨gh, 0, none⟩), .pointer (some ⟨gh, 1, none⟩), .pointer (some ⟨gr, 4, none⟩), .pointer (some ⟨gr, 5, none⟩), .pointer (some ⟨gr, 6, none⟩), .pointer (some ⟨gr, 7, none⟩), .pointer (some ⟨gr, 8, none⟩), .pointer (some ⟨gr, 9, none⟩)] := k
      show Cells w S 71 #[.pointer (some ⟨gr, 0, none⟩), .pointer (some ⟨gr, 1, none⟩), .pointer (some ⟨gr, 2, none⟩), .pointer (some ⟨gh, 0, none⟩), .pointer (some ⟨gh, 1, none⟩), .pointer (some ⟨gr, 4, none⟩), .pointer (some ⟨gr, 5, none⟩), .pointer (some ⟨gr, 6, none⟩), .pointer (some ⟨gr, 7, none⟩), .pointer (some ⟨gr, 8, none⟩), .pointer (some ⟨gr, 9, none⟩)]
      exact k'
  case stab =>
    intro i hi
    rw [hn] at hi
    rcases (by omega : i = 0 ∨ i = 1 ∨ i = 2 ∨ i = 3 ∨ i = 4 ∨ i = 5 ∨ i = 6 ∨ i = 7 ∨ i = 8 ∨ i = 9 ∨ i = 10 ∨ i = 11 ∨ i = 12 ∨ i = 13 ∨ i = 14 ∨ i = 15 ∨ i = 16 ∨ i = 17 ∨ i = 18 ∨ i = 19 ∨ i = 20 ∨ i = 21 ∨ i = 22 ∨ i = 23 ∨ i = 24 ∨ i = 25 ∨ i = 26 ∨ i = 27 ∨ i = 28 ∨ i = 29 ∨ i = 30 ∨ i = 31 ∨ i = 32 ∨ i = 33 ∨ i = 34 ∨ i = 35 ∨ i = 36 ∨ i = 37 ∨ i = 38) with rfl | rfl | rfl | rfl | rfl | rfl | rfl | rfl | rfl | rfl | rfl | rfl | rfl | rfl | rfl | rfl | rfl | rfl | rfl | rfl | rfl | rfl | rfl | rfl | rfl | rfl | rfl | rfl | rfl | rfl | rfl | rfl | rfl | rfl | rfl | rfl | rfl | rfl | rfl <;> intro bs bt ρ w w' hbt k b
    · have k' : ρ 5 = .pointer (some ⟨gr, 0, none⟩) := k
      exact k'
    · have k' : ρ 6 = .pointer (some ⟨gr, 0, none⟩) := k
      exact k'
    · have k' : ρ 7 = .pointer (some ⟨gr, 0, none⟩) := k
      exact k'
    · have k' : ρ 8 = .pointer (some ⟨gr, 0, none⟩) := k
      exact k'
    · have k' : ρ 9 = .pointer (some ⟨gr, 0, none⟩) := k
      exact k'
    · have k' : ρ 10 = .pointer (some ⟨gr, 1, none⟩) := k
      exact k'
    · have k' : ρ 11 = .pointer (some ⟨gr, 0, none⟩) := k
      exact k'
    · have k' : ρ 12 = .pointer (some ⟨gr, 0, none⟩) := k
      exact k'
    · have k' : ρ 13 = .pointer (some ⟨gr, 2, none⟩) := k
      exact k'
    · have k' : ρ 14 = .pointer (some ⟨gh, 0, none⟩) := k
      exact k'
    · have k' : ρ 15 = .pointer (some ⟨gh, 0, none⟩) := k
      exact k'
    · have k' : ρ 16 = .pointer (some ⟨gh, 0, none⟩) := k
      exact k'
    · have k' : ρ 17 = .pointer (some ⟨gh, 0, none⟩) := k
      exact k'
    · have k' : ρ 18 = .pointer (some ⟨gh, 0, none⟩) := k
      exact k'
    · have k' : ρ 19 = .pointer (some ⟨gh, 1, none⟩) := k
      exact k'
    · have k' : ρ 20 = .pointer (some ⟨gr, 0, none⟩) := k
      exact k'
    · have k' : ρ 21 = .pointer (some ⟨gr, 0, none⟩) := k
      exact k'
    · have k' : ρ 22 = .pointer (some ⟨gr, 4, none⟩) := k
      exact k'
    · have k' : ρ 23 = .pointer (some ⟨gr, 4, none⟩) := k
      exact k'
    · have k' : ρ 24 = .pointer (some ⟨gr, 0, none⟩) := k
      exact k'
    · have k' : ρ 25 = .pointer (some ⟨gr, 0, none⟩) := k
      exact k'
    · have k' : ρ 26 = .pointer (some ⟨gr, 4, none⟩) := k
      exact k'
    · have k' : ρ 27 = .pointer (some ⟨gr, 5, none⟩) := k
      exact k'
    · have k' : ρ 28 = .pointer (some ⟨gr, 0, none⟩) := k
      exact k'
    · have k' : ρ 29 = .pointer (some ⟨gr, 0, none⟩) := k
      exact k'
    · have k' : ρ 30 = .pointer (some ⟨gr, 6, none⟩) := k
      exact k'
    · have k' : ρ 31 = .pointer (some ⟨gr, 0, none⟩) := k
      exact k'
    · have k' : ρ 32 = .pointer (some ⟨gr, 0, none⟩) := k
      exact k'
    · have k' : ρ 33 = .pointer (some ⟨gr, 7, none⟩) := k
      exact k'
    · have k' : ρ 34 = .pointer (some ⟨gr, 0, none⟩) := k
      exact k'
    · have k' : ρ 35 = .pointer (some ⟨gr, 0, none⟩) := k
      exact k'
    · have k' : ρ 36 = .pointer (some ⟨gr, 8, none⟩) := k
      exact k'
    · have k' : ρ 37 = .pointer (some ⟨gr, 8, none⟩) := k
      exact k'
    · have k' : ρ 38 = .pointer (some ⟨gr, 0, none⟩) := k
      exact k'
    · have k' : ρ 39 = .pointer (some ⟨gr, 0, none⟩) := k
      exact k'
    · have k' : ρ 40 = .pointer (some ⟨gr, 8, none⟩) := k
      exact k'
    · have k' : ρ 41 = .pointer (some ⟨gr, 9, none⟩) := k
      exact k'
    · have k' : ρ 42 = .agg #[.pointer (some ⟨gr, 0, none⟩), .pointer (some ⟨gr, 1, none⟩), .pointer (some ⟨gr, 2, none⟩), .pointer (some ⟨gh, 0, none⟩), .pointer (some ⟨gh, 1, none⟩), .pointer (some ⟨gr, 4, none⟩), .pointer (some ⟨gr, 5, none⟩), .pointer (some ⟨gr, 6, none⟩), .pointer (some ⟨gr, 7, none⟩), .pointer (some ⟨gr, 8, none⟩), .pointer (some ⟨gr, 9, none⟩)] := k
      exact k'
    · exact k.below b k.lt
  case step =>
    intro i hi
    rw [hn] at hi
    rcases (by omega : i = 0 ∨ i = 1 ∨ i = 2 ∨ i = 3 ∨ i = 4 ∨ i = 5 ∨ i = 6 ∨ i = 7 ∨ i = 8 ∨ i = 9 ∨ i = 10 ∨ i = 11 ∨ i = 12 ∨ i = 13 ∨ i = 14 ∨ i = 15 ∨ i = 16 ∨ i = 17 ∨ i = 18 ∨ i = 19 ∨ i = 20 ∨ i = 21 ∨ i = 22 ∨ i = 23 ∨ i = 24 ∨ i = 25 ∨ i = 26 ∨ i = 27 ∨ i = 28 ∨ i = 29 ∨ i = 30 ∨ i = 31 ∨ i = 32 ∨ i = 33 ∨ i = 34 ∨ i = 35 ∨ i = 36 ∨ i = 37 ∨ i = 38) with rfl | rfl | rfl | rfl | rfl | rfl | rfl | rfl | rfl | rfl | rfl | rfl | rfl | rfl | rfl | rfl | rfl | rfl | rfl | rfl | rfl | rfl | rfl | rfl | rfl | rfl | rfl | rfl | rfl | rfl | rfl | rfl | rfl | rfl | rfl | rfl | rfl | rfl | rfl <;> intro L iv a w hLi hs hb hbs hps hf hr hall hra hdi
    · obtain ⟨o, ho, hg, hd, hop⟩ := O0
      clear O1 O2 O3 O4 O5 O6 O7 O8 O9 O10 O11 O12 O13 O14 O15 O16 O17 O18 O19 O20 O21 O22 O23 O24 O25 O26 O27 O28 O29 O30 O31 O32 O33 O34 O35 O36 O37 O38 fin dep
      have r0 : a.eval (.tmp 0) = .pointer (some ⟨gr, 0, none⟩) := (hf 0 (fun k o ho e => absurd (tab_T tab ho e).1 (by decide))).trans rr0
      have ec : ∀ v, a.eval (.const v) = v := fun _ => rfl
      have ef : ∀ f, a.eval (.func f) = .func (.func f) #[] #[] := fun _ => rfl
      refine wpOp_of ho hg (wp_val (v := .pointer (some ⟨gr, 0, none⟩)) (w' := w) ?_ ⟨_, by rw [ho]; rfl, by rw [hd]; exact env_put_same (by rw [hs]; exact hlt _ (by decide)), .inl (Below.refl _ _)⟩)
      clear hr hall hra hdi hf
      generalize a.eval = ρ at ec ef r0 ⊢
      simp [go_sem, execOp, hop, ec, ef, r0]
    · obtain ⟨o, ho, hg, hd, hop⟩ := O1
      clear O0 O2 O3 O4 O5 O6 O7 O8 O9 O10 O11 O12 O13 O14 O15 O16 O17 O18 O19 O20 O21 O22 O23 O24 O25 O26 O27 O28 O29 O30 O31 O32 O33 O34 O35 O36 O37 O38 fin dep
      have d0 : a.eval (.tmp 5) = .pointer (some ⟨gr, 0, none⟩) := (hr 0 (by decide)).2
      have flt : gr < w.heap.size := Nat.lt_of_lt_of_le hgr hbs
      have ec : ∀ v, a.eval (.const v) = v := fun _ => rfl
      have ef : ∀ f, a.eval (.func f) = .func (.func f) #[] #[] := fun _ => rfl
      refine wpOp_of ho hg (wp_val (v := .pointer (some ⟨gr, 0, none⟩)) (w' := w) ?_ ⟨_, by rw [ho]; rfl, by rw [hd]; exact env_put_same (by rw [hs]; exact hlt _ (by decide)), .inl (Below.refl _ _)⟩)
      clear hr hall hra hdi hf
      generalize a.eval = ρ at ec ef d0 ⊢
      simp [go_sem, execOp, hop, ec, ef, d0, flt]
    · obtain ⟨o, ho, hg, hd, hop⟩ := O2
      clear O0 O1 O3 O4 O5 O6 O7 O8 O9 O10 O11 O12 O13 O14 O15 O16 O17 O18 O19 O20 O21 O22 O23 O24 O25 O26 O27 O28 O29 O30 O31 O32 O33 O34 O35 O36 O37 O38 fin dep
      have d1 : a.eval (.tmp 6) = .pointer (some ⟨gr, 0, none⟩) := (hr 1 (by decide)).2
      have flt : gr < w.heap.size := Nat.lt_of_lt_of_le hgr hbs
      have ec : ∀ v, a.eval (.const v) = v := fun _ => rfl
      have ef : ∀ f, a.eval (.func f) = .func (.func f) #[] #[] := fun _ => rfl
      refine wpOp_of ho hg (wp_val (v := .pointer (some ⟨gr, 0, none⟩)) (w' := w) ?_ ⟨_, by rw [ho]; rfl, by rw [hd]; exact env_put_same (by rw [hs]; exact hlt _ (by decide)), .inl (Below.refl _ _)⟩)
      clear hr hall hra hdi hf
      generalize a.eval = ρ at ec ef d1 ⊢
      simp [go_sem, execOp, hop, ec, ef, d1, flt]
    · obtain ⟨o, ho, hg, hd, hop⟩ := O3
      clear O0 O1 O2 O4 O5 O6 O7 O8 O9 O10 O11 O12 O13 O14 O15 O16 O17 O18 O19 O20 O21 O22 O23 O24 O25 O26 O27 O28 O29 O30 O31 O32 O33 O34 O35 O36 O37 O38 fin dep
      have r0 : a.eval (.tmp 0) = .pointer (some ⟨gr, 0, none⟩) := (hf 0 (fun k o ho e => absurd (tab_T tab ho e).1 (by decide))).trans rr0
      have ec : ∀ v, a.eval (.const v) = v := fun _ => rfl
      have ef : ∀ f, a.eval (.func f) = .func (.func f) #[] #[] := fun _ => rfl
      refine wpOp_of ho hg (wp_val (v := .pointer (some ⟨gr, 0, none⟩)) (w' := w) ?_ ⟨_, by rw [ho]; rfl, by rw [hd]; exact env_put_same (by rw [hs]; exact hlt _ (by decide)), .inl (Below.refl _ _)⟩)
      clear hr hall hra hdi hf
      generalize a.eval = ρ at ec ef r0 ⊢
      simp [go_sem, execOp, hop, ec, ef, r0]
    · obtain ⟨o, ho, hg, hd, hop⟩ := O4
      clear O0 O1 O2 O3 O5 O6 O7 O8 O9 O10 O11 O12 O13 O14 O15 O16 O17 O18 O19 O20 O21 O22 O23 O24 O25 O26 O27 O28 O29 O30 O31 O32 O33 O34 O35 O36 O37 O38 fin dep
      have d3 : a.eval (.tmp 8) = .pointer (some ⟨gr, 0, none⟩) := (hr 3 (by decide)).2
      have flt : gr < w.heap.size := Nat.lt_of_lt_of_le hgr hbs
      have ec : ∀ v, a.eval (.const v) = v := fun _ => rfl
      have ef : ∀ f, a.eval (.func f) = .func (.func f) #[] #[] := fun _ => rfl
      refine wpOp_of ho hg (wp_val (v := .pointer (some ⟨gr, 0, none⟩)) (w' := w) ?_ ⟨_, by rw [ho]; rfl, by rw [hd]; exact env_put_same (by rw [hs]; exact hlt _ (by decide)), .inl (Below.refl _ _)⟩)
      clear hr hall hra hdi hf
      generalize a.eval = ρ at ec ef d3 ⊢
      simp [go_sem, execOp, hop, ec, ef, d3, flt]
    · obtain ⟨o, ho, hg, hd, hop⟩ := O5
      clear O0 O1 O2 O3 O4 O6 O7 O8 O9 O10 O11 O12 O13 O14 O15 O16 O17 O18 O19 O20 O21 O22 O23 O24 O25 O26 O27 O28 O29 O30 O31 O32 O33 O34 O35 O36 O37 O38 fin dep
      have d4 : a.eval (.tmp 9) = .pointer (some ⟨gr, 0, none⟩) := (hr 4 (by decide)).2
      have flt : gr < w.heap.size := Nat.lt_of_lt_of_le hgr hbs
      have ec : ∀ v, a.eval (.const v) = v := fun _ => rfl
      have ef : ∀ f, a.eval (.func f) = .func (.func f) #[] #[] := fun _ => rfl
      refine wpOp_of ho hg (wp_val (v := .pointer (some ⟨gr, 1, none⟩)) (w' := w) ?_ ⟨_, by rw [ho]; rfl, by rw [hd]; exact env_put_same (by rw [hs]; exact hlt _ (by decide)), .inl (Below.refl _ _)⟩)
      clear hr hall hra hdi hf
      generalize a.eval = ρ at ec ef d4 ⊢
      simp [go_sem, execOp, hop, ec, ef, d4, flt]
    · obtain ⟨o, ho, hg, hd, hop⟩ := O6
      clear O0 O1 O2 O3 O4 O5 O7 O8 O9 O10 O11 O12 O13 O14 O15 O16 O17 O18 O19 O20 O21 O22 O23 O24 O25 O26 O27 O28 O29 O30 O31 O32 O33 O34 O35 O36 O37 O38 fin dep
      have r0 : a.eval (.tmp 0) = .pointer (some ⟨gr, 0, none⟩) := (hf 0 (fun k o ho e => absurd (tab_T tab ho e).1 (by decide))).trans rr0
      have ec : ∀ v, a.eval (.const v) = v := fun _ => rfl
      have ef : ∀ f, a.eval (.func f) = .func (.func f) #[] #[] := fun _ => rfl
      refine wpOp_of ho hg (wp_val (v := .pointer (some ⟨gr, 0, none⟩)) (w' := w) ?_ ⟨_, by rw [ho]; rfl, by rw [hd]; exact env_put_same (by rw [hs]; exact hlt _ (by decide)), .inl (Below.refl _ _)⟩)
      clear hr hall hra hdi hf
      generalize a.eval = ρ at ec ef r0 ⊢
      simp [go_sem, execOp, hop, ec, ef, r0]
    · obtain ⟨o, ho, hg, hd, hop⟩ := O7
      clear O0 O1 O2 O3 O4 O5 O6 O8 O9 O10 O11 O12 O13 O14 O15 O16 O17 O18 O19 O20 O21 O22 O23 O24 O25 O26 O27 O28 O29 O30 O31 O32 O33 O34 O35 O36 O37 O38 fin dep
      have d6 : a.eval (.tmp 11) = .pointer (some ⟨gr, 0, none⟩) := (hr 6 (by decide)).2
      have flt : gr < w.heap.size := Nat.lt_of_lt_of_le hgr hbs
      have ec : ∀ v, a.eval (.const v) = v := fun _ => rfl
      have ef : ∀ f, a.eval (.func f) = .func (.func f) #[] #[] := fun _ => rfl
      refine wpOp_of ho hg (wp_val (v := .pointer (some ⟨gr, 0, none⟩)) (w' := w) ?_ ⟨_, by rw [ho]; rfl, by rw [hd]; exact env_put_same (by rw [hs]; exact hlt _ (by decide)), .inl (Below.refl _ _)⟩)
      clear hr hall hra hdi hf
      generalize a.eval = ρ at ec ef d6 ⊢
      simp [go_sem, execOp, hop, ec, ef, d6, flt]
    · obtain ⟨o, ho, hg, hd, hop⟩ := O8
      clear O0 O1 O2 O3 O4 O5 O6 O7 O9 O10 O11 O12 O13 O14 O15 O16 O17 O18 O19 O20 O21 O22 O23 O24 O25 O26 O27 O28 O29 O30 O31 O32 O33 O34 O35 O36 O37 O38 fin dep
      have d7 : a.eval (.tmp 12) = .pointer (some ⟨gr, 0, none⟩) := (hr 7 (by decide)).2
      have flt : gr < w.heap.size := Nat.lt_of_lt_of_le hgr hbs
      have ec : ∀ v, a.eval (.const v) = v := fun _ => rfl
      have ef : ∀ f, a.eval (.func f) = .func (.func f) #[] #[] := fun _ => rfl
      refine wpOp_of ho hg (wp_val (v := .pointer (some ⟨gr, 2, none⟩)) (w' := w) ?_ ⟨_, by rw [ho]; rfl, by rw [hd]; exact env_put_same (by rw [hs]; exact hlt _ (by decide)), .inl (Below.refl _ _)⟩)
      clear hr hall hra hdi hf
      generalize a.eval = ρ at ec ef d7 ⊢
      simp [go_sem, execOp, hop, ec, ef, d7, flt]
    · obtain ⟨o, ho, hg, hd, hop⟩ := O9
      clear O0 O1 O2 O3 O4 O5 O6 O7 O8 O10 O11 O12 O13 O14 O15 O16 O17 O18 O19 O20 O21 O22 O23 O24 O25 O26 O27 O28 O29 O30 O31 O32 O33 O34 O35 O36 O37 O38 fin dep
      have r1 : a.eval (.tmp 1) = .pointer (some ⟨gh, 0, none⟩) := (hf 1 (fun k o ho e => absurd (tab_T tab ho e).1 (by decide))).trans rr1
      have ec : ∀ v, a.eval (.const v) = v := fun _ => rfl
      have ef : ∀ f, a.eval (.func f) = .func (.func f) #[] #[] := fun _ => rfl
      refine wpOp_of ho hg (wp_val (v := .pointer (some ⟨gh, 0, none⟩)) (w' := w) ?_ ⟨_, by rw [ho]; rfl, by rw [hd]; exact env_put_same (by rw [hs]; exact hlt _ (by decide)), .inl (Below.refl _ _)⟩)
      clear hr hall hra hdi hf
      generalize a.eval = ρ at ec ef r1 ⊢
      simp [go_sem, execOp, hop, ec, ef, r1]
    · obtain ⟨o, ho, hg, hd, hop⟩ := O10
      clear O0 O1 O2 O3 O4 O5 O6 O7 O8 O9 O11 O12 O13 O14 O15 O16 O17 O18 O19 O20 O21 O22 O23 O24 O25 O26 O27 O28 O29 O30 O31 O32 O33 O34 O35 O36 O37 O38 fin dep
      have d9 : a.eval (.tmp 14) = .pointer (some ⟨gh, 0, none⟩) := (hr 9 (by decide)).2
      have flt : gh < w.heap.size := Nat.lt_of_lt_of_le hgh hbs
      have ec : ∀ v, a.eval (.const v) = v := fun _ => rfl
      have ef : ∀ f, a.eval (.func f) = .func (.func f) #[] #[] := fun _ => rfl
      refine wpOp_of ho hg (wp_val (v := .pointer (some ⟨gh, 0, none⟩)) (w' := w) ?_ ⟨_, by rw [ho]; rfl, by rw [hd]; exact env_put_same (by rw [hs]; exact hlt _ (by decide)), .inl (Below.refl _ _)⟩)
      clear hr hall hra hdi hf
      generalize a.eval = ρ at ec ef d9 ⊢
      simp [go_sem, execOp, hop, ec, ef, d9, flt]
    · obtain ⟨o, ho, hg, hd, hop⟩ := O11
      clear O0 O1 O2 O3 O4 O5 O6 O7 O8 O9 O10 O12 O13 O14 O15 O16 O17 O18 O19 O20 O21 O22 O23 O24 O25 O26 O27 O28 O29 O30 O31 O32 O33 O34 O35 O36 O37 O38 fin dep
      have d10 : a.eval (.tmp 15) = .pointer (some ⟨gh, 0, none⟩) := (hr 10 (by decide)).2
      have flt : gh < w.heap.size := Nat.lt_of_lt_of_le hgh hbs
      have ec : ∀ v, a.eval (.const v) = v := fun _ => rfl
      have ef : ∀ f, a.eval (.func f) = .func (.func f) #[] #[] := fun _ => rfl
      refine wpOp_of ho hg (wp_val (v := .pointer (some ⟨gh, 0, none⟩)) (w' := w) ?_ ⟨_, by rw [ho]; rfl, by rw [hd]; exact env_put_same (by rw [hs]; exact hlt _ (by decide)), .inl (Below.refl _ _)⟩)
      clear hr hall hra hdi hf
      generalize a.eval = ρ at ec ef d10 ⊢
      simp [go_sem, execOp, hop, ec, ef, d10, flt]
    · obtain ⟨o, ho, hg, hd, hop⟩ := O12
      clear O0 O1 O2 O3 O4 O5 O6 O7 O8 O9 O10 O11 O13 O14 O15 O16 O17 O18 O19 O20 O21 O22 O23 O24 O25 O26 O27 O28 O29 O30 O31 O32 O33 O34 O35 O36 O37 O38 fin dep
      have r1 : a.eval (.tmp 1) = .pointer (some ⟨gh, 0, none⟩) := (hf 1 (fun k o ho e => absurd (tab_T tab ho e).1 (by decide))).trans rr1
      have ec : ∀ v, a.eval (.const v) = v := fun _ => rfl
      have ef : ∀ f, a.eval (.func f) = .func (.func f) #[] #[] := fun _ => rfl
      refine wpOp_of ho hg (wp_val (v := .pointer (some ⟨gh, 0, none⟩)) (w' := w) ?_ ⟨_, by rw [ho]; rfl, by rw [hd]; exact env_put_same (by rw [hs]; exact hlt _ (by decide)), .inl (Below.refl _ _)⟩)
      clear hr hall hra hdi hf
      generalize a.eval = ρ at ec ef r1 ⊢
      simp [go_sem, execOp, hop, ec, ef, r1]
    · obtain ⟨o, ho, hg, hd, hop⟩ := O13
      clear O0 O1 O2 O3 O4 O5 O6 O7 O8 O9 O10 O11 O12 O14 O15 O16 O17 O18 O19 O20 O21 O22 O23 O24 O25 O26 O27 O28 O29 O30 O31 O32 O33 O34 O35 O36 O37 O38 fin dep
      have d12 : a.eval (.tmp 17) = .pointer (some ⟨gh, 0, none⟩) := (hr 12 (by decide)).2
      have flt : gh < w.heap.size := Nat.lt_of_lt_of_le hgh hbs
      have ec : ∀ v, a.eval (.const v) = v := fun _ => rfl
      have ef : ∀ f, a.eval (.func f) = .func (.func f) #[] #[] := fun _ => rfl
      refine wpOp_of ho hg (wp_val (v := .pointer (some ⟨gh, 0, none⟩)) (w' := w) ?_ ⟨_, by rw [ho]; rfl, by rw [hd]; exact env_put_same (by rw [hs]; exact hlt _ (by decide)), .inl (Below.refl _ _)⟩)
      clear hr hall hra hdi hf
      generalize a.eval = ρ at ec ef d12 ⊢
      simp [go_sem, execOp, hop, ec, ef, d12, flt]
    · obtain ⟨o, ho, hg, hd, hop⟩ := O14
      clear O0 O1 O2 O3 O4 O5 O6 O7 O8 O9 O10 O11 O12 O13 O15 O16 O17 O18 O19 O20 O21 O22 O23 O24 O25 O26 O27 O28 O29 O30 O31 O32 O33 O34 O35 O36 O37 O38 fin dep
      have d13 : a.eval (.tmp 18) = .pointer (some ⟨gh, 0, none⟩) := (hr 13 (by decide)).2
      have flt : gh < w.heap.size := Nat.lt_of_lt_of_le hgh hbs
      have ec : ∀ v, a.eval (.const v) = v := fun _ => rfl
      have ef : ∀ f, a.eval (.func f) = .func (.func f) #[] #[] := fun _ => rfl
      refine wpOp_of ho hg (wp_val (v := .pointer (some ⟨gh, 1, none⟩)) (w' := w) ?_ ⟨_, by rw [ho]; rfl, by rw [hd]; exact env_put_same (by rw [hs]; exact hlt _ (by decide)), .inl (Below.refl _ _)⟩)
      clear hr hall hra hdi hf
      generalize a.eval = ρ at ec ef d13 ⊢
      simp [go_sem, execOp, hop, ec, ef, d13, flt]
    · obtain ⟨o, ho, hg, hd, hop⟩ := O15
      clear O0 O1 O2 O3 O4 O5 O6 O7 O8 O9 O10 O11 O12 O13 O14 O16 O17 O18 O19 O20 O21 O22 O23 O24 O25 O26 O27 O28 O29 O30 O31 O32 O33 O34 O35 O36 O37 O38 fin dep
      have r0 : a.eval (.tmp 0) = .pointer (some ⟨gr, 0, none⟩) := (hf 0 (fun k o ho e => absurd (tab_T tab ho e).1 (by decide))).trans rr0
      have ec : ∀ v, a.eval (.const v) = v := fun _ => rfl
      have ef : ∀ f, a.eval (.func f) = .func (.func f) #[] #[] := fun _ => rfl
      refine wpOp_of ho hg (wp_val (v := .pointer (some ⟨gr, 0, none⟩)) (w' := w) ?_ ⟨_, by rw [ho]; rfl, by rw [hd]; exact env_put_same (by rw [hs]; exact hlt _ (by decide)), .inl (Below.refl _ _)⟩)
      clear hr hall hra hdi hf
      generalize a.eval = ρ at ec ef r0 ⊢
      simp [go_sem, execOp, hop, ec, ef, r0]
    · obtain ⟨o, ho, hg, hd, hop⟩ := O16
      clear O0 O1 O2 O3 O4 O5 O6 O7 O8 O9 O10 O11 O12 O13 O14 O15 O17 O18 O19 O20 O21 O22 O23 O24 O25 O26 O27 O28 O29 O30 O31 O32 O33 O34 O35 O36 O37 O38 fin dep
      have d15 : a.eval (.tmp 20) = .pointer (some ⟨gr, 0, none⟩) := (hr 15 (by decide)).2
      have flt : gr < w.heap.size := Nat.lt_of_lt_of_le hgr hbs
      have ec : ∀ v, a.eval (.const v) = v := fun _ => rfl
      have ef : ∀ f, a.eval (.func f) = .func (.func f) #[] #[] := fun _ => rfl
      refine wpOp_of ho hg (wp_val (v := .pointer (some ⟨gr, 0, none⟩)) (w' := w) ?_ ⟨_, by rw [ho]; rfl, by rw [hd]; exact env_put_same (by rw [hs]; exact hlt _ (by decide)), .inl (Below.refl _ _)⟩)
      clear hr hall hra hdi hf
      generalize a.eval = ρ at ec ef d15 ⊢
      simp [go_sem, execOp, hop, ec, ef, d15, flt]
    · obtain ⟨o, ho, hg, hd, hop⟩ := O17
      clear O0 O1 O2 O3 O4 O5 O6 O7 O8 O9 O10 O11 O12 O13 O14 O15 O16 O18 O19 O20 O21 O22 O23 O24 O25 O26 O27 O28 O29 O30 O31 O32 O33 O34 O35 O36 O37 O38 fin dep
      have d16 : a.eval (.tmp 21) = .pointer (some ⟨gr, 0, none⟩) := (hr 16 (by decide)).2
      have flt : gr < w.heap.size := Nat.lt_of_lt_of_le hgr hbs
      have ec : ∀ v, a.eval (.const v) = v := fun _ => rfl
      have ef : ∀ f, a.eval (.func f) = .func (.func f) #[] #[] := fun _ => rfl
      refine wpOp_of ho hg (wp_val (v := .pointer (some ⟨gr, 4, none⟩)) (w' := w) ?_ ⟨_, by rw [ho]; rfl, by rw [hd]; exact env_put_same (by rw [hs]; exact hlt _ (by decide)), .inl (Below.refl _ _)⟩)
      clear hr hall hra hdi hf
      generalize a.eval = ρ at ec ef d16 ⊢
      simp [go_sem, execOp, hop, ec, ef, d16, flt]
    · obtain ⟨o, ho, hg, hd, hop⟩ := O18
      clear O0 O1 O2 O3 O4 O5 O6 O7 O8 O9 O10 O11 O12 O13 O14 O15 O16 O17 O19 O20 O21 O22 O23 O24 O25 O26 O27 O28 O29 O30 O31 O32 O33 O34 O35 O36 O37 O38 fin dep
      have d17 : a.eval (.tmp 22) = .pointer (some ⟨gr, 4, none⟩) := (hr 17 (by decide)).2
      have flt : gr < w.heap.size := Nat.lt_of_lt_of_le hgr hbs
      have ec : ∀ v, a.eval (.const v) = v := fun _ => rfl
      have ef : ∀ f, a.eval (.func f) = .func (.func f) #[] #[] := fun _ => rfl
      refine wpOp_of ho hg (wp_val (v := .pointer (some ⟨gr, 4, none⟩)) (w' := w) ?_ ⟨_, by rw [ho]; rfl, by rw [hd]; exact env_put_same (by rw [hs]; exact hlt _ (by decide)), .inl (Below.refl _ _)⟩)
      clear hr hall hra hdi hf
      generalize a.eval = ρ at ec ef d17 ⊢
      simp [go_sem, execOp, hop, ec, ef, d17, flt]
    · obtain ⟨o, ho, hg, hd, hop⟩ := O19
      clear O0 O1 O2 O3 O4 O5 O6 O7 O8 O9 O10 O11 O12 O13 O14 O15 O16 O17 O18 O20 O21 O22 O23 O24 O25 O26 O27 O28 O29 O30 O31 O32 O33 O34 O35 O36 O37 O38 fin dep
      have r0 : a.eval (.tmp 0) = .pointer (some ⟨gr, 0, none⟩) := (hf 0 (fun k o ho e => absurd (tab_T tab ho e).1 (by decide))).trans rr0
      have ec : ∀ v, a.eval (.const v) = v := fun _ => rfl
      have ef : ∀ f, a.eval (.func f) = .func (.func f) #[] #[] := fun _ => rfl
      refine wpOp_of ho hg (wp_val (v := .pointer (some ⟨gr, 0, none⟩)) (w' := w) ?_ ⟨_, by rw [ho]; rfl, by rw [hd]; exact env_put_same (by rw [hs]; exact hlt _ (by decide)), .inl (Below.refl _ _)⟩)
      clear hr hall hra hdi hf
      generalize a.eval = ρ at ec ef r0 ⊢
      simp [go_sem, execOp, hop, ec, ef, r0]
    · obtain ⟨o, ho, hg, hd, hop⟩ := O20
      clear O0 O1 O2 O3 O4 O5 O6 O7 O8 O9 O10 O11 O12 O13 O14 O15 O16 O17 O18 O19 O21 O22 O23 O24 O25 O26 O27 O28 O29 O30 O31 O32 O33 O34 O35 O36 O37 O38 fin dep
      have d19 : a.eval (.tmp 24) = .pointer (some ⟨gr, 0, none⟩) := (hr 19 (by decide)).2
      have flt : gr < w.heap.size := Nat.lt_of_lt_of_le hgr hbs
      have ec : ∀ v, a.eval (.const v) = v := fun _ => rfl
      have ef : ∀ f, a.eval (.func f) = .func (.func f) #[] #[] := fun _ => rfl
      refine wpOp_of ho hg (wp_val (v := .pointer (some ⟨gr, 0, none⟩)) (w' := w) ?_ ⟨_, by rw [ho]; rfl, by rw [hd]; exact env_put_same (by rw [hs]; exact hlt _ (by decide)), .inl (Below.refl _ _)⟩)
      clear hr hall hra hdi hf
      generalize a.eval = ρ at ec ef d19 ⊢
      simp [go_sem, execOp, hop, ec, ef, d19, flt]
    · obtain ⟨o, ho, hg, hd, hop⟩ := O21
      clear O0 O1 O2 O3 O4 O5 O6 O7 O8 O9 O10 O11 O12 O13 O14 O15 O16 O17 O18 O19 O20 O22 O23 O24 O25 O26 O27 O28 O29 O30 O31 O32 O33 O34 O35 O36 O37 O38 fin dep
      have d20 : a.eval (.tmp 25) = .pointer (some ⟨gr, 0, none⟩) := (hr 20 (by decide)).2
      have flt : gr < w.heap.size := Nat.lt_of_lt_of_le hgr hbs
      have ec : ∀ v, a.eval (.const v) = v := fun _ => rfl
      have ef : ∀ f, a.eval (.func f) = .func (.func f) #[] #[] := fun _ => rfl
      refine wpOp_of ho hg (wp_val (v := .pointer (some ⟨gr, 4, none⟩)) (w' := w) ?_ ⟨_, by rw [ho]; rfl, by rw [hd]; exact env_put_same (by rw [hs]; exact hlt _ (by decide)), .inl (Below.refl _ _)⟩)
      clear hr hall hra hdi hf
      generalize a.eval = ρ at ec ef d20 ⊢
      simp [go_sem, execOp, hop, ec, ef, d20, flt]
    · obtain ⟨o, ho, hg, hd, hop⟩ := O22
      clear O0 O1 O2 O3 O4 O5 O6 O7 O8 O9 O10 O11 O12 O13 O14 O15 O16 O17 O18 O19 O20 O21 O23 O24 O25 O26 O27 O28 O29 O30 O31 O32 O33 O34 O35 O36 O37 O38 fin dep
      have d21 : a.eval (.tmp 26) = .pointer (some ⟨gr, 4, none⟩) := (hr 21 (by decide)).2
      have flt : gr < w.heap.size := Nat.lt_of_lt_of_le hgr hbs
      have ec : ∀ v, a.eval (.const v) = v := fun _ => rfl
      have ef : ∀ f, a.eval (.func f) = .func (.func f) #[] #[] := fun _ => rfl
      refine wpOp_of ho hg (wp_val (v := .pointer (some ⟨gr, 5, none⟩)) (w' := w) ?_ ⟨_, by rw [ho]; rfl, by rw [hd]; exact env_put_same (by rw [hs]; exact hlt _ (by decide)), .inl (Below.refl _ _)⟩)
      clear hr hall hra hdi hf
      generalize a.eval = ρ at ec ef d21 ⊢
      simp [go_sem, execOp, hop, ec, ef, d21, flt]
    · obtain ⟨o, ho, hg, hd, hop⟩ := O23
      clear O0 O1 O2 O3 O4 O5 O6 O7 O8 O9 O10 O11 O12 O13 O14 O15 O16 O17 O18 O19 O20 O21 O22 O24 O25 O26 O27 O28 O29 O30 O31 O32 O33 O34 O35 O36 O37 O38 fin dep
      have r0 : a.eval (.tmp 0) = .pointer (some ⟨gr, 0, none⟩) := (hf 0 (fun k o ho e => absurd (tab_T tab ho e).1 (by decide))).trans rr0
      have ec : ∀ v, a.eval (.const v) = v := fun _ => rfl
      have ef : ∀ f, a.eval (.func f) = .func (.func f) #[] #[] := fun _ => rfl
      refine wpOp_of ho hg (wp_val (v := .pointer (some ⟨gr, 0, none⟩)) (w' := w) ?_ ⟨_, by rw [ho]; rfl, by rw [hd]; exact env_put_same (by rw [hs]; exact hlt _ (by decide)), .inl (Below.refl _ _)⟩)
      clear hr hall hra hdi hf
      generalize a.eval = ρ at ec ef r0 ⊢
      simp [go_sem, execOp, hop, ec, ef, r0]
    · obtain ⟨o, ho, hg, hd, hop⟩ := O24
      clear O0 O1 O2 O3 O4 O5 O6 O7 O8 O9 O10 O11 O12 O13 O14 O15 O16 O17 O18 O19 O20 O21 O22 O23 O25 O26 O27 O28 O29 O30 O31 O32 O33 O34 O35 O36 O37 O38 fin dep
      have d23 : a.eval (.tmp 28) = .pointer (some ⟨gr, 0, none⟩) := (hr 23 (by decide)).2
      have flt : gr < w.heap.size := Nat.lt_of_lt_of_le hgr hbs
      have ec : ∀ v, a.eval (.const v) = v := fun _ => rfl
      have ef : ∀ f, a.eval (.func f) = .func (.func f) #[] #[] := fun _ => rfl
      refine wpOp_of ho hg (wp_val (v := .pointer (some ⟨gr, 0, none⟩)) (w' := w) ?_ ⟨_, by rw [ho]; rfl, by rw [hd]; exact env_put_same (by rw [hs]; exact hlt _ (by decide)), .inl (Below.refl _ _)⟩)
      clear hr hall hra hdi hf
      generalize a.eval = ρ at ec ef d23 ⊢
      simp [go_sem, execOp, hop, ec, ef, d23, flt]
    · obtain ⟨o, ho, hg, hd, hop⟩ := O25
      clear O0 O1 O2 O3 O4 O5 O6 O7 O8 O9 O10 O11 O12 O13 O14 O15 O16 O17 O18 O19 O20 O21 O22 O23 O24 O26 O27 O28 O29 O30 O31 O32 O33 O34 O35 O36 O37 O38 fin dep
      have d24 : a.eval (.tmp 29) = .pointer (some ⟨gr, 0, none⟩) := (hr 24 (by decide)).2
      have flt : gr < w.heap.size := Nat.lt_of_lt_of_le hgr hbs
      have ec : ∀ v, a.eval (.const v) = v := fun _ => rfl
      have ef : ∀ f, a.eval (.func f) = .func (.func f) #[] #[] := fun _ => rfl
      refine wpOp_of ho hg (wp_val (v := .pointer (some ⟨gr, 6, none⟩)) (w' := w) ?_ ⟨_, by rw [ho]; rfl, by rw [hd]; exact env_put_same (by rw [hs]; exact hlt _ (by decide)), .inl (Below.refl _ _)⟩)
      clear hr hall hra hdi hf
      generalize a.eval = ρ at ec ef d24 ⊢
      simp [go_sem, execOp, hop, ec, ef, d24, flt]
    · obtain ⟨o, ho, hg, hd, hop⟩ := O26
      clear O0 O1 O2 O3 O4 O5 O6 O7 O8 O9 O10 O11 O12 O13 O14 O15 O16 O17 O18 O19 O20 O21 O22 O23 O24 O25 O27 O28 O29 O30 O31 O32 O33 O34 O35 O36 O37 O38 fin dep
      have r0 : a.eval (.tmp 0) = .pointer (some ⟨gr, 0, none⟩) := (hf 0 (fun k o ho e => absurd (tab_T tab ho e).1 (by decide))).trans rr0
      have ec : ∀ v, a.eval (.const v) = v := fun _ => rfl
      have ef : ∀ f, a.eval (.func f) = .func (.func f) #[] #[] := fun _ => rfl
      refine wpOp_of ho hg (wp_val (v := .pointer (some ⟨gr, 0, none⟩)) (w' := w) ?_ ⟨_, by rw [ho]; rfl, by rw [hd]; exact env_put_same (by rw [hs]; exact hlt _ (by decide)), .inl (Below.refl _ _)⟩)
      clear hr hall hra hdi hf
      generalize a.eval = ρ at ec ef r0 ⊢
      simp [go_sem, execOp, hop, ec, ef, r0]
    · obtain ⟨o, ho, hg, hd, hop⟩ := O27
      clear O0 O1 O2 O3 O4 O5 O6 O7 O8 O9 O10 O11 O12 O13 O14 O15 O16 O17 O18 O19 O20 O21 O22 O23 O24 O25 O26 O28 O29 O30 O31 O32 O33 O34 O35 O36 O37 O38 fin dep
      have d26 : a.eval (.tmp 31) = .pointer (some ⟨gr, 0, none⟩) := (hr 26 (by decide)).2
      have flt : gr < w.heap.size := Nat.lt_of_lt_of_le hgr hbs
      have ec : ∀ v, a.eval (.const v) = v := fun _ => rfl
      have ef : ∀ f, a.eval (.func f) = .func (.func f) #[] #[] := fun _ => rfl
      refine wpOp_of ho hg (wp_val (v := .pointer (some ⟨gr, 0, none⟩)) (w' := w) ?_ ⟨_, by rw [ho]; rfl, by rw [hd]; exact env_put_same (by rw [hs]; exact hlt _ (by decide)), .inl (Below.refl _ _)⟩)
      clear hr hall hra hdi hf
      generalize a.eval = ρ at ec ef d26 ⊢
      simp [go_sem, execOp, hop, ec, ef, d26, flt]
    · obtain ⟨o, ho, hg, hd, hop⟩ := O28
      clear O0 O1 O2 O3 O4 O5 O6 O7 O8 O9 O10 O11 O12 O13 O14 O15 O16 O17 O18 O19 O20 O21 O22 O23 O24 O25 O26 O27 O29 O30 O31 O32 O33 O34 O35 O36 O37 O38 fin dep
      have d27 : a.eval (.tmp 32) = .pointer (some ⟨gr, 0, none⟩) := (hr 27 (by decide)).2
      have flt : gr < w.heap.size := Nat.lt_of_lt_of_le hgr hbs
      have ec : ∀ v, a.eval (.const v) = v := fun _ => rfl
      have ef : ∀ f, a.eval (.func f) = .func (.func f) #[] #[] := fun _ => rfl
      refine wpOp_of ho hg (wp_val (v := .pointer (some ⟨gr, 7, none⟩)) (w' := w) ?_ ⟨_, by rw [ho]; rfl, by rw [hd]; exact env_put_same (by rw [hs]; exact hlt _ (by decide)), .inl (Below.refl _ _)⟩)
      clear hr hall hra hdi hf
      generalize a.eval = ρ at ec ef d27 ⊢
      simp [go_sem, execOp, hop, ec, ef, d27, flt]
    · obtain ⟨o, ho, hg, hd, hop⟩ := O29
      clear O0 O1 O2 O3 O4 O5 O6 O7 O8 O9 O10 O11 O12 O13 O14 O15 O16 O17 O18 O19 O20 O21 O22 O23 O24 O25 O26 O27 O28 O30 O31 O32 O33 O34 O35 O36 O37 O38 fin dep
      have r0 : a.eval (.tmp 0) = .pointer (some ⟨gr, 0, none⟩) := (hf 0 (fun k o ho e => absurd (tab_T tab ho e).1 (by decide))).trans rr0
      have ec : ∀ v, a.eval (.const v) = v := fun _ => rfl
      have ef : ∀ f, a.eval (.func f) = .func (.func f) #[] #[] := fun _ => rfl
      refine wpOp_of ho hg (wp_val (v := .pointer (some ⟨gr, 0, none⟩)) (w' := w) ?_ ⟨_, by rw [ho]; rfl, by rw [hd]; exact env_put_same (by rw [hs]; exact hlt _ (by decide)), .inl (Below.refl _ _)⟩)
      clear hr hall hra hdi hf
      generalize a.eval = ρ at ec ef r0 ⊢
      simp [go_sem, execOp, hop, ec, ef, r0]
    · obtain ⟨o, ho, hg, hd, hop⟩ := O30
      clear O0 O1 O2 O3 O4 O5 O6 O7 O8 O9 O10 O11 O12 O13 O14 O15 O16 O17 O18 O19 O20 O21 O22 O23 O24 O25 O26 O27 O28 O29 O31 O32 O33 O34 O35 O36 O37 O38 fin dep
      have d29 : a.eval (.tmp 34) = .pointer (some ⟨gr, 0, none⟩) := (hr 29 (by decide)).2
      have flt : gr < w.heap.size := Nat.lt_of_lt_of_le hgr hbs
      have ec : ∀ v, a.eval (.const v) = v := fun _ => rfl
      have ef : ∀ f, a.eval (.func f) = .func (.func f) #[] #[] := fun _ => rfl
      refine wpOp_of ho hg (wp_val (v := .pointer (some ⟨gr, 0, none⟩)) (w' := w) ?_ ⟨_, by rw [ho]; rfl, by rw [hd]; exact env_put_same (by rw [hs]; exact hlt _ (by decide)), .inl (Below.refl _ _)⟩)
      clear hr hall hra hdi hf
      generalize a.eval = ρ at ec ef d29 ⊢
      simp [go_sem, execOp, hop, ec, ef, d29, flt]
    · obtain ⟨o, ho, hg, hd, hop⟩ := O31
      clear O0 O1 O2 O3 O4 O5 O6 O7 O8 O9 O10 O11 O12 O13 O14 O15 O16 O17 O18 O19 O20 O21 O22 O23 O24 O25 O26 O27 O28 O29 O30 O32 O33 O34 O35 O36 O37 O38 fin dep
      have d30 : a.eval (.tmp 35) = .pointer (some ⟨gr, 0, none⟩) := (hr 30 (by decide)).2
      have flt : gr < w.heap.size := Nat.lt_of_lt_of_le hgr hbs
      have ec : ∀ v, a.eval (.const v) = v := fun _ => rfl
      have ef : ∀ f, a.eval (.func f) = .func (.func f) #[] #[] := fun _ => rfl
      refine wpOp_of ho hg (wp_val (v := .pointer (some ⟨gr, 8, none⟩)) (w' := w) ?_ ⟨_, by rw [ho]; rfl, by rw [hd]; exact env_put_same (by rw [hs]; exact hlt _ (by decide)), .inl (Below.refl _ _)⟩)
      clear hr hall hra hdi hf
      generalize a.eval = ρ at ec ef d30 ⊢
      simp [go_sem, execOp, hop, ec, ef, d30, flt]
    · obtain ⟨o, ho, hg, hd, hop⟩ := O32
      clear O0 O1 O2 O3 O4 O5 O6 O7 O8 O9 O10 O11 O12 O13 O14 O15 O16 O17 O18 O19 O20 O21 O22 O23 O24 O25 O26 O27 O28 O29 O30 O31 O33 O34 O35 O36 O37 O38 fin dep
      have d31 : a.eval (.tmp 36) = .pointer (some ⟨gr, 8, none⟩) := (hr 31 (by decide)).2
      have flt : gr < w.heap.size := Nat.lt_of_lt_of_le hgr hbs
      have ec : ∀ v, a.eval (.const v) = v := fun _ => rfl
      have ef : ∀ f, a.eval (.func f) = .func (.func f) #[] #[] := fun _ => rfl
      refine wpOp_of ho hg (wp_val (v := .pointer (some ⟨gr, 8, none⟩)) (w' := w) ?_ ⟨_, by rw [ho]; rfl, by rw [hd]; exact env_put_same (by rw [hs]; exact hlt _ (by decide)), .inl (Below.refl _ _)⟩)
      clear hr hall hra hdi hf
      generalize a.eval = ρ at ec ef d31 ⊢
      simp [go_sem, execOp, hop, ec, ef, d31, flt]
    · obtain ⟨o, ho, hg, hd, hop⟩ := O33
      clear O0 O1 O2 O3 O4 O5 O6 O7 O8 O9 O10 O11 O12 O13 O14 O15 O16 O17 O18 O19 O20 O21 O22 O23 O24 O25 O26 O27 O28 O29 O30 O31 O32 O34 O35 O36 O37 O38 fin dep
      have r0 : a.eval (.tmp 0) = .pointer (some ⟨gr, 0, none⟩) := (hf 0 (fun k o ho e => absurd (tab_T tab ho e).1 (by decide))).trans rr0
      have ec : ∀ v, a.eval (.const v) = v := fun _ => rfl
      have ef : ∀ f, a.eval (.func f) = .func (.func f) #[] #[] := fun _ => rfl
      refine wpOp_of ho hg (wp_val (v := .pointer (some ⟨gr, 0, none⟩)) (w' := w) ?_ ⟨_, by rw [ho]; rfl, by rw [hd]; exact env_put_same (by rw [hs]; exact hlt _ (by decide)), .inl (Below.refl _ _)⟩)
      clear hr hall hra hdi hf
      generalize a.eval = ρ at ec ef r0 ⊢
      simp [go_sem, execOp, hop, ec, ef, r0]
    · obtain ⟨o, ho, hg, hd, hop⟩ := O34
      clear O0 O1 O2 O3 O4 O5 O6 O7 O8 O9 O10 O11 O12 O13 O14 O15 O16 O17 O18 O19 O20 O21 O22 O23 O24 O25 O26 O27 O28 O29 O30 O31 O32 O33 O35 O36 O37 O38 fin dep
      have d33 : a.eval (.tmp 38) = .pointer (some ⟨gr, 0, none⟩) := (hr 33 (by decide)).2
      have flt : gr < w.heap.size := Nat.lt_of_lt_of_le hgr hbs
      have ec : ∀ v, a.eval (.const v) = v := fun _ => rfl
      have ef : ∀ f, a.eval (.func f) = .func (.func f) #[] #[] := fun _ => rfl
      refine wpOp_of ho hg (wp_val (v := .pointer (some ⟨gr, 0, none⟩)) (w' := w) ?_ ⟨_, by rw [ho]; rfl, by rw [hd]; exact env_put_same (by rw [hs]; exact hlt _ (by decide)), .inl (Below.refl _ _)⟩)
      clear hr hall hra hdi hf
      generalize a.eval = ρ at ec ef d33 ⊢
      simp [go_sem, execOp, hop, ec, ef, d33, flt]
    · obtain ⟨o, ho, hg, hd, hop⟩ := O35
      clear O0 O1 O2 O3 O4 O5 O6 O7 O8 O9 O10 O11 O12 O13 O14 O15 O16 O17 O18 O19 O20 O21 O22 O23 O24 O25 O26 O27 O28 O29 O30 O31 O32 O33 O34 O36 O37 O38 fin dep
      have d34 : a.eval (.tmp 39) = .pointer (some ⟨gr, 0, none⟩) := (hr 34 (by decide)).2
      have flt : gr < w.heap.size := Nat.lt_of_lt_of_le hgr hbs
      have ec : ∀ v, a.eval (.const v) = v := fun _ => rfl
      have ef : ∀ f, a.eval (.func f) = .func (.func f) #[] #[] := fun _ => rfl
      refine wpOp_of ho hg (wp_val (v := .pointer (some ⟨gr, 8, none⟩)) (w' := w) ?_ ⟨_, by rw [ho]; rfl, by rw [hd]; exact env_put_same (by rw [hs]; exact hlt _ (by decide)), .inl (Below.refl _ _)⟩)
      clear hr hall hra hdi hf
      generalize a.eval = ρ at ec ef d34 ⊢
      simp [go_sem, execOp, hop, ec, ef, d34, flt]
    · obtain ⟨o, ho, hg, hd, hop⟩ := O36
      clear O0 O1 O2 O3 O4 O5 O6 O7 O8 O9 O10 O11 O12 O13 O14 O15 O16 O17 O18 O19 O20 O21 O22 O23 O24 O25 O26 O27 O28 O29 O30 O31 O32 O33 O34 O35 O37 O38 fin dep
      have d35 : a.eval (.tmp 40) = .pointer (some ⟨gr, 8, none⟩) := (hr 35 (by decide)).2
      have flt : gr < w.heap.size := Nat.lt_of_lt_of_le hgr hbs
      have ec : ∀ v, a.eval (.const v) = v := fun _ => rfl
      have ef : ∀ f, a.eval (.func f) = .func (.func f) #[] #[] := fun _ => rfl
      refine wpOp_of ho hg (wp_val (v := .pointer (some ⟨gr, 9, none⟩)) (w' := w) ?_ ⟨_, by rw [ho]; rfl, by rw [hd]; exact env_put_same (by rw [hs]; exact hlt _ (by decide)), .inl (Below.refl _ _)⟩)
      clear hr hall hra hdi hf
      generalize a.eval = ρ at ec ef d35 ⊢
      simp [go_sem, execOp, hop, ec, ef, d35, flt]
    · obtain ⟨o, ho, hg, hd, hop⟩ := O37
      clear O0 O1 O2 O3 O4 O5 O6 O7 O8 O9 O10 O11 O12 O13 O14 O15 O16 O17 O18 O19 O20 O21 O22 O23 O24 O25 O26 O27 O28 O29 O30 O31 O32 O33 O34 O35 O36 O38 fin dep
      have d2 : a.eval (.tmp 7) = .pointer (some ⟨gr, 0, none⟩) := (hr 2 (by decide)).2
      have d5 : a.eval (.tmp 10) = .pointer (some ⟨gr, 1, none⟩) := (hr 5 (by decide)).2
      have d8 : a.eval (.tmp 13) = .pointer (some ⟨gr, 2, none⟩) := (hr 8 (by decide)).2
      have d11 : a.eval (.tmp 16) = .pointer (some ⟨gh, 0, none⟩) := (hr 11 (by decide)).2
      have d14 : a.eval (.tmp 19) = .pointer (some ⟨gh, 1, none⟩) := (hr 14 (by decide)).2
      have d18 : a.eval (.tmp 23) = .pointer (some ⟨gr, 4, none⟩) := (hr 18 (by decide)).2
      have d22 : a.eval (.tmp 27) = .pointer (some ⟨gr, 5, none⟩) := (hr 22 (by decide)).2
      have d25 : a.eval (.tmp 30) = .pointer (some ⟨gr, 6, none⟩) := (hr 25 (by decide)).2
      have d28 : a.eval (.tmp 33) = .pointer (some ⟨gr, 7, none⟩) := (hr 28 (by decide)).2
      have d32 : a.eval (.tmp 37) = .pointer (some ⟨gr, 8, none⟩) := (hr 32 (by decide)).2
      have d36 : a.eval (.tmp 41) = .pointer (some ⟨gr, 9, none⟩) := (hr 36 (by decide)).2
      have ec : ∀ v, a.eval (.const v) = v := fun _ => rfl
      have ef : ∀ f, a.eval (.func f) = .func (.func f) #[] #[] := fun _ => rfl
      refine wpOp_of ho hg (wp_val (v := .agg #[.pointer (some ⟨gr, 0, none⟩), .pointer (some ⟨gr, 1, none⟩), .pointer (some ⟨gr, 2, none⟩), .pointer (some ⟨gh, 0, none⟩), .pointer (some ⟨gh, 1, none⟩), .pointer (some ⟨gr, 4, none⟩), .pointer (some ⟨gr, 5, none⟩), .pointer (some ⟨gr, 6, none⟩), .pointer (some ⟨gr, 7, none⟩), .pointer (some ⟨gr, 8, none⟩), .pointer (some ⟨gr, 9, none⟩)]) (w' := w) ?_ ⟨_, by rw [ho]; rfl, by rw [hd]; exact env_put_same (by rw [hs]; exact hlt _ (by decide)), .inl (Below.refl _ _)⟩)
      clear hr hall hra hdi hf
      generalize a.eval = ρ at ec ef d2 d5 d8 d11 d14 d18 d22 d25 d28 d32 d36 ⊢
      simp [go_sem, execOp, hop, ec, ef, d2, d5, d8, d11, d14, d18, d22, d25, d28, d32, d36]
    · obtain ⟨o, ho, hg, hd, hop⟩ := O38
      clear O0 O1 O2 O3 O4 O5 O6 O7 O8 O9 O10 O11 O12 O13 O14 O15 O16 O17 O18 O19 O20 O21 O22 O23 O24 O25 O26 O27 O28 O29 O30 O31 O32 O33 O34 O35 O36 O37 fin dep
      have d37 : a.eval (.tmp 42) = .agg #[.pointer (some ⟨gr, 0, none⟩), .pointer (some ⟨gr, 1, none⟩), .pointer (some ⟨gr, 2, none⟩), .pointer (some ⟨gh, 0, none⟩), .pointer (some ⟨gh, 1, none⟩), .pointer (some ⟨gr, 4, none⟩), .pointer (some ⟨gr, 5, none⟩), .pointer (some ⟨gr, 6, none⟩), .pointer (some ⟨gr, 7, none⟩), .pointer (some ⟨gr, 8, none⟩), .pointer (some ⟨gr, 9, none⟩)] := (hr 37 (by decide)).2
      have r4 : a.eval (.tmp 4) = .pointer (some ⟨S, 0, none⟩) := (hf 4 (fun k o ho e => absurd (tab_T tab ho e).1 (by decide))).trans rr4
      have ps := hps (fun j hj => by
        simp only [List.mem_cons, List.not_mem_nil, or_false] at hj
        rcases hj with rfl
        · exact hLi)
      have ec : ∀ v, a.eval (.const v) = v := fun _ => rfl
      have ef : ∀ f, a.eval (.func f) = .func (.func f) #[] #[] := fun _ => rfl
      have dbi : a.eval (.tmp 42) = .agg #[.pointer (some ⟨gr, 0, none⟩), .pointer (some ⟨gr, 1, none⟩), .pointer (some ⟨gr, 2, none⟩), .pointer (some ⟨gh, 0, none⟩), .pointer (some ⟨gh, 1, none⟩), .pointer (some ⟨gr, 4, none⟩), .pointer (some ⟨gr, 5, none⟩), .pointer (some ⟨gr, 6, none⟩), .pointer (some ⟨gr, 7, none⟩), .pointer (some ⟨gr, 8, none⟩), .pointer (some ⟨gr, 9, none⟩)] := (hr 37 (by decide)).2
      obtain ⟨cs, h4, h5⟩ := ps
      have f0 := h4.free 0
      have c0 := cells_some h4 0 (by omega)
      have f1 := h4.free 1
      have c1 := cells_some h4 1 (by omega)
      have f2 := h4.free 2
      have c2 := cells_some h4 2 (by omega)
      have f3 := h4.free 3
      have c3 := cells_some h4 3 (by omega)
      have f4 := h4.free 4
      have c4 := cells_some h4 4 (by omega)
      have f5 := h4.free 5
      have c5 := cells_some h4 5 (by omega)
      have f6 := h4.free 6
      have c6 := cells_some h4 6 (by omega)
      have f7 := h4.free 7
      have c7 := cells_some h4 7 (by omega)
      have f8 := h4.free 8
      have c8 := cells_some h4 8 (by omega)
      have f9 := h4.free 9
      have c9 := cells_some h4 9 (by omega)
      have f10 := h4.free 10
      have c10 := cells_some h4 10 (by omega)
      refine wpOp_of ho hg (wp_skip (w' := fillC w S 0 [.pointer (some ⟨gr, 0, none⟩), .pointer (some ⟨gr, 1, none⟩), .pointer (some ⟨gr, 2, none⟩), .pointer (some ⟨gh, 0, none⟩), .pointer (some ⟨gh, 1, none⟩), .pointer (some ⟨gr, 4, none⟩), .pointer (some ⟨gr, 5, none⟩), .pointer (some ⟨gr, 6, none⟩), .pointer (some ⟨gr, 7, none⟩), .pointer (some ⟨gr, 8, none⟩), .pointer (some ⟨gr, 9, none⟩)]) ?_ ⟨undef, by rw [ho]; rfl, fill_all h4 h5, .inr ⟨S, hSn, fill_only _ _ _ _, fun j hj hLj k => ?_, fun h => absurd (by decide) h⟩⟩)
      · have hlt4 := h4.lt
        clear hr hall hra hdi hf
        generalize a.eval = ρ at ec ef dbi r4 ⊢
        simp [go_sem, execOp, hop, ec, ef, dbi, r4, hlt4, fillC, f0, c0, f1, c1, f2, c2, f3, c3, f4, c4, f5, c5, f6, c6, f7, c7, f8, c8, f9, c9, f10, c10]
      · rw [hn] at hj
        rcases (by omega : j = 0 ∨ j = 1 ∨ j = 2 ∨ j = 3 ∨ j = 4 ∨ j = 5 ∨ j = 6 ∨ j = 7 ∨ j = 8 ∨ j = 9 ∨ j = 10 ∨ j = 11 ∨ j = 12 ∨ j = 13 ∨ j = 14 ∨ j = 15 ∨ j = 16 ∨ j = 17 ∨ j = 18 ∨ j = 19 ∨ j = 20 ∨ j = 21 ∨ j = 22 ∨ j = 23 ∨ j = 24 ∨ j = 25 ∨ j = 26 ∨ j = 27 ∨ j = 28 ∨ j = 29 ∨ j = 30 ∨ j = 31 ∨ j = 32 ∨ j = 33 ∨ j = 34 ∨ j = 35 ∨ j = 36 ∨ j = 37 ∨ j = 38) with rfl | rfl | rfl | rfl | rfl | rfl | rfl | rfl | rfl | rfl | rfl | rfl | rfl | rfl | rfl | rfl | rfl | rfl | rfl | rfl | rfl | rfl | rfl | rfl | rfl | rfl | rfl | rfl | rfl | rfl | rfl | rfl | rfl | rfl | rfl | rfl | rfl | rfl | rfl
        · have k' : (env a) 5 = .pointer (some ⟨gr, 0, none⟩) := k
          exact k'
        · have k' : (env a) 6 = .pointer (some ⟨gr, 0, none⟩) := k
          exact k'
        · have k' : (env a) 7 = .pointer (some ⟨gr, 0, none⟩) := k
          exact k'
        · have k' : (env a) 8 = .pointer (some ⟨gr, 0, none⟩) := k
          exact k'
        · have k' : (env a) 9 = .pointer (some ⟨gr, 0, none⟩) := k
          exact k'
        · have k' : (env a) 10 = .pointer (some ⟨gr, 1, none⟩) := k
          exact k'
        · have k' : (env a) 11 = .pointer (some ⟨gr, 0, none⟩) := k
          exact k'
        · have k' : (env a) 12 = .pointer (some ⟨gr, 0, none⟩) := k
          exact k'
        · have k' : (env a) 13 = .pointer (some ⟨gr, 2, none⟩) := k
          exact k'
        · have k' : (env a) 14 = .pointer (some ⟨gh, 0, none⟩) := k
          exact k'
        · have k' : (env a) 15 = .pointer (some ⟨gh, 0, none⟩) := k
          exact k'
        · have k' : (env a) 16 = .pointer (some ⟨gh, 0, none⟩) := k
          exact k'
        · have k' : (env a) 17 = .pointer (some ⟨gh, 0, none⟩) := k
          exact k'
        · have k' : (env a) 18 = .pointer (some ⟨gh, 0, none⟩) := k
          exact k'
        · have k' : (env a) 19 = .pointer (some ⟨gh, 1, none⟩) := k
          exact k'
        · have k' : (env a) 20 = .pointer (some ⟨gr, 0, none⟩) := k
          exact k'
        · have k' : (env a) 21 = .pointer (some ⟨gr, 0, none⟩) := k
          exact k'
        · have k' : (env a) 22 = .pointer (some ⟨gr, 4, none⟩) := k
          exact k'
        · have k' : (env a) 23 = .pointer (some ⟨gr, 4, none⟩) := k
          exact k'
        · have k' : (env a) 24 = .pointer (some ⟨gr, 0, none⟩) := k
          exact k'
        · have k' : (env a) 25 = .pointer (some ⟨gr, 0, none⟩) := k
          exact k'
        · have k' : (env a) 26 = .pointer (some ⟨gr, 4, none⟩) := k
          exact k'
        · have k' : (env a) 27 = .pointer (some ⟨gr, 5, none⟩) := k
          exact k'
        · have k' : (env a) 28 = .pointer (some ⟨gr, 0, none⟩) := k
          exact k'
        · have k' : (env a) 29 = .pointer (some ⟨gr, 0, none⟩) := k
          exact k'
        · have k' : (env a) 30 = .pointer (some ⟨gr, 6, none⟩) := k
          exact k'
        · have k' : (env a) 31 = .pointer (some ⟨gr, 0, none⟩) := k
          exact k'
        · have k' : (env a) 32 = .pointer (some ⟨gr, 0, none⟩) := k
          exact k'
        · have k' : (env a) 33 = .pointer (some ⟨gr, 7, none⟩) := k
          exact k'
        · have k' : (env a) 34 = .pointer (some ⟨gr, 0, none⟩) := k
          exact k'
        · have k' : (env a) 35 = .pointer (some ⟨gr, 0, none⟩) := k
          exact k'
        · have k' : (env a) 36 = .pointer (some ⟨gr, 8, none⟩) := k
          exact k'
        · have k' : (env a) 37 = .pointer (some ⟨gr, 8, none⟩) := k
          exact k'
        · have k' : (env a) 38 = .pointer (some ⟨gr, 0, none⟩) := k
          exact k'
        · have k' : (env a) 39 = .pointer (some ⟨gr, 0, none⟩) := k
          exact k'
        · have k' : (env a) 40 = .pointer (some ⟨gr, 8, none⟩) := k
          exact k'
        · have k' : (env a) 41 = .pointer (some ⟨gr, 9, none⟩) := k
          exact k'
        · have k' : (env a) 42 = .agg #[.pointer (some ⟨gr, 0, none⟩), .pointer (some ⟨gr, 1, none⟩), .pointer (some ⟨gr, 2, none⟩), .pointer (some ⟨gh, 0, none⟩), .pointer (some ⟨gh, 1, none⟩), .pointer (some ⟨gr, 4, none⟩), .pointer (some ⟨gr, 5, none⟩), .pointer (some ⟨gr, 6, none⟩), .pointer (some ⟨gr, 7, none⟩), .pointer (some ⟨gr, 8, none⟩), .pointer (some ⟨gr, 9, none⟩)] := k
          exact k'
        · rw [hLi] at hLj; cases hLj
set_option maxRecDepth 100000 in
set_option maxHeartbeats 8000000 in
theorem grpf_any (gr gh : Nat) (w : World) (hgr : gr < w.heap.size) (hgh : gh < w.heap.size) :
    Calls Try.prog 34 #[.pointer (some ⟨gr, 0, none⟩), .pointer (some ⟨gh, 0, none⟩)] w (Gives (.agg #[.pointer (some ⟨gr, 0, none⟩), .pointer (some ⟨gr, 1, none⟩), .pointer (some ⟨gr, 2, none⟩), .pointer (some ⟨gh, 0, none⟩), .pointer (some ⟨gh, 1, none⟩), .pointer (some ⟨gr, 4, none⟩), .pointer (some ⟨gr, 5, none⟩), .pointer (some ⟨gr, 6, none⟩), .pointer (some ⟨gr, 7, none⟩), .pointer (some ⟨gr, 8, none⟩), .pointer (some ⟨gr, 9, none⟩)]) w) := by
  obtain ⟨W, hW⟩ : ∃ W, w.alloc (.cells #[.pointer none, .pointer none, .pointer none, .pointer none, .pointer none, .pointer none, .pointer none, .pointer none, .pointer none, .pointer none, .pointer none] 71) = W := ⟨_, rfl⟩
  have T0 : Hid (Cells W w.heap.size 71 #[.pointer none, .pointer none, .pointer none, .pointer none, .pointer none, .pointer none, .pointer none, .pointer none, .pointer none, .pointer none, .pointer none]) := by rw [← hW]; exact Cells.new w _ _
  have B0 : Hid (Below w.heap.size w W) := by rw [← hW]; exact below_alloc w _
  have hsz : W.heap.size = w.heap.size + 1 := by rw [← hW]; simp
  go_enter Try.func34, Try.ntmps34
  go_wp2_with fail
  refine PhFp_region gr gh w.heap.size w.heap.size (by omega) rfl (dep_of (by kernel_rfl)) rfl (by kernel_rfl) (by simp)
    ⟨_, rfl, rfl, rfl, rfl⟩
    ⟨_, rfl, rfl, rfl, rfl⟩
    ⟨_, rfl, rfl, rfl, rfl⟩
    ⟨_, rfl, rfl, rfl, rfl⟩
    ⟨_, rfl, rfl, rfl, rfl⟩
    ⟨_, rfl, rfl, rfl, rfl⟩
    ⟨_, rfl, rfl, rfl, rfl⟩
    ⟨_, rfl, rfl, rfl, rfl⟩
    ⟨_, rfl, rfl, rfl, rfl⟩
    ⟨_, rfl, rfl, rfl, rfl⟩
    ⟨_, rfl, rfl, rfl, rfl⟩
    ⟨_, rfl, rfl, rfl, rfl⟩
    ⟨_, rfl, rfl, rfl, rfl⟩
    ⟨_, rfl, rfl, rfl, rfl⟩
    ⟨_, rfl, rfl, rfl, rfl⟩
    ⟨_, rfl, rfl, rfl, rfl⟩
    ⟨_, rfl, rfl, rfl, rfl⟩
    ⟨_, rfl, rfl, rfl, rfl⟩
    ⟨_, rfl, rfl, rfl, rfl⟩
    ⟨_, rfl, rfl, rfl, rfl⟩
    ⟨_, rfl, rfl, rfl, rfl⟩
    ⟨_, rfl, rfl, rfl, rfl⟩
    ⟨_, rfl, rfl, rfl, rfl⟩
    ⟨_, rfl, rfl, rfl, rfl⟩
    ⟨_, rfl, rfl, rfl, rfl⟩
    ⟨_, rfl, rfl, rfl, rfl⟩
    ⟨_, rfl, rfl, rfl, rfl⟩
    ⟨_, rfl, rfl, rfl, rfl⟩
    ⟨_, rfl, rfl, rfl, rfl⟩
    ⟨_, rfl, rfl, rfl, rfl⟩
    ⟨_, rfl, rfl, rfl, rfl⟩
    ⟨_, rfl, rfl, rfl, rfl⟩
    ⟨_, rfl, rfl, rfl, rfl⟩
    ⟨_, rfl, rfl, rfl, rfl⟩
    ⟨_, rfl, rfl, rfl, rfl⟩
    ⟨_, rfl, rfl, rfl, rfl⟩
    ⟨_, rfl, rfl, rfl, rfl⟩
    ⟨_, rfl, rfl, rfl, rfl⟩
    ⟨_, rfl, rfl, rfl, rfl⟩
    rfl rfl rfl (by omega) (by omega) (Nat.le_refl _) (Lib.hid ⟨_, T0.out.below ((Drew.one W).below W.heap.size) T0.out.lt, rfl⟩) ?_
  intro u iv w' b bs hΦ _ _ hu
  have T1 : Cells w' w.heap.size 71 #[.pointer (some ⟨gr, 0, none⟩), .pointer (some ⟨gr, 1, none⟩), .pointer (some ⟨gr, 2, none⟩), .pointer (some ⟨gh, 0, none⟩), .pointer (some ⟨gh, 1, none⟩), .pointer (some ⟨gr, 4, none⟩), .pointer (some ⟨gr, 5, none⟩), .pointer (some ⟨gr, 6, none⟩), .pointer (some ⟨gr, 7, none⟩), .pointer (some ⟨gr, 8, none⟩), .pointer (some ⟨gr, 9, none⟩)] := hΦ 38 (by omega)
  have BB := Lib.hid (B0.out.trans b)
  have t0 := T1.c 0 rfl
  have t1 := T1.c 1 rfl
  have t2 := T1.c 2 rfl
  have t3 := T1.c 3 rfl
  have t4 := T1.c 4 rfl
  have t5 := T1.c 5 rfl
  have t6 := T1.c 6 rfl
  have t7 := T1.c 7 rfl
  have t8 := T1.c 8 rfl
  have t9 := T1.c 9 rfl
  have t10 := T1.c 10 rfl
  have tl := T1.lt
  clear hΦ
  simp only [PhFp_DS, puts, Act.put, Array.set!_eq_setIfInBounds, List.setIfInBounds_toArray, List.set_cons_succ, List.set_cons_zero]
  go_wp2_with fail
  refine bodyPost_ret (v := .agg #[.pointer (some ⟨gr, 0, none⟩), .pointer (some ⟨gr, 1, none⟩), .pointer (some ⟨gr, 2, none⟩), .pointer (some ⟨gh, 0, none⟩), .pointer (some ⟨gh, 1, none⟩), .pointer (some ⟨gr, 4, none⟩), .pointer (some ⟨gr, 5, none⟩), .pointer (some ⟨gr, 6, none⟩), .pointer (some ⟨gr, 7, none⟩), .pointer (some ⟨gr, 8, none⟩), .pointer (some ⟨gr, 9, none⟩)]) (by simp [results, Try.results34, go_sem, t0, t1, t2, t3, t4, t5, t6, t7, t8, t9, t10, tl]) rfl ⟨rfl, BB.out⟩
end Go.Proofs.Ytmfbnajaocaikaa
