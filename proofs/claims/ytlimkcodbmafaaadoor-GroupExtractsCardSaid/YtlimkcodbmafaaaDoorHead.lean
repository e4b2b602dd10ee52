/- Layer 6: the fixed examples that each statement begins with; few. -/
import Derived.Lib.MinMax
import Derived.Test.YtlimkcodbmafaaaDoorCon
namespace Go.Proofs.YtlimkcodbmafaaaDoor
open Go.RowKit Go.Sort Go
set_option linter.unusedVariables false
set_option linter.unusedSimpArgs false

/-- Nothing that was there at the entry is changed; the table of powers of ten reads as it should. -/
def Ok (w0 w : World) : Prop := Below w0.heap.size w0 w ∧ Tab w
def Fine (v : Value) (w0 : World) (e : Ending) (w' : World) : Prop := e = .returned v ∧ Ok w0 w'
theorem fine_of {f : Nat} {args : Array Value} {v : Value} {w0 w : World} (h : Calls Tryd.prog f args w (Gives v w)) (o : Ok w0 w) : Calls Tryd.prog f args w (Fine v w0) :=
  h.mono fun e w' ⟨a, b⟩ => ⟨a, below_more o.1 b, o.2.step b⟩
theorem fine_same {f : Nat} {args : Array Value} {v : Value} {w0 w : World} (h : Calls Tryd.prog f args w fun e w' => e = .returned v ∧ w = w') (o : Ok w0 w) : Calls Tryd.prog f args w (Fine v w0) :=
  h.mono fun e w' ⟨a, b⟩ => ⟨a, by subst b; exact o⟩
theorem ok_refl {w : World} (ht : Tab w) : Ok w w := ⟨.refl _ _, ht⟩
theorem ok_grow {w0 w w' : World} (o : Ok w0 w) (b : Below w.heap.size w w') : Ok w0 w' := ⟨below_more o.1 b, o.2.step b⟩

theorem el_nine : El 9 := ⟨by omega, by omega, by rw [← pwF_eq 2147483579 31 9 1073741789 (by decide)]; decide +kernel⟩
theorem not_two : ¬ ElI 2 := by
  intro h
  have e := h.2.2
  rw [show (2 : Int).toNat = 2 from rfl, ← pwF_eq 2147483579 31 2 1073741789 (by decide)] at e
  exact absurd e (by decide +kernel)
theorem not_zero : ¬ ElI 0 := fun h => absurd h.1 (by omega)
theorem elI_four : ElI 4 := elI_nat el_four
theorem elI_nine : ElI 9 := elI_nat el_nine
theorem ex_mul : mulR 4 9 = (36, 0) := mulR_el el_four el_nine
theorem ex_exp : expR 4 3 = (64, 0) := by
  have h := expR_el el_four 3 (by omega)
  rw [← pwF_eq 2147483579 31 4 3 (by decide), show pwF 2147483579 31 4 3 = 64 by decide +kernel] at h
  exact h
theorem ex_pub : pw 2147483579 4 5 = 1024 := by rw [← pwF_eq 2147483579 31 4 5 (by decide)]; decide +kernel
theorem ex_no : mulR 2 4 = (0, 1) := if_neg (fun h => not_two h.1)
theorem ex_none : signR 0 7 [] = (0, 0, 1) := if_neg (fun h => absurd h.1.1 (by omega))
theorem ex_sign : signR 5 7 [1, 2] = ((sigC 5 7 [1, 2] : Int), (sigS 5 7 [1, 2] : Int), 0) := signR_yes ⟨by omega, by omega⟩ ⟨by omega, by omega⟩ _
theorem ex_ver : verR 1024 (sigC 5 7 [1, 2] : Int) (sigS 5 7 [1, 2] : Int) [1, 2] = (true, 0) := by
  have h := verR_yes (p := 1024) (by rw [← ex_pub]; exact el_pow el_four 5) (sigC_lt 5 7 [1, 2]) (sigS_lt 5 7 [1, 2]) [1, 2]
  have r := right_sign 5 7 [1, 2] [1, 2]
  rw [ex_pub] at r
  have c := sigC_nat 5 7 [1, 2]
  rw [ex_pub] at c
  rw [show ((5 : Nat) : Int) = 5 from rfl, show ((7 : Nat) : Int) = 7 from rfl] at r c
  rw [r, ← c, decide_eq_true rfl] at h
  exact h

theorem rowI_new (W : World) (l : List Int) (n : Nat) (hn : n = l.length) (hz : ∀ x ∈ l, -9223372036854775808 ≤ x ∧ x ≤ 9223372036854775807) : RowI (W.alloc (.cells (intCells l).toArray 3)).heap.size (W.alloc (.cells (intCells l).toArray 3)) (some ⟨W.heap.size, 0, none⟩) n l := by
  subst hn
  refine ⟨rfl, fun _ => ⟨_, rfl, by simp, fun i hi => ?_⟩, hz⟩
  have e := cell_of_row (W.alloc (.cells (intCells l).toArray 3)) W.heap.size i (intCells l).toArray 3 (0, 0) (heap_alloc_new W _)
  rw [show (Addr.add ⟨W.heap.size, 0, none⟩ i) = ⟨W.heap.size, i, none⟩ by unfold Addr.add; split <;> simp_all]
  rw [e]
  simp [intCells, hi]
end Go.Proofs.YtlimkcodbmafaaaDoor
