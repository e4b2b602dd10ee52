/- Layer 9: what is known of an argument that is an output clock, or a slice of turns. -/
import Derived.WalkKit
import Derived.ProofKit
import Derived.OpenShut
import Derived.ShutString
import Derived.ChangeOld
import Derived.ChangeSlices
import Derived.ChangeSame
import Derived.Below
import Derived.Deep.Matrix
import Derived.Deep.Slices
import Derived.Lib.SmallJoins
import Derived.Test.YtihfafmockaljaaTurn
namespace Go.Proofs.Ytihfafmockaljaa
open Go.ChangeShapes Go.WideShapes Go.ChangeAt Go.RowKit Go.Joins Go.Deep
set_option linter.unusedVariables false

theorem cells_int : Try.prog.cellsOf 3 = 1 := by kernel_rfl
theorem cells_u32 : Try.prog.cellsOf 39 = 1 := by kernel_rfl
theorem cells_cl : Try.prog.cellsOf 23 = 3 := by kernel_rfl
theorem cells_tn : Try.prog.cellsOf 41 = 3 := by kernel_rfl
section
variable {H : Type} {enc : TypeId × Value → H} {w : World} {base b0 : Nat} {held : Bool} {r : Reach}

theorem block_lt' {p : Addr} {i : Nat} {u : Value} (c : w.cell? (p.add i) = some u) : p.block < w.heap.size := by
  have := World.block_lt_of_cell? w _ c
  rwa [block_of_add] at this

theorem open_cl {v : Value} {d : DataW H} {p : List MemPlace} {spare : Nat → Bool} (hv : Value.okWide Try.prog w r b0 23 v) (h : DataW.Trod enc Try.prog w base spare held 23 v d p) :
    ∃ a b c : Int, v = .agg #[.int .i64 a, .int .i64 b, .int .i64 c] ∧ I64 a ∧ I64 b ∧ I64 c := by
  obtain ⟨v0, v1, v2, y0, y1, y2, n, rfl, _, _, h0, h1, h2⟩ := open_agg3 Try.underlying23 (by kernel_rfl) cells_cl hv h
  obtain ⟨a, e0, _, f0⟩ := DataW.trod_int Try.underlying3 h0
  obtain ⟨b, e1, _, f1⟩ := DataW.trod_int Try.underlying3 h1
  obtain ⟨c, e2, _, f2⟩ := DataW.trod_int Try.underlying3 h2
  simp at e0 e1 e2
  subst e0 e1 e2
  exact ⟨a, b, c, rfl, i64_wf f0, i64_wf f1, i64_wf f2⟩

theorem tn_of {n : Nat} {cs : List Value} {spare : Nat → Bool} {y : DataW H × List MemPlace} (hl : cs.length = 3) (h : DataW.trod enc Try.prog w base spare held n 41 cs = some y) :
    ∃ t : Tn, cs = [.int .u32 t.a, .int .u32 t.v, .int .u32 t.h] ∧ t.U32 := by
  match cs, hl with
  | [c0, c1, c2], _ =>
    obtain ⟨y0, y1, y2, m, _, _, h0, h1, h2⟩ := trod_struct3 Try.underlying41 h
    simp [cells_u32] at h0 h1 h2
    obtain ⟨a, e0, _, f0⟩ := DataW.trod_int Try.underlying39 h0
    obtain ⟨b, e1, _, f1⟩ := DataW.trod_int Try.underlying39 h1
    obtain ⟨c, e2, _, f2⟩ := DataW.trod_int Try.underlying39 h2
    simp at e0 e1 e2
    subst e0 e1 e2
    exact ⟨⟨a, b, c⟩, rfl, u32_wf f0, u32_wf f1, u32_wf f2⟩

theorem open_tns {v : Value} {d : DataW H} {p : List MemPlace} (hv : Value.okWide Try.prog w r b0 37 v) (h : DataW.Trod enc Try.prog w base (fun _ => true) held 37 v d p) :
    ∃ (A : Option Addr) (len cap : Nat) (l : List Tn), v = .slice A len cap ∧ RowT w.heap.size w A len l ∧ len ≤ cap ∧ cap ≤ 9223372036854775807 ∧ (A = none → cap = 0) := by
  obtain ⟨A, len, cap, rfl⟩ := okWide_slice Try.underlying37 hv
  obtain ⟨fuel, hf⟩ := h
  rcases open_slice Try.underlying37 hf with ⟨hcs, _⟩ | ⟨a, l, c, m, n, D, Pl, hcs, _, hl, hm, hmm, _, hx⟩
  · simp [Value.cells] at hcs
    obtain ⟨rfl, rfl, rfl⟩ := hcs
    exact ⟨none, 0, 0, [], rfl, ⟨rfl, (fun h => absurd h (by omega)), by simp⟩, by omega, by omega, fun _ => rfl⟩
  · simp [Value.cells] at hcs
    obtain ⟨rfl, rfl, rfl⟩ := hcs
    simp only [if_true] at hmm
    rw [cells_tn, hmm] at hx
    have each : ∀ i, i < len → ∃ s : Tn, TnAt w (a.add (i * 3)) s ∧ s.U32 := fun i hi => by
      obtain ⟨cs', h1, h2⟩ := hx i (by omega)
      obtain ⟨_, hlen, hcell⟩ := World.cells?_some h1
      obtain ⟨s, rfl, hs⟩ := tn_of hlen h2
      have e0 := hcell 0 (by omega)
      have e1 := hcell 1 (by omega)
      have e2 := hcell 2 (by omega)
      refine ⟨s, ⟨?_, ?_, ?_⟩, hs⟩
      · simpa [Addr.add] using e0
      · simpa [Addr.add] using e1
      · simpa [Addr.add] using e2
    obtain ⟨S, hS⟩ := choose_lt (α := Tn) each
    refine ⟨some a, len, cap, (List.range len).map S, rfl, ⟨by simp, fun hn => ⟨a, rfl, block_lt' (hS 0 hn).1.1, fun i hi => ?_⟩, fun s hs => ?_⟩, hl, by unfold maxLen at hm; omega, fun h => by cases h⟩
    · rw [show ((List.range len).map S).getD i Tn.nil = S i by simp [List.getD, hi]]
      exact (hS i hi).1
    · obtain ⟨i, hi, rfl⟩ := List.mem_map.1 hs
      exact (hS i (List.mem_range.1 hi)).2
end
end Go.Proofs.Ytihfafmockaljaa
