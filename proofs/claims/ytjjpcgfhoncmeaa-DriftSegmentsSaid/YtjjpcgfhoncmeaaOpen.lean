/- Layer 7: what is known of an argument that is a range, a table, or a slice of segments. -/
import Derived.WalkKit
import Derived.ProofKit
import Derived.OpenShut
import Derived.ShutString
import Derived.ChangeOld
import Derived.ChangeSlices
import Derived.ChangeSame
import Derived.Below
import Derived.Deep.Matrix
import Derived.Deep.Slices
import Derived.Lib.SmallJoins
import Derived.Test.YtjjpcgfhoncmeaaOwnS
namespace Go.Proofs.Ytjjpcgfhoncmeaa
open Go.ChangeShapes Go.WideShapes Go.ChangeAt Go.RowKit Go.Joins Go.Deep
set_option linter.unusedVariables false

theorem cells_int : Try.prog.cellsOf 3 = 1 := by kernel_rfl
theorem cells_ints : Try.prog.cellsOf 22 = 1 := by kernel_rfl
theorem cells_rg : Try.prog.cellsOf 27 = 2 := by kernel_rfl
theorem cells_tb : Try.prog.cellsOf 25 = 3 := by kernel_rfl
theorem cells_seg : Try.prog.cellsOf 45 = 5 := by kernel_rfl
section
variable {H : Type} {enc : TypeId × Value → H} {w : World} {base b0 : Nat} {held : Bool} {r : Reach}

theorem block_lt' {p : Addr} {i : Nat} {u : Value} (c : w.cell? (p.add i) = some u) : p.block < w.heap.size := by
  have := World.block_lt_of_cell? w _ c
  rwa [block_of_add] at this

theorem open_rg {v : Value} {d : DataW H} {p : List MemPlace} {spare : Nat → Bool} (hv : Value.okWide Try.prog w r b0 27 v) (h : DataW.Trod enc Try.prog w base spare held 27 v d p) :
    ∃ a b : Int, v = .agg #[.int .i64 a, .int .i64 b] ∧ I64 a ∧ I64 b := by
  obtain ⟨v0, v1, y0, y1, n, rfl, _, _, h0, h1⟩ := open_agg2 Try.underlying27 (by kernel_rfl) cells_rg hv h
  obtain ⟨a, e0, _, f0⟩ := DataW.trod_int Try.underlying3 h0
  obtain ⟨b, e1, _, f1⟩ := DataW.trod_int Try.underlying3 h1
  simp at e0 e1
  subst e0 e1
  exact ⟨a, b, rfl, i64_wf f0, i64_wf f1⟩

theorem row_bi {n : Nat} {v : Value} {y : DataW H × List MemPlace} (h : DataW.trod enc Try.prog w base (fun _ => true) held n 22 [v] = some y) :
    ∃ (A : Option Addr) (len cap : Nat) (zs : List Int), v = .slice A len cap ∧ RowI w.heap.size w A len zs ∧ len ≤ cap ∧ cap ≤ 9223372036854775807 ∧ (A = none → cap = 0) := by
  rcases open_ints Try.underlying22 Try.underlying3 cells_int h with ⟨hcs, _⟩ | ⟨a, l, c, zs, hcs, _, hl, hm, hlen, _, hc, hw⟩
  · simp at hcs
    exact ⟨none, 0, 0, [], hcs, ⟨rfl, (fun h => absurd h (by omega)), by simp⟩, by omega, by omega, fun _ => rfl⟩
  · simp at hcs
    simp only [if_true] at hlen
    refine ⟨some a, l, c, zs.take l, hcs, ⟨by simp; omega, (fun hn => ⟨a, rfl, block_lt' (hc 0 (by omega)), fun i hi => ?_⟩), fun x hx => ?_⟩, hl, by unfold maxLen at hm; omega, fun h => by cases h⟩
    · rw [hc i (by omega)]
      simp [List.getD, hi]
    · exact i64_wf (hw x (List.mem_of_mem_take hx))

theorem row_bl {n : Nat} {v : Value} {y : DataW H × List MemPlace} (h : DataW.trod enc Try.prog w base (fun _ => true) held n 23 [v] = some y) :
    ∃ (A : Option Addr) (len cap : Nat) (ls : List (List Int)), v = .slice A len cap ∧ RowL w.heap.size w A len ls ∧ len ≤ cap ∧ cap ≤ 9223372036854775807 ∧ (A = none → cap = 0) := by
  rcases open_int_rows Try.underlying23 Try.underlying22 Try.underlying3 cells_ints cells_int h with ⟨hcs, _⟩ | ⟨a, len, cap, A, L, C, Z, hcs, _, hl, hm, hx, hr⟩
  · simp at hcs
    exact ⟨none, 0, 0, [], hcs, ⟨rfl, fun _ => undef, fun h => absurd h (by omega), fun i hi => absurd hi (by omega)⟩, by omega, by omega, fun _ => rfl⟩
  · simp at hcs
    have hgd : ∀ i, i < len → ((List.range len).map fun r => (Z r).take (L r)).getD i [] = (Z i).take (L i) := fun i hi => by simp [List.getD, hi]
    refine ⟨some a, len, cap, (List.range len).map fun r => (Z r).take (L r), hcs, ⟨by simp, fun r => .slice (A r) (L r) (C r), fun hn => ⟨a, rfl, block_lt' (hr 0 (by omega)).1, fun i hi => (hr i (by omega)).1⟩, fun i hi => ?_⟩, hl, by unfold maxLen at hm; omega, (fun h => by cases h)⟩
    obtain ⟨h1, h2, h3, h4, h5, h6, h7⟩ := hr i (by omega)
    refine ⟨A i, L i, C i, rfl, by unfold maxLen at h3; omega, ?_⟩
    rw [hgd i hi]
    refine ⟨by rw [List.length_take]; omega, fun hn => ?_, fun x hx => i64_wf (h5 x (List.mem_of_mem_take hx))⟩
    cases hA : A i with
    | none => have := h6 hA; omega
    | some a' =>
      obtain ⟨_, h8⟩ := h7 a' hA
      refine ⟨a', rfl, block_lt' (h8 0 (by omega)), fun j hj => ?_⟩
      rw [h8 j (by omega)]
      simp [List.getD, hj]

theorem open_tb {v : Value} {d : DataW H} {p : List MemPlace} (hv : Value.okWide Try.prog w r b0 25 v) (h : DataW.Trod enc Try.prog w base (fun _ => true) held 25 v d p) :
    ∃ T : Tb, v = T.val ∧ T.At w ∧ T.Room := by
  obtain ⟨v0, v1, v2, y0, y1, y2, n, rfl, _, _, h0, h1, h2⟩ := open_agg3 Try.underlying25 (by kernel_rfl) cells_tb hv h
  obtain ⟨A0, n0, c0, tm, rfl, r0, l0, m0, z0⟩ := row_bi h0
  obtain ⟨A1, n1, c1, ag, rfl, r1, l1, m1, z1⟩ := row_bi h1
  obtain ⟨A2, n2, c2, rt, rfl, r2, l2, m2, z2⟩ := row_bl h2
  exact ⟨⟨A0, A1, A2, n0, c0, n1, c1, n2, c2, tm, ag, rt⟩, rfl, ⟨r0, r1, r2, Nat.le_trans l0 m0, Nat.le_trans l1 m1, Nat.le_trans l2 m2⟩, ⟨l0, m0, z0⟩, ⟨l1, m1, z1⟩, l2, m2, z2⟩

theorem two_ints {n : Nat} {u v : Value} {spare : Nat → Bool} {y : DataW H × List MemPlace} (h : DataW.trod enc Try.prog w base spare held n 27 [u, v] = some y) :
    ∃ a b : Int, u = .int .i64 a ∧ v = .int .i64 b ∧ I64 a ∧ I64 b := by
  obtain ⟨y0, y1, m, _, _, h0, h1⟩ := trod_struct2 Try.underlying27 h
  simp [cells_int] at h0 h1
  obtain ⟨a, e0, _, f0⟩ := DataW.trod_int Try.underlying3 h0
  obtain ⟨b, e1, _, f1⟩ := DataW.trod_int Try.underlying3 h1
  simp at e0 e1
  exact ⟨a, b, e0, e1, i64_wf f0, i64_wf f1⟩

theorem sg_of {n : Nat} {cs : List Value} {spare : Nat → Bool} {y : DataW H × List MemPlace} (hl : cs.length = 5) (h : DataW.trod enc Try.prog w base spare held n 45 cs = some y) :
    ∃ s : Sg, cs = encS s ∧ s.Int64 := by
  match cs, hl with
  | [c0, c1, c2, c3, c4], _ =>
    obtain ⟨y0, y1, y2, m, _, _, h0, h1, h2⟩ := trod_struct3 Try.underlying45 h
    simp [cells_int, cells_rg] at h0 h1 h2
    obtain ⟨a, e0, _, f0⟩ := DataW.trod_int Try.underlying3 h0
    simp at e0
    obtain ⟨tl, th, rfl, rfl, f1, f2⟩ := two_ints h1
    obtain ⟨al, ah, rfl, rfl, f3, f4⟩ := two_ints h2
    subst e0
    exact ⟨⟨a, tl, th, al, ah⟩, rfl, i64_wf f0, f1, f2, f3, f4⟩

theorem open_sgs {v : Value} {d : DataW H} {p : List MemPlace} (hv : Value.okWide Try.prog w r b0 28 v) (h : DataW.Trod enc Try.prog w base (fun _ => true) held 28 v d p) :
    ∃ (A : Option Addr) (len cap : Nat) (l : List Sg), v = .slice A len cap ∧ RowS w.heap.size w A len l ∧ len ≤ cap ∧ cap ≤ 9223372036854775807 ∧ (A = none → cap = 0) := by
  obtain ⟨A, len, cap, rfl⟩ := okWide_slice Try.underlying28 hv
  obtain ⟨fuel, hf⟩ := h
  rcases open_slice Try.underlying28 hf with ⟨hcs, _⟩ | ⟨a, l, c, m, n, D, Pl, hcs, _, hl, hm, hmm, _, hx⟩
  · simp [Value.cells] at hcs
    obtain ⟨rfl, rfl, rfl⟩ := hcs
    exact ⟨none, 0, 0, [], rfl, ⟨rfl, (fun h => absurd h (by omega)), by simp⟩, by omega, by omega, fun _ => rfl⟩
  · simp [Value.cells] at hcs
    obtain ⟨rfl, rfl, rfl⟩ := hcs
    simp only [if_true] at hmm
    rw [cells_seg, hmm] at hx
    have each : ∀ i, i < len → ∃ s : Sg, SgAt w (a.add (i * 5)) s ∧ s.Int64 := fun i hi => by
      obtain ⟨cs', h1, h2⟩ := hx i (by omega)
      obtain ⟨_, hlen, hcell⟩ := World.cells?_some h1
      obtain ⟨s, rfl, hs⟩ := sg_of hlen h2
      have e0 := hcell 0 (by omega)
      have e1 := hcell 1 (by omega)
      have e2 := hcell 2 (by omega)
      have e3 := hcell 3 (by omega)
      have e4 := hcell 4 (by omega)
      refine ⟨s, ⟨?_, ?_, ?_, ?_, ?_⟩, hs⟩
      · simpa [encS, Addr.add] using e0
      · simpa [encS, Addr.add] using e1
      · simpa [encS, Addr.add] using e2
      · simpa [encS, Addr.add] using e3
      · simpa [encS, Addr.add] using e4
    obtain ⟨S, hS⟩ := choose_lt (α := Sg) each
    refine ⟨some a, len, cap, (List.range len).map S, rfl, ⟨by simp, fun hn => ⟨a, rfl, block_lt' (hS 0 hn).1.1, fun i hi => ?_⟩, fun s hs => ?_⟩, hl, by unfold maxLen at hm; omega, fun h => by cases h⟩
    · rw [show ((List.range len).map S).getD i Sg.nil = S i by simp [List.getD, hi]]
      exact (hS i hi).1
    · obtain ⟨i, hi, rfl⟩ := List.mem_map.1 hs
      exact (hS i (List.mem_range.1 hi)).2
end
end Go.Proofs.Ytjjpcgfhoncmeaa
