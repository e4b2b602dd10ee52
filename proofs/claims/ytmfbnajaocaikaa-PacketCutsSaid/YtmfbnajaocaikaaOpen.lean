/- Layer 11: what is known of an argument that is a request, a reply, a slice of bytes (gen/gen_open.py writes this). -/
import Derived.ChangeSlices
import Derived.Test.YtmfbnajaocaikaaFlat
import Derived.Test.YtmfbnajaocaikaaPkt
namespace Go.Proofs.Ytmfbnajaocaikaa
open Go.ChangeShapes Go.WideShapes Go.ChangeAt Go.RowKit Go.Joins Go.Deep
set_option linter.unusedVariables false

theorem cells_u8 : Try.prog.cellsOf 5 = 1 := by kernel_rfl
section
variable {H : Type} {enc : TypeId × Value → H} {w : World} {base b0 : Nat} {held : Bool} {r : Reach} {spare : Nat → Bool}
theorem block_lt' {p : Addr} {i : Nat} {u : Value} (c : w.cell? (p.add i) = some u) : p.block < w.heap.size := by
  have := World.block_lt_of_cell? w _ c
  rwa [block_of_add] at this
theorem open_rq {v : Value} {d : DataW H} {p : List MemPlace} (hv : Value.okWide Try.prog w r b0 24 v) (h : DataW.Trod enc Try.prog w base spare held 24 v d p) :
    ∃ (x0 : Int) (x1 : Int) (x2 : Int) (x3 : Int), v = .agg #[.int .i64 x0, .int .i64 x1, .int .i64 x2, .int .u64 x3] ∧ (I64 x0) ∧ (I64 x1) ∧ (I64 x2) ∧ (0 ≤ x3 ∧ x3 ≤ 18446744073709551615) := by
  obtain ⟨cs, rfl, F⟩ := open_flat (ks := [FK.int .i64, FK.int .i64, FK.int .i64, FK.int .u64]) 4 (by kernel_rfl) (by kernel_rfl) (by kernel_rfl) hv h
  obtain ⟨_, l0, e0, ⟨x0, rfl, g0⟩, F⟩ := F.cons_inv
  obtain ⟨_, l1, e1, ⟨x1, rfl, g1⟩, F⟩ := F.cons_inv
  obtain ⟨_, l2, e2, ⟨x2, rfl, g2⟩, F⟩ := F.cons_inv
  obtain ⟨_, l3, e3, ⟨x3, rfl, g3⟩, F⟩ := F.cons_inv
  have en := F.nil_inv
  have e : cs = #[.int .i64 x0, .int .i64 x1, .int .i64 x2, .int .u64 x3] := by
    apply Array.ext'
    rw [e0, e1, e2, e3, en]
  subst e
  exact ⟨x0, x1, x2, x3, rfl, i64_wf g0, i64_wf g1, i64_wf g2, u64_wf g3⟩
theorem open_rp {v : Value} {d : DataW H} {p : List MemPlace} (hv : Value.okWide Try.prog w r b0 30 v) (h : DataW.Trod enc Try.prog w base spare held 30 v d p) :
    ∃ (x0 : Int) (x1 : Int) (x2 : Int) (x3 : Int) (x4 : Int) (x5 : Int) (x6 : Int) (x7 : Int) (x8 : Int) (x9 : Int), v = .agg #[.int .i64 x0, .int .i64 x1, .int .i64 x2, .int .u64 x3, .int .i64 x4, .int .i64 x5, .int .i64 x6, .int .i64 x7, .int .i64 x8, .int .i64 x9] ∧ (I64 x0) ∧ (I64 x1) ∧ (I64 x2) ∧ (0 ≤ x3 ∧ x3 ≤ 18446744073709551615) ∧ (I64 x4) ∧ (I64 x5) ∧ (I64 x6) ∧ (I64 x7) ∧ (I64 x8) ∧ (I64 x9) := by
  obtain ⟨cs, rfl, F⟩ := open_flat (ks := [FK.int .i64, FK.int .i64, FK.int .i64, FK.int .u64, FK.int .i64, FK.int .i64, FK.int .i64, FK.int .i64, FK.int .i64, FK.int .i64]) 4 (by kernel_rfl) (by kernel_rfl) (by kernel_rfl) hv h
  obtain ⟨_, l0, e0, ⟨x0, rfl, g0⟩, F⟩ := F.cons_inv
  obtain ⟨_, l1, e1, ⟨x1, rfl, g1⟩, F⟩ := F.cons_inv
  obtain ⟨_, l2, e2, ⟨x2, rfl, g2⟩, F⟩ := F.cons_inv
  obtain ⟨_, l3, e3, ⟨x3, rfl, g3⟩, F⟩ := F.cons_inv
  obtain ⟨_, l4, e4, ⟨x4, rfl, g4⟩, F⟩ := F.cons_inv
  obtain ⟨_, l5, e5, ⟨x5, rfl, g5⟩, F⟩ := F.cons_inv
  obtain ⟨_, l6, e6, ⟨x6, rfl, g6⟩, F⟩ := F.cons_inv
  obtain ⟨_, l7, e7, ⟨x7, rfl, g7⟩, F⟩ := F.cons_inv
  obtain ⟨_, l8, e8, ⟨x8, rfl, g8⟩, F⟩ := F.cons_inv
  obtain ⟨_, l9, e9, ⟨x9, rfl, g9⟩, F⟩ := F.cons_inv
  have en := F.nil_inv
  have e : cs = #[.int .i64 x0, .int .i64 x1, .int .i64 x2, .int .u64 x3, .int .i64 x4, .int .i64 x5, .int .i64 x6, .int .i64 x7, .int .i64 x8, .int .i64 x9] := by
    apply Array.ext'
    rw [e0, e1, e2, e3, e4, e5, e6, e7, e8, e9, en]
  subst e
  exact ⟨x0, x1, x2, x3, x4, x5, x6, x7, x8, x9, rfl, i64_wf g0, i64_wf g1, i64_wf g2, u64_wf g3, i64_wf g4, i64_wf g5, i64_wf g6, i64_wf g7, i64_wf g8, i64_wf g9⟩
theorem open_b8 {v : Value} {d : DataW H} {p : List MemPlace} (hv : Value.okWide Try.prog w r b0 31 v) (h : DataW.Trod enc Try.prog w base (fun _ => true) held 31 v d p) :
    ∃ (A : Option Addr) (len cap : Nat) (bs : List UInt8), v = .slice A len cap ∧ Row8 w.heap.size w A len bs ∧ len ≤ cap ∧ cap ≤ 9223372036854775807 ∧ (A = none → cap = 0) := by
  obtain ⟨A, len, cap, rfl⟩ := okWide_slice Try.underlying31 hv
  obtain ⟨fuel, hf⟩ := h
  rcases open_ints Try.underlying31 Try.underlying5 cells_u8 hf with ⟨hcs, _⟩ | ⟨a, l, c, zs, hcs, _, hl, hm, hlen, _, hc, hw⟩
  · simp [Value.cells] at hcs
    obtain ⟨rfl, rfl, rfl⟩ := hcs
    exact ⟨none, 0, 0, [], rfl, ⟨rfl, (fun h => absurd h (by omega))⟩, by omega, by omega, fun _ => rfl⟩
  · simp [Value.cells] at hcs
    obtain ⟨rfl, rfl, rfl⟩ := hcs
    simp only [if_true] at hlen
    refine ⟨some a, len, cap, (zs.take len).map fun z => UInt8.ofNat z.toNat, rfl, ⟨by simp; omega, fun hn => ⟨a, rfl, block_lt' (hc 0 (by omega)), fun i hi => ?_⟩⟩, hl, by unfold maxLen at hm; omega, fun h => by cases h⟩
    rw [hc i (by omega)]
    have hz : zs.getD i 0 ∈ zs := by
      have : i < zs.length := by omega
      simp [List.getD, this]
    obtain ⟨b1, b2⟩ := u8_wf (hw _ hz)
    have hi2 : i < zs.length := by omega
    have e : ((zs.take len).map fun z => UInt8.ofNat z.toNat).getD i 0 = UInt8.ofNat (zs.getD i 0).toNat := by
      simp [List.getD, hi, hi2]
    show _ = some (Value.int .u8 ((((zs.take len).map fun z => UInt8.ofNat z.toNat).getD i 0).toNat : Int))
    rw [e]
    simp only [UInt8.toNat_ofNat']
    congr 2
    omega
end
end Go.Proofs.Ytmfbnajaocaikaa
