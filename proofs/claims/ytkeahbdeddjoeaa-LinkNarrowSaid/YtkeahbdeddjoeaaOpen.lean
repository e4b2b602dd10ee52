/- Layer 10: what is known of an argument that is a change, an interval, a range, an array of four, a slice of changes (gen/gen_open.py writes this). -/
import Derived.Test.YtkeahbdeddjoeaaFlat
import Derived.Test.YtkeahbdeddjoeaaLnk
namespace Go.Proofs.Ytkeahbdeddjoeaa
open Go.ChangeShapes Go.WideShapes Go.ChangeAt Go.RowKit Go.Joins Go.Deep
set_option linter.unusedVariables false

section
variable {H : Type} {enc : TypeId × Value → H} {w : World} {base b0 : Nat} {held : Bool} {r : Reach} {spare : Nat → Bool}
theorem open_ch {v : Value} {d : DataW H} {p : List MemPlace} (hv : Value.okWide Try.prog w r b0 24 v) (h : DataW.Trod enc Try.prog w base spare held 24 v d p) :
    ∃ (x0 : Int) (x1 : Int) (x2 : Int) (x3 : Int) (x4 : Int), v = .agg #[.int .i64 x0, .int .i64 x1, .int .i64 x2, .int .i64 x3, .int .i64 x4] ∧ (I64 x0) ∧ (I64 x1) ∧ (I64 x2) ∧ (I64 x3) ∧ (I64 x4) := by
  obtain ⟨cs, rfl, F⟩ := open_flat (ks := [FK.int .i64, FK.int .i64, FK.int .i64, FK.int .i64, FK.int .i64]) 4 (by kernel_rfl) (by kernel_rfl) (by kernel_rfl) hv h
  obtain ⟨_, l0, e0, ⟨x0, rfl, g0⟩, F⟩ := F.cons_inv
  obtain ⟨_, l1, e1, ⟨x1, rfl, g1⟩, F⟩ := F.cons_inv
  obtain ⟨_, l2, e2, ⟨x2, rfl, g2⟩, F⟩ := F.cons_inv
  obtain ⟨_, l3, e3, ⟨x3, rfl, g3⟩, F⟩ := F.cons_inv
  obtain ⟨_, l4, e4, ⟨x4, rfl, g4⟩, F⟩ := F.cons_inv
  have en := F.nil_inv
  have e : cs = #[.int .i64 x0, .int .i64 x1, .int .i64 x2, .int .i64 x3, .int .i64 x4] := by
    apply Array.ext'
    rw [e0, e1, e2, e3, e4, en]
  subst e
  exact ⟨x0, x1, x2, x3, x4, rfl, i64_wf g0, i64_wf g1, i64_wf g2, i64_wf g3, i64_wf g4⟩
theorem open_iw {v : Value} {d : DataW H} {p : List MemPlace} (hv : Value.okWide Try.prog w r b0 26 v) (h : DataW.Trod enc Try.prog w base spare held 26 v d p) :
    ∃ (x0 : Int) (x1 : Int), v = .agg #[.int .i64 x0, .int .i64 x1] ∧ (I64 x0) ∧ (I64 x1) := by
  obtain ⟨cs, rfl, F⟩ := open_flat (ks := [FK.int .i64, FK.int .i64]) 4 (by kernel_rfl) (by kernel_rfl) (by kernel_rfl) hv h
  obtain ⟨_, l0, e0, ⟨x0, rfl, g0⟩, F⟩ := F.cons_inv
  obtain ⟨_, l1, e1, ⟨x1, rfl, g1⟩, F⟩ := F.cons_inv
  have en := F.nil_inv
  have e : cs = #[.int .i64 x0, .int .i64 x1] := by
    apply Array.ext'
    rw [e0, e1, en]
  subst e
  exact ⟨x0, x1, rfl, i64_wf g0, i64_wf g1⟩
theorem open_rg {v : Value} {d : DataW H} {p : List MemPlace} (hv : Value.okWide Try.prog w r b0 27 v) (h : DataW.Trod enc Try.prog w base spare held 27 v d p) :
    ∃ (x0 : Int) (x1 : Int), v = .agg #[.int .i64 x0, .int .i64 x1] ∧ (I64 x0) ∧ (I64 x1) := by
  obtain ⟨cs, rfl, F⟩ := open_flat (ks := [FK.int .i64, FK.int .i64]) 4 (by kernel_rfl) (by kernel_rfl) (by kernel_rfl) hv h
  obtain ⟨_, l0, e0, ⟨x0, rfl, g0⟩, F⟩ := F.cons_inv
  obtain ⟨_, l1, e1, ⟨x1, rfl, g1⟩, F⟩ := F.cons_inv
  have en := F.nil_inv
  have e : cs = #[.int .i64 x0, .int .i64 x1] := by
    apply Array.ext'
    rw [e0, e1, en]
  subst e
  exact ⟨x0, x1, rfl, i64_wf g0, i64_wf g1⟩
theorem open_a16 {v : Value} {d : DataW H} {p : List MemPlace} (hv : Value.okWide Try.prog w r b0 45 v) (h : DataW.Trod enc Try.prog w base spare held 45 v d p) :
    ∃ (x0 : Int) (x1 : Int) (x2 : Int) (x3 : Int), v = .agg #[.int .u16 x0, .int .u16 x1, .int .u16 x2, .int .u16 x3] ∧ (0 ≤ x0 ∧ x0 ≤ 65535) ∧ (0 ≤ x1 ∧ x1 ≤ 65535) ∧ (0 ≤ x2 ∧ x2 ≤ 65535) ∧ (0 ≤ x3 ∧ x3 ≤ 65535) := by
  obtain ⟨cs, rfl, F⟩ := open_flat (ks := [FK.int .u16, FK.int .u16, FK.int .u16, FK.int .u16]) 4 (by kernel_rfl) (by kernel_rfl) (by kernel_rfl) hv h
  obtain ⟨_, l0, e0, ⟨x0, rfl, g0⟩, F⟩ := F.cons_inv
  obtain ⟨_, l1, e1, ⟨x1, rfl, g1⟩, F⟩ := F.cons_inv
  obtain ⟨_, l2, e2, ⟨x2, rfl, g2⟩, F⟩ := F.cons_inv
  obtain ⟨_, l3, e3, ⟨x3, rfl, g3⟩, F⟩ := F.cons_inv
  have en := F.nil_inv
  have e : cs = #[.int .u16 x0, .int .u16 x1, .int .u16 x2, .int .u16 x3] := by
    apply Array.ext'
    rw [e0, e1, e2, e3, en]
  subst e
  exact ⟨x0, x1, x2, x3, rfl, u16_wf g0, u16_wf g1, u16_wf g2, u16_wf g3⟩
theorem open_chs {v : Value} {d : DataW H} {p : List MemPlace} (hv : Value.okWide Try.prog w r b0 22 v) (h : DataW.Trod enc Try.prog w base (fun _ => true) held 22 v d p) :
    ∃ (A : Option Addr) (len cap : Nat) (l : List Ch), v = .slice A len cap ∧ RowC w.heap.size w A len l ∧ len ≤ cap ∧ cap ≤ 9223372036854775807 ∧ (A = none → cap = 0) := by
  obtain ⟨A, len, cap, rfl, hl, hc, hn, hx⟩ := open_flatS (ks := [FK.int .i64, FK.int .i64, FK.int .i64, FK.int .i64, FK.int .i64]) 4 Try.underlying22 (by kernel_rfl) (by kernel_rfl) hv h
  rcases Nat.eq_zero_or_pos len with h0 | h0
  · subst h0
    exact ⟨A, 0, cap, [], rfl, ⟨rfl, fun h => absurd h (by omega), by simp⟩, hl, hc, hn⟩
  obtain ⟨a, rfl, hx2⟩ := hx h0
  have each : ∀ i, i < len → ∃ s : Ch, ChAt w (a.add (i * 5)) s ∧ s.Int64 := fun i hi => by
    obtain ⟨cs, hlen, hcell, F⟩ := hx2 i hi
    have hcell' : ∀ j, j < 5 → w.cell? ((a.add (i * 5)).add j) = cs[j]? := hcell
    obtain ⟨_, l0, e0, ⟨x0, rfl, g0⟩, F⟩ := F.cons_inv
    obtain ⟨_, l1, e1, ⟨x1, rfl, g1⟩, F⟩ := F.cons_inv
    obtain ⟨_, l2, e2, ⟨x2, rfl, g2⟩, F⟩ := F.cons_inv
    obtain ⟨_, l3, e3, ⟨x3, rfl, g3⟩, F⟩ := F.cons_inv
    obtain ⟨_, l4, e4, ⟨x4, rfl, g4⟩, F⟩ := F.cons_inv
    have en := F.nil_inv
    have e : cs = [.int .i64 x0, .int .i64 x1, .int .i64 x2, .int .i64 x3, .int .i64 x4] := by rw [e0, e1, e2, e3, e4, en]
    subst e
    have c0 := hcell' 0 (by omega)
    have c1 := hcell' 1 (by omega)
    have c2 := hcell' 2 (by omega)
    have c3 := hcell' 3 (by omega)
    have c4 := hcell' 4 (by omega)
    refine ⟨⟨x0, x1, x2, x3, x4⟩, ⟨?_, ?_, ?_, ?_, ?_⟩, i64_wf g0, i64_wf g1, i64_wf g2, i64_wf g3, i64_wf g4⟩
    · simpa [Addr.add] using c0
    · simpa [Addr.add] using c1
    · simpa [Addr.add] using c2
    · simpa [Addr.add] using c3
    · simpa [Addr.add] using c4
  obtain ⟨S, hS⟩ := choose_lt (α := Ch) each
  have hb : a.block < w.heap.size := by
    have := World.block_lt_of_cell? w _ (hS 0 h0).1.1
    rwa [block_of_add] at this
  refine ⟨some a, len, cap, (List.range len).map S, rfl, ⟨by simp, fun hn => ⟨a, rfl, hb, fun i hi => ?_⟩, fun s hs => ?_⟩, hl, hc, hn⟩
  · rw [show ((List.range len).map S).getD i Ch.nil = S i by simp [List.getD, hi]]
    exact (hS i hi).1
  · obtain ⟨i, hi, rfl⟩ := List.mem_map.1 hs
    exact (hS i (List.mem_range.1 hi)).2
end
end Go.Proofs.Ytkeahbdeddjoeaa
