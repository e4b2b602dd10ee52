/- Layer 3: what Ints, Next and Pair of package digest return; nothing that was in memory is changed. -/
import Derived.Test.YtlmkegpkodcofaaDoorEight
namespace Go.Proofs.YtlmkegpkodcofaaDoor
open Go.RowKit Go.Sort Go
set_option linter.unusedVariables false

theorem ints_any (A : Option Addr) (len cap : Nat) (zs : List Int) (w : World) (hr : RowI w.heap.size w A len zs) (hl : len ≤ 9223372036854775807) (htab : Tab w) :
    Calls Tryd.prog 12 #[.slice A len cap] w (Gives (.int .u64 (fnv fnv0 (textOf zs) : Int)) w) := by
  have F := Lib.hid (foldInts_any fnv0 fnv0_lt A len cap zs w hr hl htab)
  unfold fnv0 at F
  clear htab
  go_enter Tryd.func12, Tryd.ntmps12
  go_wp2_with (go_at_call 22; refine F.out.mono ?_; rintro e w' ⟨rfl, hb⟩)
  go_ret
  exact ⟨rfl, hb⟩

theorem eight_parts (d : Nat) : ∃ x0 x1 x2 x3 x4 x5 x6 x7 : UInt8, eight d = [x0, x1, x2, x3, x4, x5, x6, x7] := ⟨_, _, _, _, _, _, _, _, rfl⟩

/-- A new block with cells is a slice of them. -/
theorem inRow_new (w : World) (T : TypeId) (cs : List Value) : InRow (w.alloc (.cells cs.toArray T)) w.heap.size T cs.length cs :=
  ⟨_, heap_alloc_new w _, by simp, by simp⟩
theorem InRow.step {w w' : World} {g T N : Nat} {xs : List Value} (h : InRow w g T N xs) (b : Below w.heap.size w w') : InRow w' g T N xs := h.same (b.block _ h.lt)

theorem next_any (d : Nat) (hd : d < 18446744073709551616) (A : Option Addr) (len cap : Nat) (zs : List Int) (w : World) (hr : RowI w.heap.size w A len zs) (hl : len ≤ 9223372036854775807) (htab : Tab w) :
    Calls Tryd.prog 14 #[.int .u64 d, .slice A len cap] w (Gives (.int .u64 (fnv fnv0 (eight d ++ textOf zs) : Int)) w) := by
  obtain ⟨x0, x1, x2, x3, x4, x5, x6, x7, hx⟩ := eight_parts d
  have HX := Lib.hid hx
  have HR := Lib.hid hr
  have HT := Lib.hid htab
  have HE : Hid (∀ w, Calls Tryd.prog 23 #[.int .u64 d] w (Gives (.agg #[.int .u8 (x0.toNat : Int), .int .u8 (x1.toNat : Int), .int .u8 (x2.toNat : Int), .int .u8 (x3.toNat : Int), .int .u8 (x4.toNat : Int), .int .u8 (x5.toNat : Int), .int .u8 (x6.toNat : Int), .int .u8 (x7.toNat : Int)]) w)) := fun w => by
    have := bytesOf_any d hd w
    rwa [hx] at this
  clear hx hr htab
  go_enter Tryd.func14, Tryd.ntmps14
  go_wp2_with (go_at_call 23; refine (HE.out _).mono ?_; rintro e w1 ⟨rfl, hb1⟩; refine Hid.out ?_)
  refine Lib.hid ?_
  have hI : InRow (w1.alloc (.cells #[.int .u8 (x0.toNat : Int), .int .u8 (x1.toNat : Int), .int .u8 (x2.toNat : Int), .int .u8 (x3.toNat : Int), .int .u8 (x4.toNat : Int), .int .u8 (x5.toNat : Int), .int .u8 (x6.toNat : Int), .int .u8 (x7.toNat : Int)] 43)) w1.heap.size 43 8 (Lib.byteCells (eight d)) := by
    rw [HX.out]; exact inRow_new _ _ _
  have HF := Lib.hid (fold_any fnv0 fnv0_lt _ _ 8 _ _ (hI.row8 (show 8 = (eight d).length from rfl)) (by omega))
  unfold fnv0 at HF
  have hb2 : Below w.heap.size w (w1.alloc (.cells #[.int .u8 (x0.toNat : Int), .int .u8 (x1.toNat : Int), .int .u8 (x2.toNat : Int), .int .u8 (x3.toNat : Int), .int .u8 (x4.toNat : Int), .int .u8 (x5.toNat : Int), .int .u8 (x6.toNat : Int), .int .u8 (x7.toNat : Int)] 43)) := hb1.alloc hb1.size _
  have HFI := Lib.hid (foldInts_any (fnv fnv0 (eight d)) (fnv_lt _ _ fnv0_lt) A len cap zs _ (HR.out.step hb2) hl (HT.out.step hb2))
  unfold fnv0 at HFI
  rw [← fnv_append] at HFI
  have HB := Lib.hid hb2
  clear hb1 hb2 hI
  go_wp2_with (first
    | (go_at_call 21; refine HF.out.mono ?_; rintro e w2 ⟨rfl, rfl⟩)
    | (go_at_call 22; refine HFI.out.mono ?_; rintro e w2 ⟨rfl, hb⟩))
  go_ret
  exact ⟨rfl, below_more HB.out hb⟩
end Go.Proofs.YtlmkegpkodcofaaDoor
