/- Layer 3: what Ints, Next and Pair of package digest return; nothing that was in memory is changed. -/
import Derived.Test.YtlimkcodbmafaaaDoorInts
namespace Go.Proofs.YtlimkcodbmafaaaDoor
open Go.RowKit Go.Sort Go
set_option linter.unusedVariables false

theorem ints_any (A : Option Addr) (len cap : Nat) (zs : List Int) (w : World) (hr : RowI w.heap.size w A len zs) (hl : len ≤ 9223372036854775807) (htab : Tab w) :
    Calls Tryd.prog 39 #[.slice A len cap] w (Gives (.int .u64 (fnv fnv0 (textOf zs) : Int)) w) := by
  have F := Lib.hid (foldInts_any fnv0 fnv0_lt A len cap zs w hr hl htab)
  unfold fnv0 at F
  clear htab
  go_enter Tryd.func39, Tryd.ntmps39
  go_wp2_with (go_at_call 44; refine F.out.mono ?_; rintro e w' ⟨rfl, hb⟩)
  go_ret
  exact ⟨rfl, hb⟩

/-- A new block with cells is a slice of them. -/
theorem inRow_new (w : World) (T : TypeId) (cs : List Value) : InRow (w.alloc (.cells cs.toArray T)) w.heap.size T cs.length cs :=
  ⟨_, heap_alloc_new w _, by simp, by simp⟩
theorem InRow.step {w w' : World} {g T N : Nat} {xs : List Value} (h : InRow w g T N xs) (b : Below w.heap.size w w') : InRow w' g T N xs := h.same (b.block _ h.lt)

end Go.Proofs.YtlimkcodbmafaaaDoor
