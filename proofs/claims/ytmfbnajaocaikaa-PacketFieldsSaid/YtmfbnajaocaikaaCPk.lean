/- Layer 4's bytes in rows (gen/from_s04.py). -/
import Derived.LoopTactic
import Derived.Laws.Externs
import Derived.Laws.Bits64
import Derived.Test.YtmfbnajaocaikaaBase
import Derived.Test.YtmfbnajaocaikaaEnc
namespace Go.Proofs.Ytmfbnajaocaikaa
open Go.RowKit Go.Sort Go
set_option linter.unusedVariables false
set_option linter.unusedSimpArgs false

def Row8 (B : Nat) (w : World) (A : Option Addr) (len : Nat) (bs : List UInt8) : Prop :=
  bs.length = len ∧ RowV B w A len (fun i => .int .u8 ((bs.getD i 0).toNat : Int))
theorem Row8.step {w w' : World} {A : Option Addr} {len : Nat} {bs : List UInt8} (h : Row8 w.heap.size w A len bs) (b : Below w.heap.size w w') : Row8 w'.heap.size w' A len bs :=
  ⟨h.1, (h.2.below b).more b.size⟩
theorem take_snoc {α : Type} (zs : List α) (d : α) (k : Nat) (h : k < zs.length) : zs.take (k + 1) = zs.take k ++ [zs.getD k d] := by
  rw [List.take_succ_eq_append_getElem h]; simp [h]

end Go.Proofs.Ytmfbnajaocaikaa
