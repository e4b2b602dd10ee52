/- A region that draws its order, whose operations only read, and whose callees only lay blocks of their own: walked once, in the order of the text, in the class of the worlds in which what was in W is as it was (lib/clsgen.py writes the steps). -/
import Derived.Deep.QuietTactic
import Derived.BigQuiet
import Derived.Test.YtkeahbdeddjoeaaBase
namespace Go.Proofs.Ytkeahbdeddjoeaa
open Go.RowKit Go
set_option linter.unusedVariables false

/-- Worlds in which what was in W is as it was. -/
def Cls (W w' : World) : Prop := Below W.heap.size W w'
theorem wp_region_cls {P : Program} {id : Nat} {Q : Exit → Act → World → Prop} {a : Act} {w : World} {l : List Oper} (W : World) (hm : P.follows .mixedOrders = true) (hB : Region.lexB .any l.toArray = true) (hC : Cls W w.drew)
    (h : wpQuiet P l.toArray (Cls W) (fun a' => ∀ w', Cls W w' → Q .normal a' w') l a) : (Code.region id l.toArray true).wp P Q a w :=
  wp_region_quiet (C := Cls W) hm hB hC (by simpa using h)
end Go.Proofs.Ytkeahbdeddjoeaa
