/-
  No cell of these rows narrows 'for every input' (looked for: loops, veiled, ifaces, maps, wideKeys, modest, calm, conditions, laid).
  DERIVED. THE GIVEN ROWS OF THIS SEAT. 6 by the template 'for every input the law returns true; each argument reads behind the call as it read before'; 0 by the template 'total and deterministic' (their statements: YtjjpcgfhoncmeaaTotals.lean).
  GIVEN WITH THE SEED: the statements are not yours to turn. If you find one false, say at which input.
  Laid BY PROGRAM, IN A SANDBOX (cutbox-rows.mjs): the forced cells as the released guide's own fill.sh prints them over the translation cf3d9de130b4fc42… (all of the seat's roots in one cut). By AI agents, Wed Nov 11 2026. No macro, syntax, notation, axiom, sorry.
-/
import Derived.Test.YtjjpcgfhoncmeaaChecked
import GoSem.Claim
import GoSem.ClaimJoined
import GoSem.ClaimMapViews
import Derived.JoinedTies
import Derived.KernelRfl
namespace Go.Proofs.Ytjjpcgfhoncmeaa
/- THE CELL 'sum', in the pinned program and in every row, IS THE sha256 OF THE DUMP (.gsa) THAT YtjjpcgfhoncmeaaProg.lean LOADS. Nothing in Lean hashes anything: it is a label: what it is worth is what the hold of that sum in a sandbox is worth. -/
noncomputable def Try.pinned : Pinned := { name := "ytjjpcgfhoncmeaa", sum := "cf3d9de130b4fc423e1db33105fd6bfd245043621a71760abd7e532e85c5be57", checked := Try.checked }
namespace Rows
def none {H : Type} : Left H := { results := [], args := [] }

/-- 'regulatorlaw07.DriftMatchesReference': WHATEVER THE INPUT: true; the input reads as it did. -/
def driftMatchesReferenceSpec : ChangeSpec := { name := "driftMatchesReference", fn := fun _ => fun
  | [d1, d2, d3, d4, d5, d6] => { results := [.lit (.bool true)], args := [d1, d2, d3, d4, d5, d6] }
  | _ => none }
def driftMatchesReferenceRow : OpenClaim := { program := "ytjjpcgfhoncmeaa", sum := "cf3d9de130b4fc423e1db33105fd6bfd245043621a71760abd7e532e85c5be57", func := "regulator/regulatorlaw07.DriftMatchesReference", spec := "driftMatchesReference", unfollowed := true, recurses := true, named := ["math/bits.divideError", "math/bits.overflowError"], apart := false }
def DriftMatchesReferenceSaid : Prop := driftMatchesReferenceRow.holds Try.pinned (OpenSpec.ofChange driftMatchesReferenceSpec)

/-- ITS FALSE NEIGHBOUR: 'it returns false'. Refute it at one input. -/
def driftMatchesReferenceWrong : ChangeSpec := { name := "driftMatchesReference", fn := fun _ => fun
  | [d1, d2, d3, d4, d5, d6] => { results := [.lit (.bool false)], args := [d1, d2, d3, d4, d5, d6] }
  | _ => none }
def DriftMatchesReferenceWrongFalsely : Prop := driftMatchesReferenceRow.holds Try.pinned (OpenSpec.ofChange driftMatchesReferenceWrong)

/-- 'regulatorlaw07.DriftExact': WHATEVER THE INPUT: true; the input reads as it did. -/
def driftExactSpec : ChangeSpec := { name := "driftExact", fn := fun _ => fun
  | [d1, d2, d3] => { results := [.lit (.bool true)], args := [d1, d2, d3] }
  | _ => none }
def driftExactRow : OpenClaim := { program := "ytjjpcgfhoncmeaa", sum := "cf3d9de130b4fc423e1db33105fd6bfd245043621a71760abd7e532e85c5be57", func := "regulator/regulatorlaw07.DriftExact", spec := "driftExact", unfollowed := true, recurses := true, named := ["math/bits.divideError", "math/bits.overflowError"], apart := false }
def DriftExactSaid : Prop := driftExactRow.holds Try.pinned (OpenSpec.ofChange driftExactSpec)

/-- ITS FALSE NEIGHBOUR: 'it returns false'. Refute it at one input. -/
def driftExactWrong : ChangeSpec := { name := "driftExact", fn := fun _ => fun
  | [d1, d2, d3] => { results := [.lit (.bool false)], args := [d1, d2, d3] }
  | _ => none }
def DriftExactWrongFalsely : Prop := driftExactRow.holds Try.pinned (OpenSpec.ofChange driftExactWrong)

/-- 'regulatorlaw07.DriftOrder': WHATEVER THE INPUT: true; the input reads as it did. -/
def driftOrderSpec : ChangeSpec := { name := "driftOrder", fn := fun _ => fun
  | [d1, d2, d3, d4] => { results := [.lit (.bool true)], args := [d1, d2, d3, d4] }
  | _ => none }
def driftOrderRow : OpenClaim := { program := "ytjjpcgfhoncmeaa", sum := "cf3d9de130b4fc423e1db33105fd6bfd245043621a71760abd7e532e85c5be57", func := "regulator/regulatorlaw07.DriftOrder", spec := "driftOrder", unfollowed := true, recurses := true, named := ["math/bits.divideError", "math/bits.overflowError"], apart := false }
def DriftOrderSaid : Prop := driftOrderRow.holds Try.pinned (OpenSpec.ofChange driftOrderSpec)

/-- ITS FALSE NEIGHBOUR: 'it returns false'. Refute it at one input. -/
def driftOrderWrong : ChangeSpec := { name := "driftOrder", fn := fun _ => fun
  | [d1, d2, d3, d4] => { results := [.lit (.bool false)], args := [d1, d2, d3, d4] }
  | _ => none }
def DriftOrderWrongFalsely : Prop := driftOrderRow.holds Try.pinned (OpenSpec.ofChange driftOrderWrong)

/-- 'regulatorlaw07.DriftWorst': WHATEVER THE INPUT: true; the input reads as it did. -/
def driftWorstSpec : ChangeSpec := { name := "driftWorst", fn := fun _ => fun
  | [d1, d2, d3, d4, d5] => { results := [.lit (.bool true)], args := [d1, d2, d3, d4, d5] }
  | _ => none }
def driftWorstRow : OpenClaim := { program := "ytjjpcgfhoncmeaa", sum := "cf3d9de130b4fc423e1db33105fd6bfd245043621a71760abd7e532e85c5be57", func := "regulator/regulatorlaw07.DriftWorst", spec := "driftWorst", unfollowed := true, recurses := true, named := ["math/bits.divideError", "math/bits.overflowError"], apart := false }
def DriftWorstSaid : Prop := driftWorstRow.holds Try.pinned (OpenSpec.ofChange driftWorstSpec)

/-- ITS FALSE NEIGHBOUR: 'it returns false'. Refute it at one input. -/
def driftWorstWrong : ChangeSpec := { name := "driftWorst", fn := fun _ => fun
  | [d1, d2, d3, d4, d5] => { results := [.lit (.bool false)], args := [d1, d2, d3, d4, d5] }
  | _ => none }
def DriftWorstWrongFalsely : Prop := driftWorstRow.holds Try.pinned (OpenSpec.ofChange driftWorstWrong)

/-- 'regulatorlaw07.DriftSegments': WHATEVER THE INPUT: true; the input reads as it did. -/
def driftSegmentsSpec : ChangeSpec := { name := "driftSegments", fn := fun _ => fun
  | [d1, d2] => { results := [.lit (.bool true)], args := [d1, d2] }
  | _ => none }
def driftSegmentsRow : OpenClaim := { program := "ytjjpcgfhoncmeaa", sum := "cf3d9de130b4fc423e1db33105fd6bfd245043621a71760abd7e532e85c5be57", func := "regulator/regulatorlaw07.DriftSegments", spec := "driftSegments", unfollowed := true, recurses := true, named := ["math/bits.divideError", "math/bits.overflowError"], apart := false }
def DriftSegmentsSaid : Prop := driftSegmentsRow.holds Try.pinned (OpenSpec.ofChange driftSegmentsSpec)

/-- ITS FALSE NEIGHBOUR: 'it returns false'. Refute it at one input. -/
def driftSegmentsWrong : ChangeSpec := { name := "driftSegments", fn := fun _ => fun
  | [d1, d2] => { results := [.lit (.bool false)], args := [d1, d2] }
  | _ => none }
def DriftSegmentsWrongFalsely : Prop := driftSegmentsRow.holds Try.pinned (OpenSpec.ofChange driftSegmentsWrong)

/-- 'regulatorlaw07.DriftTruth': WHATEVER THE INPUT: true; the input reads as it did. -/
def driftTruthSpec : ChangeSpec := { name := "driftTruth", fn := fun _ => fun
  | [d1, d2, d3, d4] => { results := [.lit (.bool true)], args := [d1, d2, d3, d4] }
  | _ => none }
def driftTruthRow : OpenClaim := { program := "ytjjpcgfhoncmeaa", sum := "cf3d9de130b4fc423e1db33105fd6bfd245043621a71760abd7e532e85c5be57", func := "regulator/regulatorlaw07.DriftTruth", spec := "driftTruth", unfollowed := true, recurses := true, named := ["math/bits.divideError", "math/bits.overflowError"], apart := false }
def DriftTruthSaid : Prop := driftTruthRow.holds Try.pinned (OpenSpec.ofChange driftTruthSpec)

/-- ITS FALSE NEIGHBOUR: 'it returns false'. Refute it at one input. -/
def driftTruthWrong : ChangeSpec := { name := "driftTruth", fn := fun _ => fun
  | [d1, d2, d3, d4] => { results := [.lit (.bool false)], args := [d1, d2, d3, d4] }
  | _ => none }
def DriftTruthWrongFalsely : Prop := driftTruthRow.holds Try.pinned (OpenSpec.ofChange driftTruthWrong)

/- THE SECOND FORM. 'bulk': how many values and letters a reading holds, each counted each time it is reached (what is shared counts as often as it is met; a slice's spare places count too). A statement '..UptoSaid' is the law's where the arguments, and the package variables that the reading takes, are together of bulk at most 1048576: NARROWER than '..Said'. Prove '..Said' where nothing that the law and all that it calls make is longer than what came in: it says more and counts as full. Else prove '..UptoSaid'. A law counts once. -/
mutual
def uptoBulk {H : Type} : DataW H → Nat
  | .lit (.string bytes) => bytes.length + 1
  | .lit _ => 1
  | .nil => 1
  | .ptr d => uptoBulk d + 1
  | .slice elems spare => uptoBulkAll elems + uptoBulkAll spare + 1
  | .agg parts => uptoBulkAll parts + 1
  | .iface _ d => uptoBulk d + 1
  | .map entries => uptoBulkEntries entries + 1
  | .held _ => 1
def uptoBulkAll {H : Type} : List (DataW H) → Nat
  | [] => 0
  | d :: r => uptoBulk d + uptoBulkAll r
def uptoBulkEntries {H : Type} : List (Lit × DataW H) → Nat
  | [] => 0
  | x :: r => uptoBulkEntry x + uptoBulkEntries r
def uptoBulkEntry {H : Type} : Lit × DataW H → Nat
  | (.string bytes, d) => bytes.length + uptoBulk d + 1
  | (_, d) => uptoBulk d + 1
 end
def uptoSmall : (H : Type) → List (DataW H) → Bool := fun _ ds => decide (uptoBulkAll ds ≤ 1048576)
def OpenSpec.upto (s : _root_.Go.ChangeSpec) : _root_.Go.OpenSpec := { _root_.Go.OpenSpec.ofChange s with cond := some uptoSmall }

/-- 'regulatorlaw07.DriftMatchesReference', WHERE WHAT IT READS IS OF BULK AT MOST 1048576: true; the input reads as it did. -/
def driftMatchesReferenceUptoRow : OpenClaim := { program := "ytjjpcgfhoncmeaa", sum := "cf3d9de130b4fc423e1db33105fd6bfd245043621a71760abd7e532e85c5be57", func := "regulator/regulatorlaw07.DriftMatchesReference", spec := "driftMatchesReference", unfollowed := true, recurses := true, named := ["math/bits.divideError", "math/bits.overflowError"], apart := false, narrowed := true }
def DriftMatchesReferenceUptoSaid : Prop := driftMatchesReferenceUptoRow.holds Try.pinned (OpenSpec.upto driftMatchesReferenceSpec)

/-- 'regulatorlaw07.DriftExact', WHERE WHAT IT READS IS OF BULK AT MOST 1048576: true; the input reads as it did. -/
def driftExactUptoRow : OpenClaim := { program := "ytjjpcgfhoncmeaa", sum := "cf3d9de130b4fc423e1db33105fd6bfd245043621a71760abd7e532e85c5be57", func := "regulator/regulatorlaw07.DriftExact", spec := "driftExact", unfollowed := true, recurses := true, named := ["math/bits.divideError", "math/bits.overflowError"], apart := false, narrowed := true }
def DriftExactUptoSaid : Prop := driftExactUptoRow.holds Try.pinned (OpenSpec.upto driftExactSpec)

/-- 'regulatorlaw07.DriftOrder', WHERE WHAT IT READS IS OF BULK AT MOST 1048576: true; the input reads as it did. -/
def driftOrderUptoRow : OpenClaim := { program := "ytjjpcgfhoncmeaa", sum := "cf3d9de130b4fc423e1db33105fd6bfd245043621a71760abd7e532e85c5be57", func := "regulator/regulatorlaw07.DriftOrder", spec := "driftOrder", unfollowed := true, recurses := true, named := ["math/bits.divideError", "math/bits.overflowError"], apart := false, narrowed := true }
def DriftOrderUptoSaid : Prop := driftOrderUptoRow.holds Try.pinned (OpenSpec.upto driftOrderSpec)

/-- 'regulatorlaw07.DriftWorst', WHERE WHAT IT READS IS OF BULK AT MOST 1048576: true; the input reads as it did. -/
def driftWorstUptoRow : OpenClaim := { program := "ytjjpcgfhoncmeaa", sum := "cf3d9de130b4fc423e1db33105fd6bfd245043621a71760abd7e532e85c5be57", func := "regulator/regulatorlaw07.DriftWorst", spec := "driftWorst", unfollowed := true, recurses := true, named := ["math/bits.divideError", "math/bits.overflowError"], apart := false, narrowed := true }
def DriftWorstUptoSaid : Prop := driftWorstUptoRow.holds Try.pinned (OpenSpec.upto driftWorstSpec)

/-- 'regulatorlaw07.DriftSegments', WHERE WHAT IT READS IS OF BULK AT MOST 1048576: true; the input reads as it did. -/
def driftSegmentsUptoRow : OpenClaim := { program := "ytjjpcgfhoncmeaa", sum := "cf3d9de130b4fc423e1db33105fd6bfd245043621a71760abd7e532e85c5be57", func := "regulator/regulatorlaw07.DriftSegments", spec := "driftSegments", unfollowed := true, recurses := true, named := ["math/bits.divideError", "math/bits.overflowError"], apart := false, narrowed := true }
def DriftSegmentsUptoSaid : Prop := driftSegmentsUptoRow.holds Try.pinned (OpenSpec.upto driftSegmentsSpec)

/-- 'regulatorlaw07.DriftTruth', WHERE WHAT IT READS IS OF BULK AT MOST 1048576: true; the input reads as it did. -/
def driftTruthUptoRow : OpenClaim := { program := "ytjjpcgfhoncmeaa", sum := "cf3d9de130b4fc423e1db33105fd6bfd245043621a71760abd7e532e85c5be57", func := "regulator/regulatorlaw07.DriftTruth", spec := "driftTruth", unfollowed := true, recurses := true, named := ["math/bits.divideError", "math/bits.overflowError"], apart := false, narrowed := true }
def DriftTruthUptoSaid : Prop := driftTruthUptoRow.holds Try.pinned (OpenSpec.upto driftTruthSpec)

end Rows
end Go.Proofs.Ytjjpcgfhoncmeaa
