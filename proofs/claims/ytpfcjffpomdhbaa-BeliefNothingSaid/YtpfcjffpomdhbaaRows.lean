/-
  No cell of these rows narrows 'for every input' (looked for: loops, veiled, ifaces, maps, wideKeys, modest, calm, conditions, laid).
  DERIVED. THE GIVEN ROWS OF THIS SEAT. 8 by the template 'for every input the law returns true; each argument reads behind the call as it read before'; 0 by the template 'total and deterministic' (their statements: YtpfcjffpomdhbaaTotals.lean).
  GIVEN WITH THE SEED: the statements are not yours to turn. If you find one false, say at which input.
  Laid BY PROGRAM, IN A SANDBOX (cutbox-rows.mjs): the forced cells as the released guide's own fill.sh prints them over the translation 265c35ddbb967841… (all of the seat's roots in one cut). By AI agents, Wed Nov 11 2026. No macro, syntax, notation, axiom, sorry.
-/
import Derived.Test.YtpfcjffpomdhbaaChecked
import GoSem.Claim
import GoSem.ClaimJoined
import GoSem.ClaimMapViews
import Derived.JoinedTies
import Derived.KernelRfl
namespace Go.Proofs.Ytpfcjffpomdhbaa
/- THE CELL 'sum', in the pinned program and in every row, IS THE sha256 OF THE DUMP (.gsa) THAT YtpfcjffpomdhbaaProg.lean LOADS. Nothing in Lean hashes anything: it is a label: what it is worth is what the hold of that sum in a sandbox is worth. -/
noncomputable def Try.pinned : Pinned := { name := "ytpfcjffpomdhbaa", sum := "265c35ddbb9678411fe2bb3995aa39bd1172b4f0722e4d4f966df1dcd33be619", checked := Try.checked }
namespace Rows
def none {H : Type} : Left H := { results := [], args := [] }

/-- 'regulatorlaw08.BeliefMatchesReference': WHATEVER THE INPUT: true; the input reads as it did. -/
def beliefMatchesReferenceSpec : ChangeSpec := { name := "beliefMatchesReference", fn := fun _ => fun
  | [d1, d2, d3, d4, d5] => { results := [.lit (.bool true)], args := [d1, d2, d3, d4, d5] }
  | _ => none }
def beliefMatchesReferenceRow : OpenClaim := { program := "ytpfcjffpomdhbaa", sum := "265c35ddbb9678411fe2bb3995aa39bd1172b4f0722e4d4f966df1dcd33be619", func := "regulator/regulatorlaw08.BeliefMatchesReference", spec := "beliefMatchesReference", unfollowed := true, recurses := true, named := ["math/bits.divideError", "math/bits.overflowError"], apart := false }
def BeliefMatchesReferenceSaid : Prop := beliefMatchesReferenceRow.holds Try.pinned (OpenSpec.ofChange beliefMatchesReferenceSpec)

/-- ITS FALSE NEIGHBOUR: 'it returns false'. Refute it at one input. -/
def beliefMatchesReferenceWrong : ChangeSpec := { name := "beliefMatchesReference", fn := fun _ => fun
  | [d1, d2, d3, d4, d5] => { results := [.lit (.bool false)], args := [d1, d2, d3, d4, d5] }
  | _ => none }
def BeliefMatchesReferenceWrongFalsely : Prop := beliefMatchesReferenceRow.holds Try.pinned (OpenSpec.ofChange beliefMatchesReferenceWrong)

/-- 'regulatorlaw08.BeliefTruth': WHATEVER THE INPUT: true; the input reads as it did. -/
def beliefTruthSpec : ChangeSpec := { name := "beliefTruth", fn := fun _ => fun
  | [d1, d2, d3, d4, d5] => { results := [.lit (.bool true)], args := [d1, d2, d3, d4, d5] }
  | _ => none }
def beliefTruthRow : OpenClaim := { program := "ytpfcjffpomdhbaa", sum := "265c35ddbb9678411fe2bb3995aa39bd1172b4f0722e4d4f966df1dcd33be619", func := "regulator/regulatorlaw08.BeliefTruth", spec := "beliefTruth", unfollowed := true, recurses := true, named := ["math/bits.divideError", "math/bits.overflowError"], apart := false }
def BeliefTruthSaid : Prop := beliefTruthRow.holds Try.pinned (OpenSpec.ofChange beliefTruthSpec)

/-- ITS FALSE NEIGHBOUR: 'it returns false'. Refute it at one input. -/
def beliefTruthWrong : ChangeSpec := { name := "beliefTruth", fn := fun _ => fun
  | [d1, d2, d3, d4, d5] => { results := [.lit (.bool false)], args := [d1, d2, d3, d4, d5] }
  | _ => none }
def BeliefTruthWrongFalsely : Prop := beliefTruthRow.holds Try.pinned (OpenSpec.ofChange beliefTruthWrong)

/-- 'regulatorlaw08.BeliefEnds': WHATEVER THE INPUT: true; the input reads as it did. -/
def beliefEndsSpec : ChangeSpec := { name := "beliefEnds", fn := fun _ => fun
  | [d1, d2, d3] => { results := [.lit (.bool true)], args := [d1, d2, d3] }
  | _ => none }
def beliefEndsRow : OpenClaim := { program := "ytpfcjffpomdhbaa", sum := "265c35ddbb9678411fe2bb3995aa39bd1172b4f0722e4d4f966df1dcd33be619", func := "regulator/regulatorlaw08.BeliefEnds", spec := "beliefEnds", unfollowed := true, recurses := true, named := ["math/bits.divideError", "math/bits.overflowError"], apart := false }
def BeliefEndsSaid : Prop := beliefEndsRow.holds Try.pinned (OpenSpec.ofChange beliefEndsSpec)

/-- ITS FALSE NEIGHBOUR: 'it returns false'. Refute it at one input. -/
def beliefEndsWrong : ChangeSpec := { name := "beliefEnds", fn := fun _ => fun
  | [d1, d2, d3] => { results := [.lit (.bool false)], args := [d1, d2, d3] }
  | _ => none }
def BeliefEndsWrongFalsely : Prop := beliefEndsRow.holds Try.pinned (OpenSpec.ofChange beliefEndsWrong)

/-- 'regulatorlaw08.BeliefSteps': WHATEVER THE INPUT: true; the input reads as it did. -/
def beliefStepsSpec : ChangeSpec := { name := "beliefSteps", fn := fun _ => fun
  | [d1, d2, d3, d4] => { results := [.lit (.bool true)], args := [d1, d2, d3, d4] }
  | _ => none }
def beliefStepsRow : OpenClaim := { program := "ytpfcjffpomdhbaa", sum := "265c35ddbb9678411fe2bb3995aa39bd1172b4f0722e4d4f966df1dcd33be619", func := "regulator/regulatorlaw08.BeliefSteps", spec := "beliefSteps", unfollowed := true, recurses := true, named := ["math/bits.divideError", "math/bits.overflowError"], apart := false }
def BeliefStepsSaid : Prop := beliefStepsRow.holds Try.pinned (OpenSpec.ofChange beliefStepsSpec)

/-- ITS FALSE NEIGHBOUR: 'it returns false'. Refute it at one input. -/
def beliefStepsWrong : ChangeSpec := { name := "beliefSteps", fn := fun _ => fun
  | [d1, d2, d3, d4] => { results := [.lit (.bool false)], args := [d1, d2, d3, d4] }
  | _ => none }
def BeliefStepsWrongFalsely : Prop := beliefStepsRow.holds Try.pinned (OpenSpec.ofChange beliefStepsWrong)

/-- 'regulatorlaw08.BeliefWider': WHATEVER THE INPUT: true; the input reads as it did. -/
def beliefWiderSpec : ChangeSpec := { name := "beliefWider", fn := fun _ => fun
  | [d1, d2, d3, d4, d5] => { results := [.lit (.bool true)], args := [d1, d2, d3, d4, d5] }
  | _ => none }
def beliefWiderRow : OpenClaim := { program := "ytpfcjffpomdhbaa", sum := "265c35ddbb9678411fe2bb3995aa39bd1172b4f0722e4d4f966df1dcd33be619", func := "regulator/regulatorlaw08.BeliefWider", spec := "beliefWider", unfollowed := true, recurses := true, named := ["math/bits.divideError", "math/bits.overflowError"], apart := false }
def BeliefWiderSaid : Prop := beliefWiderRow.holds Try.pinned (OpenSpec.ofChange beliefWiderSpec)

/-- ITS FALSE NEIGHBOUR: 'it returns false'. Refute it at one input. -/
def beliefWiderWrong : ChangeSpec := { name := "beliefWider", fn := fun _ => fun
  | [d1, d2, d3, d4, d5] => { results := [.lit (.bool false)], args := [d1, d2, d3, d4, d5] }
  | _ => none }
def BeliefWiderWrongFalsely : Prop := beliefWiderRow.holds Try.pinned (OpenSpec.ofChange beliefWiderWrong)

/-- 'regulatorlaw08.BeliefMeets': WHATEVER THE INPUT: true; the input reads as it did. -/
def beliefMeetsSpec : ChangeSpec := { name := "beliefMeets", fn := fun _ => fun
  | [d1, d2, d3] => { results := [.lit (.bool true)], args := [d1, d2, d3] }
  | _ => none }
def beliefMeetsRow : OpenClaim := { program := "ytpfcjffpomdhbaa", sum := "265c35ddbb9678411fe2bb3995aa39bd1172b4f0722e4d4f966df1dcd33be619", func := "regulator/regulatorlaw08.BeliefMeets", spec := "beliefMeets", unfollowed := true, recurses := true, named := ["math/bits.divideError", "math/bits.overflowError"], apart := false }
def BeliefMeetsSaid : Prop := beliefMeetsRow.holds Try.pinned (OpenSpec.ofChange beliefMeetsSpec)

/-- ITS FALSE NEIGHBOUR: 'it returns false'. Refute it at one input. -/
def beliefMeetsWrong : ChangeSpec := { name := "beliefMeets", fn := fun _ => fun
  | [d1, d2, d3] => { results := [.lit (.bool false)], args := [d1, d2, d3] }
  | _ => none }
def BeliefMeetsWrongFalsely : Prop := beliefMeetsRow.holds Try.pinned (OpenSpec.ofChange beliefMeetsWrong)

/-- 'regulatorlaw08.BeliefWorst': WHATEVER THE INPUT: true; the input reads as it did. -/
def beliefWorstSpec : ChangeSpec := { name := "beliefWorst", fn := fun _ => fun
  | [d1, d2, d3] => { results := [.lit (.bool true)], args := [d1, d2, d3] }
  | _ => none }
def beliefWorstRow : OpenClaim := { program := "ytpfcjffpomdhbaa", sum := "265c35ddbb9678411fe2bb3995aa39bd1172b4f0722e4d4f966df1dcd33be619", func := "regulator/regulatorlaw08.BeliefWorst", spec := "beliefWorst", unfollowed := true, recurses := true, named := ["math/bits.divideError", "math/bits.overflowError"], apart := false }
def BeliefWorstSaid : Prop := beliefWorstRow.holds Try.pinned (OpenSpec.ofChange beliefWorstSpec)

/-- ITS FALSE NEIGHBOUR: 'it returns false'. Refute it at one input. -/
def beliefWorstWrong : ChangeSpec := { name := "beliefWorst", fn := fun _ => fun
  | [d1, d2, d3] => { results := [.lit (.bool false)], args := [d1, d2, d3] }
  | _ => none }
def BeliefWorstWrongFalsely : Prop := beliefWorstRow.holds Try.pinned (OpenSpec.ofChange beliefWorstWrong)

/-- 'regulatorlaw08.BeliefNothing': WHATEVER THE INPUT: true; the input reads as it did. -/
def beliefNothingSpec : ChangeSpec := { name := "beliefNothing", fn := fun _ => fun
  | [d1, d2, d3] => { results := [.lit (.bool true)], args := [d1, d2, d3] }
  | _ => none }
def beliefNothingRow : OpenClaim := { program := "ytpfcjffpomdhbaa", sum := "265c35ddbb9678411fe2bb3995aa39bd1172b4f0722e4d4f966df1dcd33be619", func := "regulator/regulatorlaw08.BeliefNothing", spec := "beliefNothing", unfollowed := true, recurses := true, named := ["math/bits.divideError", "math/bits.overflowError"], apart := false }
def BeliefNothingSaid : Prop := beliefNothingRow.holds Try.pinned (OpenSpec.ofChange beliefNothingSpec)

/-- ITS FALSE NEIGHBOUR: 'it returns false'. Refute it at one input. -/
def beliefNothingWrong : ChangeSpec := { name := "beliefNothing", fn := fun _ => fun
  | [d1, d2, d3] => { results := [.lit (.bool false)], args := [d1, d2, d3] }
  | _ => none }
def BeliefNothingWrongFalsely : Prop := beliefNothingRow.holds Try.pinned (OpenSpec.ofChange beliefNothingWrong)

/- THE SECOND FORM. 'bulk': how many values and letters a reading holds, each counted each time it is reached (what is shared counts as often as it is met; a slice's spare places count too). A statement '..UptoSaid' is the law's where the arguments, and the package variables that the reading takes, are together of bulk at most 1048576: NARROWER than '..Said'. Prove '..Said' where nothing that the law and all that it calls make is longer than what came in: it says more and counts as full. Else prove '..UptoSaid'. A law counts once. -/
mutual
def uptoBulk {H : Type} : DataW H → Nat
  | .lit (.string bytes) => bytes.length + 1
  | .lit _ => 1
  | .nil => 1
  | .ptr d => uptoBulk d + 1
  | .slice elems spare => uptoBulkAll elems + uptoBulkAll spare + 1
  | .agg parts => uptoBulkAll parts + 1
  | .iface _ d => uptoBulk d + 1
  | .map entries => uptoBulkEntries entries + 1
  | .held _ => 1
def uptoBulkAll {H : Type} : List (DataW H) → Nat
  | [] => 0
  | d :: r => uptoBulk d + uptoBulkAll r
def uptoBulkEntries {H : Type} : List (Lit × DataW H) → Nat
  | [] => 0
  | x :: r => uptoBulkEntry x + uptoBulkEntries r
def uptoBulkEntry {H : Type} : Lit × DataW H → Nat
  | (.string bytes, d) => bytes.length + uptoBulk d + 1
  | (_, d) => uptoBulk d + 1
 end
def uptoSmall : (H : Type) → List (DataW H) → Bool := fun _ ds => decide (uptoBulkAll ds ≤ 1048576)
def OpenSpec.upto (s : _root_.Go.ChangeSpec) : _root_.Go.OpenSpec := { _root_.Go.OpenSpec.ofChange s with cond := some uptoSmall }

/-- 'regulatorlaw08.BeliefMatchesReference', WHERE WHAT IT READS IS OF BULK AT MOST 1048576: true; the input reads as it did. -/
def beliefMatchesReferenceUptoRow : OpenClaim := { program := "ytpfcjffpomdhbaa", sum := "265c35ddbb9678411fe2bb3995aa39bd1172b4f0722e4d4f966df1dcd33be619", func := "regulator/regulatorlaw08.BeliefMatchesReference", spec := "beliefMatchesReference", unfollowed := true, recurses := true, named := ["math/bits.divideError", "math/bits.overflowError"], apart := false, narrowed := true }
def BeliefMatchesReferenceUptoSaid : Prop := beliefMatchesReferenceUptoRow.holds Try.pinned (OpenSpec.upto beliefMatchesReferenceSpec)

/-- 'regulatorlaw08.BeliefTruth', WHERE WHAT IT READS IS OF BULK AT MOST 1048576: true; the input reads as it did. -/
def beliefTruthUptoRow : OpenClaim := { program := "ytpfcjffpomdhbaa", sum := "265c35ddbb9678411fe2bb3995aa39bd1172b4f0722e4d4f966df1dcd33be619", func := "regulator/regulatorlaw08.BeliefTruth", spec := "beliefTruth", unfollowed := true, recurses := true, named := ["math/bits.divideError", "math/bits.overflowError"], apart := false, narrowed := true }
def BeliefTruthUptoSaid : Prop := beliefTruthUptoRow.holds Try.pinned (OpenSpec.upto beliefTruthSpec)

/-- 'regulatorlaw08.BeliefEnds', WHERE WHAT IT READS IS OF BULK AT MOST 1048576: true; the input reads as it did. -/
def beliefEndsUptoRow : OpenClaim := { program := "ytpfcjffpomdhbaa", sum := "265c35ddbb9678411fe2bb3995aa39bd1172b4f0722e4d4f966df1dcd33be619", func := "regulator/regulatorlaw08.BeliefEnds", spec := "beliefEnds", unfollowed := true, recurses := true, named := ["math/bits.divideError", "math/bits.overflowError"], apart := false, narrowed := true }
def BeliefEndsUptoSaid : Prop := beliefEndsUptoRow.holds Try.pinned (OpenSpec.upto beliefEndsSpec)

/-- 'regulatorlaw08.BeliefSteps', WHERE WHAT IT READS IS OF BULK AT MOST 1048576: true; the input reads as it did. -/
def beliefStepsUptoRow : OpenClaim := { program := "ytpfcjffpomdhbaa", sum := "265c35ddbb9678411fe2bb3995aa39bd1172b4f0722e4d4f966df1dcd33be619", func := "regulator/regulatorlaw08.BeliefSteps", spec := "beliefSteps", unfollowed := true, recurses := true, named := ["math/bits.divideError", "math/bits.overflowError"], apart := false, narrowed := true }
def BeliefStepsUptoSaid : Prop := beliefStepsUptoRow.holds Try.pinned (OpenSpec.upto beliefStepsSpec)

/-- 'regulatorlaw08.BeliefWider', WHERE WHAT IT READS IS OF BULK AT MOST 1048576: true; the input reads as it did. -/
def beliefWiderUptoRow : OpenClaim := { program := "ytpfcjffpomdhbaa", sum := "265c35ddbb9678411fe2bb3995aa39bd1172b4f0722e4d4f966df1dcd33be619", func := "regulator/regulatorlaw08.BeliefWider", spec := "beliefWider", unfollowed := true, recurses := true, named := ["math/bits.divideError", "math/bits.overflowError"], apart := false, narrowed := true }
def BeliefWiderUptoSaid : Prop := beliefWiderUptoRow.holds Try.pinned (OpenSpec.upto beliefWiderSpec)

/-- 'regulatorlaw08.BeliefMeets', WHERE WHAT IT READS IS OF BULK AT MOST 1048576: true; the input reads as it did. -/
def beliefMeetsUptoRow : OpenClaim := { program := "ytpfcjffpomdhbaa", sum := "265c35ddbb9678411fe2bb3995aa39bd1172b4f0722e4d4f966df1dcd33be619", func := "regulator/regulatorlaw08.BeliefMeets", spec := "beliefMeets", unfollowed := true, recurses := true, named := ["math/bits.divideError", "math/bits.overflowError"], apart := false, narrowed := true }
def BeliefMeetsUptoSaid : Prop := beliefMeetsUptoRow.holds Try.pinned (OpenSpec.upto beliefMeetsSpec)

/-- 'regulatorlaw08.BeliefWorst', WHERE WHAT IT READS IS OF BULK AT MOST 1048576: true; the input reads as it did. -/
def beliefWorstUptoRow : OpenClaim := { program := "ytpfcjffpomdhbaa", sum := "265c35ddbb9678411fe2bb3995aa39bd1172b4f0722e4d4f966df1dcd33be619", func := "regulator/regulatorlaw08.BeliefWorst", spec := "beliefWorst", unfollowed := true, recurses := true, named := ["math/bits.divideError", "math/bits.overflowError"], apart := false, narrowed := true }
def BeliefWorstUptoSaid : Prop := beliefWorstUptoRow.holds Try.pinned (OpenSpec.upto beliefWorstSpec)

/-- 'regulatorlaw08.BeliefNothing', WHERE WHAT IT READS IS OF BULK AT MOST 1048576: true; the input reads as it did. -/
def beliefNothingUptoRow : OpenClaim := { program := "ytpfcjffpomdhbaa", sum := "265c35ddbb9678411fe2bb3995aa39bd1172b4f0722e4d4f966df1dcd33be619", func := "regulator/regulatorlaw08.BeliefNothing", spec := "beliefNothing", unfollowed := true, recurses := true, named := ["math/bits.divideError", "math/bits.overflowError"], apart := false, narrowed := true }
def BeliefNothingUptoSaid : Prop := beliefNothingUptoRow.holds Try.pinned (OpenSpec.upto beliefNothingSpec)

end Rows
end Go.Proofs.Ytpfcjffpomdhbaa
