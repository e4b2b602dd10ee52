/-
  No cell of these rows narrows 'for every input' (looked for: loops, veiled, ifaces, maps, wideKeys, modest, calm, conditions, laid).
  DERIVED. THE GIVEN ROWS OF THIS SEAT. 6 by the template 'for every input the law returns true; each argument reads behind the call as it read before'; 0 by the template 'total and deterministic' (their statements: YtihfafmockaljaaTotals.lean).
  GIVEN WITH THE SEED: the statements are not yours to turn. If you find one false, say at which input.
  Laid BY PROGRAM, IN A SANDBOX (cutbox-rows.mjs): the forced cells as the released guide's own fill.sh prints them over the translation ae5c006d8d67f8a5… (all of the seat's roots in one cut). By AI agents, Wed Nov 11 2026. No macro, syntax, notation, axiom, sorry.
-/
import Derived.Test.YtihfafmockaljaaChecked
import GoSem.Claim
import GoSem.ClaimJoined
import GoSem.ClaimMapViews
import Derived.JoinedTies
import Derived.KernelRfl
namespace Go.Proofs.Ytihfafmockaljaa
/- THE CELL 'sum', in the pinned program and in every row, IS THE sha256 OF THE DUMP (.gsa) THAT YtihfafmockaljaaProg.lean LOADS. Nothing in Lean hashes anything: it is a label: what it is worth is what the hold of that sum in a sandbox is worth. -/
noncomputable def Try.pinned : Pinned := { name := "ytihfafmockaljaa", sum := "ae5c006d8d67f8a58d8c65fe2db981540e354fa3e0160b6537573eda53e1c34c", checked := Try.checked }
namespace Rows
def none {H : Type} : Left H := { results := [], args := [] }

/-- 'regulatorlaw09.SlewForward': WHATEVER THE INPUT: true; the input reads as it did. -/
def slewForwardSpec : ChangeSpec := { name := "slewForward", fn := fun _ => fun
  | [d1, d2, d3] => { results := [.lit (.bool true)], args := [d1, d2, d3] }
  | _ => none }
def slewForwardRow : OpenClaim := { program := "ytihfafmockaljaa", sum := "ae5c006d8d67f8a58d8c65fe2db981540e354fa3e0160b6537573eda53e1c34c", func := "regulator/regulatorlaw09.SlewForward", spec := "slewForward", inPlace := ["math/bits.Add64"], unfollowed := true, recurses := true, named := ["math/bits.divideError", "math/bits.overflowError"], apart := false }
def SlewForwardSaid : Prop := slewForwardRow.holds Try.pinned (OpenSpec.ofChange slewForwardSpec)

/-- ITS FALSE NEIGHBOUR: 'it returns false'. Refute it at one input. -/
def slewForwardWrong : ChangeSpec := { name := "slewForward", fn := fun _ => fun
  | [d1, d2, d3] => { results := [.lit (.bool false)], args := [d1, d2, d3] }
  | _ => none }
def SlewForwardWrongFalsely : Prop := slewForwardRow.holds Try.pinned (OpenSpec.ofChange slewForwardWrong)

/-- 'regulatorlaw09.SlewJumps': WHATEVER THE INPUT: true; the input reads as it did. -/
def slewJumpsSpec : ChangeSpec := { name := "slewJumps", fn := fun _ => fun
  | [d1, d2, d3, d4, d5] => { results := [.lit (.bool true)], args := [d1, d2, d3, d4, d5] }
  | _ => none }
def slewJumpsRow : OpenClaim := { program := "ytihfafmockaljaa", sum := "ae5c006d8d67f8a58d8c65fe2db981540e354fa3e0160b6537573eda53e1c34c", func := "regulator/regulatorlaw09.SlewJumps", spec := "slewJumps", inPlace := ["math/bits.Add64"], unfollowed := true, recurses := true, named := ["math/bits.divideError", "math/bits.overflowError"], apart := false }
def SlewJumpsSaid : Prop := slewJumpsRow.holds Try.pinned (OpenSpec.ofChange slewJumpsSpec)

/-- ITS FALSE NEIGHBOUR: 'it returns false'. Refute it at one input. -/
def slewJumpsWrong : ChangeSpec := { name := "slewJumps", fn := fun _ => fun
  | [d1, d2, d3, d4, d5] => { results := [.lit (.bool false)], args := [d1, d2, d3, d4, d5] }
  | _ => none }
def SlewJumpsWrongFalsely : Prop := slewJumpsRow.holds Try.pinned (OpenSpec.ofChange slewJumpsWrong)

/-- 'regulatorlaw09.SlewReaches': WHATEVER THE INPUT: true; the input reads as it did. -/
def slewReachesSpec : ChangeSpec := { name := "slewReaches", fn := fun _ => fun
  | [d1, d2, d3, d4, d5] => { results := [.lit (.bool true)], args := [d1, d2, d3, d4, d5] }
  | _ => none }
def slewReachesRow : OpenClaim := { program := "ytihfafmockaljaa", sum := "ae5c006d8d67f8a58d8c65fe2db981540e354fa3e0160b6537573eda53e1c34c", func := "regulator/regulatorlaw09.SlewReaches", spec := "slewReaches", inPlace := ["math/bits.Add64"], unfollowed := true, recurses := true, named := ["math/bits.divideError", "math/bits.overflowError"], apart := false }
def SlewReachesSaid : Prop := slewReachesRow.holds Try.pinned (OpenSpec.ofChange slewReachesSpec)

/-- ITS FALSE NEIGHBOUR: 'it returns false'. Refute it at one input. -/
def slewReachesWrong : ChangeSpec := { name := "slewReaches", fn := fun _ => fun
  | [d1, d2, d3, d4, d5] => { results := [.lit (.bool false)], args := [d1, d2, d3, d4, d5] }
  | _ => none }
def SlewReachesWrongFalsely : Prop := slewReachesRow.holds Try.pinned (OpenSpec.ofChange slewReachesWrong)

/-- 'regulatorlaw09.SlewLimits': WHATEVER THE INPUT: true; the input reads as it did. -/
def slewLimitsSpec : ChangeSpec := { name := "slewLimits", fn := fun _ => fun
  | [d1, d2, d3, d4, d5] => { results := [.lit (.bool true)], args := [d1, d2, d3, d4, d5] }
  | _ => none }
def slewLimitsRow : OpenClaim := { program := "ytihfafmockaljaa", sum := "ae5c006d8d67f8a58d8c65fe2db981540e354fa3e0160b6537573eda53e1c34c", func := "regulator/regulatorlaw09.SlewLimits", spec := "slewLimits", inPlace := ["math/bits.Add64"], unfollowed := true, recurses := true, named := ["math/bits.divideError", "math/bits.overflowError"], apart := false }
def SlewLimitsSaid : Prop := slewLimitsRow.holds Try.pinned (OpenSpec.ofChange slewLimitsSpec)

/-- ITS FALSE NEIGHBOUR: 'it returns false'. Refute it at one input. -/
def slewLimitsWrong : ChangeSpec := { name := "slewLimits", fn := fun _ => fun
  | [d1, d2, d3, d4, d5] => { results := [.lit (.bool false)], args := [d1, d2, d3, d4, d5] }
  | _ => none }
def SlewLimitsWrongFalsely : Prop := slewLimitsRow.holds Try.pinned (OpenSpec.ofChange slewLimitsWrong)

/-- 'regulatorlaw09.SlewMoves': WHATEVER THE INPUT: true; the input reads as it did. -/
def slewMovesSpec : ChangeSpec := { name := "slewMoves", fn := fun _ => fun
  | [d1, d2, d3, d4, d5, d6, d7] => { results := [.lit (.bool true)], args := [d1, d2, d3, d4, d5, d6, d7] }
  | _ => none }
def slewMovesRow : OpenClaim := { program := "ytihfafmockaljaa", sum := "ae5c006d8d67f8a58d8c65fe2db981540e354fa3e0160b6537573eda53e1c34c", func := "regulator/regulatorlaw09.SlewMoves", spec := "slewMoves", inPlace := ["math/bits.Add64"], unfollowed := true, recurses := true, named := ["math/bits.divideError", "math/bits.overflowError"], apart := false }
def SlewMovesSaid : Prop := slewMovesRow.holds Try.pinned (OpenSpec.ofChange slewMovesSpec)

/-- ITS FALSE NEIGHBOUR: 'it returns false'. Refute it at one input. -/
def slewMovesWrong : ChangeSpec := { name := "slewMoves", fn := fun _ => fun
  | [d1, d2, d3, d4, d5, d6, d7] => { results := [.lit (.bool false)], args := [d1, d2, d3, d4, d5, d6, d7] }
  | _ => none }
def SlewMovesWrongFalsely : Prop := slewMovesRow.holds Try.pinned (OpenSpec.ofChange slewMovesWrong)

/-- 'regulatorlaw09.SlewWalks': WHATEVER THE INPUT: true; the input reads as it did. -/
def slewWalksSpec : ChangeSpec := { name := "slewWalks", fn := fun _ => fun
  | [d1, d2, d3, d4] => { results := [.lit (.bool true)], args := [d1, d2, d3, d4] }
  | _ => none }
def slewWalksRow : OpenClaim := { program := "ytihfafmockaljaa", sum := "ae5c006d8d67f8a58d8c65fe2db981540e354fa3e0160b6537573eda53e1c34c", func := "regulator/regulatorlaw09.SlewWalks", spec := "slewWalks", inPlace := ["math/bits.Add64"], unfollowed := true, recurses := true, named := ["math/bits.divideError", "math/bits.overflowError"], apart := false }
def SlewWalksSaid : Prop := slewWalksRow.holds Try.pinned (OpenSpec.ofChange slewWalksSpec)

/-- ITS FALSE NEIGHBOUR: 'it returns false'. Refute it at one input. -/
def slewWalksWrong : ChangeSpec := { name := "slewWalks", fn := fun _ => fun
  | [d1, d2, d3, d4] => { results := [.lit (.bool false)], args := [d1, d2, d3, d4] }
  | _ => none }
def SlewWalksWrongFalsely : Prop := slewWalksRow.holds Try.pinned (OpenSpec.ofChange slewWalksWrong)

/- THE SECOND FORM. 'bulk': how many values and letters a reading holds, each counted each time it is reached (what is shared counts as often as it is met; a slice's spare places count too). A statement '..UptoSaid' is the law's where the arguments, and the package variables that the reading takes, are together of bulk at most 1048576: NARROWER than '..Said'. Prove '..Said' where nothing that the law and all that it calls make is longer than what came in: it says more and counts as full. Else prove '..UptoSaid'. A law counts once. -/
mutual
def uptoBulk {H : Type} : DataW H → Nat
  | .lit (.string bytes) => bytes.length + 1
  | .lit _ => 1
  | .nil => 1
  | .ptr d => uptoBulk d + 1
  | .slice elems spare => uptoBulkAll elems + uptoBulkAll spare + 1
  | .agg parts => uptoBulkAll parts + 1
  | .iface _ d => uptoBulk d + 1
  | .map entries => uptoBulkEntries entries + 1
  | .held _ => 1
def uptoBulkAll {H : Type} : List (DataW H) → Nat
  | [] => 0
  | d :: r => uptoBulk d + uptoBulkAll r
def uptoBulkEntries {H : Type} : List (Lit × DataW H) → Nat
  | [] => 0
  | x :: r => uptoBulkEntry x + uptoBulkEntries r
def uptoBulkEntry {H : Type} : Lit × DataW H → Nat
  | (.string bytes, d) => bytes.length + uptoBulk d + 1
  | (_, d) => uptoBulk d + 1
 end
def uptoSmall : (H : Type) → List (DataW H) → Bool := fun _ ds => decide (uptoBulkAll ds ≤ 1048576)
def OpenSpec.upto (s : _root_.Go.ChangeSpec) : _root_.Go.OpenSpec := { _root_.Go.OpenSpec.ofChange s with cond := some uptoSmall }

/-- 'regulatorlaw09.SlewForward', WHERE WHAT IT READS IS OF BULK AT MOST 1048576: true; the input reads as it did. -/
def slewForwardUptoRow : OpenClaim := { program := "ytihfafmockaljaa", sum := "ae5c006d8d67f8a58d8c65fe2db981540e354fa3e0160b6537573eda53e1c34c", func := "regulator/regulatorlaw09.SlewForward", spec := "slewForward", inPlace := ["math/bits.Add64"], unfollowed := true, recurses := true, named := ["math/bits.divideError", "math/bits.overflowError"], apart := false, narrowed := true }
def SlewForwardUptoSaid : Prop := slewForwardUptoRow.holds Try.pinned (OpenSpec.upto slewForwardSpec)

/-- 'regulatorlaw09.SlewJumps', WHERE WHAT IT READS IS OF BULK AT MOST 1048576: true; the input reads as it did. -/
def slewJumpsUptoRow : OpenClaim := { program := "ytihfafmockaljaa", sum := "ae5c006d8d67f8a58d8c65fe2db981540e354fa3e0160b6537573eda53e1c34c", func := "regulator/regulatorlaw09.SlewJumps", spec := "slewJumps", inPlace := ["math/bits.Add64"], unfollowed := true, recurses := true, named := ["math/bits.divideError", "math/bits.overflowError"], apart := false, narrowed := true }
def SlewJumpsUptoSaid : Prop := slewJumpsUptoRow.holds Try.pinned (OpenSpec.upto slewJumpsSpec)

/-- 'regulatorlaw09.SlewReaches', WHERE WHAT IT READS IS OF BULK AT MOST 1048576: true; the input reads as it did. -/
def slewReachesUptoRow : OpenClaim := { program := "ytihfafmockaljaa", sum := "ae5c006d8d67f8a58d8c65fe2db981540e354fa3e0160b6537573eda53e1c34c", func := "regulator/regulatorlaw09.SlewReaches", spec := "slewReaches", inPlace := ["math/bits.Add64"], unfollowed := true, recurses := true, named := ["math/bits.divideError", "math/bits.overflowError"], apart := false, narrowed := true }
def SlewReachesUptoSaid : Prop := slewReachesUptoRow.holds Try.pinned (OpenSpec.upto slewReachesSpec)

/-- 'regulatorlaw09.SlewLimits', WHERE WHAT IT READS IS OF BULK AT MOST 1048576: true; the input reads as it did. -/
def slewLimitsUptoRow : OpenClaim := { program := "ytihfafmockaljaa", sum := "ae5c006d8d67f8a58d8c65fe2db981540e354fa3e0160b6537573eda53e1c34c", func := "regulator/regulatorlaw09.SlewLimits", spec := "slewLimits", inPlace := ["math/bits.Add64"], unfollowed := true, recurses := true, named := ["math/bits.divideError", "math/bits.overflowError"], apart := false, narrowed := true }
def SlewLimitsUptoSaid : Prop := slewLimitsUptoRow.holds Try.pinned (OpenSpec.upto slewLimitsSpec)

/-- 'regulatorlaw09.SlewMoves', WHERE WHAT IT READS IS OF BULK AT MOST 1048576: true; the input reads as it did. -/
def slewMovesUptoRow : OpenClaim := { program := "ytihfafmockaljaa", sum := "ae5c006d8d67f8a58d8c65fe2db981540e354fa3e0160b6537573eda53e1c34c", func := "regulator/regulatorlaw09.SlewMoves", spec := "slewMoves", inPlace := ["math/bits.Add64"], unfollowed := true, recurses := true, named := ["math/bits.divideError", "math/bits.overflowError"], apart := false, narrowed := true }
def SlewMovesUptoSaid : Prop := slewMovesUptoRow.holds Try.pinned (OpenSpec.upto slewMovesSpec)

/-- 'regulatorlaw09.SlewWalks', WHERE WHAT IT READS IS OF BULK AT MOST 1048576: true; the input reads as it did. -/
def slewWalksUptoRow : OpenClaim := { program := "ytihfafmockaljaa", sum := "ae5c006d8d67f8a58d8c65fe2db981540e354fa3e0160b6537573eda53e1c34c", func := "regulator/regulatorlaw09.SlewWalks", spec := "slewWalks", inPlace := ["math/bits.Add64"], unfollowed := true, recurses := true, named := ["math/bits.divideError", "math/bits.overflowError"], apart := false, narrowed := true }
def SlewWalksUptoSaid : Prop := slewWalksUptoRow.holds Try.pinned (OpenSpec.upto slewWalksSpec)

end Rows
end Go.Proofs.Ytihfafmockaljaa
