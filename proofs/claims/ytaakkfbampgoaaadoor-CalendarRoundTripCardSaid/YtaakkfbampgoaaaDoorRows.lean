/-
  NARROWER THAN 'FOR EVERY INPUT', by the rows' own cells (each row's printed sentence says how): CalendarMatchesReference: laid · CalendarRoundTrip: laid · CalendarSuccession: laid · CalendarYears: laid · CalendarWeeks: laid · CalendarNth: laid · CalendarFifth: laid.
  DERIVED. THE GIVEN ROWS OF THIS SEAT. 7 by the template 'for every input the law returns true; each argument reads behind the call as it read before'; 0 by the template 'total and deterministic' (their statements: YtaakkfbampgoaaaDoorTotals.lean).
  GIVEN WITH THE SEED: the statements are not yours to turn. If you find one false, say at which input.
  Laid BY PROGRAM, IN A SANDBOX (cutbox-rows.mjs): the forced cells as the released guide's own fill.sh prints them over the translation b382b6ef32c0c119… (all of the seat's roots in one cut). By AI agents, Wed Nov 11 2026. No macro, syntax, notation, axiom, sorry.
-/
import Derived.Test.YtaakkfbampgoaaaDoorChecked
import GoSem.Claim
import GoSem.ClaimJoined
import GoSem.ClaimMapViews
import Derived.JoinedTies
import Derived.KernelRfl
namespace Go.Proofs.YtaakkfbampgoaaaDoor
/- THE CELL 'sum', in the pinned program and in every row, IS THE sha256 OF THE DUMP (.gsa) THAT YtaakkfbampgoaaaDoorProg.lean LOADS. Nothing in Lean hashes anything: it is a label: what it is worth is what the hold of that sum in a sandbox is worth. -/
noncomputable def Tryd.pinned : Pinned := { name := "ytaakkfbampgoaaadoor", sum := "b382b6ef32c0c119088fd626857a2e2069eaec22b7469e40aca459e67969b5f3", checked := Tryd.checked }
namespace Rows
def none {H : Type} : Left H := { results := [], args := [] }

/- WHAT THE LISTED PACKAGE-LEVEL VARIABLES READ AS WHEN THE CALL BEGINS. Each datum BY PROGRAM (the guide's laid-datum.mjs) off the statement by which the dump's own 'gosem.cut.vars' lays the variable. In a bare row this is a premise. The card (YtaakkfbampgoaaaDoorCards.lean) ties it to the program's text. -/
def laid_regulator_calendar_monthLens {H : Type} : DataW H := .agg [.lit (.int .i64 31), .lit (.int .i64 28), .lit (.int .i64 31), .lit (.int .i64 30), .lit (.int .i64 31), .lit (.int .i64 30), .lit (.int .i64 31), .lit (.int .i64 31), .lit (.int .i64 30), .lit (.int .i64 31), .lit (.int .i64 30), .lit (.int .i64 31)]

/-- 'regulatorlaw05.CalendarMatchesReference': WHATEVER THE INPUT: true; the input reads as it did. -/
def calendarMatchesReferenceSpec : ChangeSpec := { name := "calendarMatchesReference", fn := fun _ => fun
  | [d1, d2, d3, d4, d5, d6] => { results := [.lit (.bool true)], args := [d1, d2, d3, d4, d5, d6] }
  | _ => none }
def calendarMatchesReferenceRow : OpenClaim := { program := "ytaakkfbampgoaaadoor", sum := "b382b6ef32c0c119088fd626857a2e2069eaec22b7469e40aca459e67969b5f3", func := "regulator/regulatorlaw05.CalendarMatchesReference", spec := "calendarMatchesReference", named := ["regulator/calendar.monthLens"], apart := false, laid := [("regulator/calendar.monthLens", laid_regulator_calendar_monthLens)] }
def CalendarMatchesReferenceSaid : Prop := calendarMatchesReferenceRow.holds Tryd.pinned (OpenSpec.ofChange calendarMatchesReferenceSpec)

/-- ITS FALSE NEIGHBOUR: 'it returns false'. Refute it at one input. -/
def calendarMatchesReferenceWrong : ChangeSpec := { name := "calendarMatchesReference", fn := fun _ => fun
  | [d1, d2, d3, d4, d5, d6] => { results := [.lit (.bool false)], args := [d1, d2, d3, d4, d5, d6] }
  | _ => none }
def CalendarMatchesReferenceWrongFalsely : Prop := calendarMatchesReferenceRow.holds Tryd.pinned (OpenSpec.ofChange calendarMatchesReferenceWrong)

/-- 'regulatorlaw05.CalendarRoundTrip': WHATEVER THE INPUT: true; the input reads as it did. -/
def calendarRoundTripSpec : ChangeSpec := { name := "calendarRoundTrip", fn := fun _ => fun
  | [d1, d2, d3, d4] => { results := [.lit (.bool true)], args := [d1, d2, d3, d4] }
  | _ => none }
def calendarRoundTripRow : OpenClaim := { program := "ytaakkfbampgoaaadoor", sum := "b382b6ef32c0c119088fd626857a2e2069eaec22b7469e40aca459e67969b5f3", func := "regulator/regulatorlaw05.CalendarRoundTrip", spec := "calendarRoundTrip", named := ["regulator/calendar.monthLens"], apart := false, laid := [("regulator/calendar.monthLens", laid_regulator_calendar_monthLens)] }
def CalendarRoundTripSaid : Prop := calendarRoundTripRow.holds Tryd.pinned (OpenSpec.ofChange calendarRoundTripSpec)

/-- ITS FALSE NEIGHBOUR: 'it returns false'. Refute it at one input. -/
def calendarRoundTripWrong : ChangeSpec := { name := "calendarRoundTrip", fn := fun _ => fun
  | [d1, d2, d3, d4] => { results := [.lit (.bool false)], args := [d1, d2, d3, d4] }
  | _ => none }
def CalendarRoundTripWrongFalsely : Prop := calendarRoundTripRow.holds Tryd.pinned (OpenSpec.ofChange calendarRoundTripWrong)

/-- 'regulatorlaw05.CalendarSuccession': WHATEVER THE INPUT: true; the input reads as it did. -/
def calendarSuccessionSpec : ChangeSpec := { name := "calendarSuccession", fn := fun _ => fun
  | [d] => { results := [.lit (.bool true)], args := [d] }
  | _ => none }
def calendarSuccessionRow : OpenClaim := { program := "ytaakkfbampgoaaadoor", sum := "b382b6ef32c0c119088fd626857a2e2069eaec22b7469e40aca459e67969b5f3", func := "regulator/regulatorlaw05.CalendarSuccession", spec := "calendarSuccession", named := ["regulator/calendar.monthLens"], apart := false, laid := [("regulator/calendar.monthLens", laid_regulator_calendar_monthLens)] }
def CalendarSuccessionSaid : Prop := calendarSuccessionRow.holds Tryd.pinned (OpenSpec.ofChange calendarSuccessionSpec)

/-- ITS FALSE NEIGHBOUR: 'it returns false'. Refute it at one input. -/
def calendarSuccessionWrong : ChangeSpec := { name := "calendarSuccession", fn := fun _ => fun
  | [d] => { results := [.lit (.bool false)], args := [d] }
  | _ => none }
def CalendarSuccessionWrongFalsely : Prop := calendarSuccessionRow.holds Tryd.pinned (OpenSpec.ofChange calendarSuccessionWrong)

/-- 'regulatorlaw05.CalendarYears': WHATEVER THE INPUT: true; the input reads as it did. -/
def calendarYearsSpec : ChangeSpec := { name := "calendarYears", fn := fun _ => fun
  | [d] => { results := [.lit (.bool true)], args := [d] }
  | _ => none }
def calendarYearsRow : OpenClaim := { program := "ytaakkfbampgoaaadoor", sum := "b382b6ef32c0c119088fd626857a2e2069eaec22b7469e40aca459e67969b5f3", func := "regulator/regulatorlaw05.CalendarYears", spec := "calendarYears", named := ["regulator/calendar.monthLens"], apart := false, laid := [("regulator/calendar.monthLens", laid_regulator_calendar_monthLens)] }
def CalendarYearsSaid : Prop := calendarYearsRow.holds Tryd.pinned (OpenSpec.ofChange calendarYearsSpec)

/-- ITS FALSE NEIGHBOUR: 'it returns false'. Refute it at one input. -/
def calendarYearsWrong : ChangeSpec := { name := "calendarYears", fn := fun _ => fun
  | [d] => { results := [.lit (.bool false)], args := [d] }
  | _ => none }
def CalendarYearsWrongFalsely : Prop := calendarYearsRow.holds Tryd.pinned (OpenSpec.ofChange calendarYearsWrong)

/-- 'regulatorlaw05.CalendarWeeks': WHATEVER THE INPUT: true; the input reads as it did. -/
def calendarWeeksSpec : ChangeSpec := { name := "calendarWeeks", fn := fun _ => fun
  | [d] => { results := [.lit (.bool true)], args := [d] }
  | _ => none }
def calendarWeeksRow : OpenClaim := { program := "ytaakkfbampgoaaadoor", sum := "b382b6ef32c0c119088fd626857a2e2069eaec22b7469e40aca459e67969b5f3", func := "regulator/regulatorlaw05.CalendarWeeks", spec := "calendarWeeks", named := ["regulator/calendar.monthLens"], apart := false, laid := [("regulator/calendar.monthLens", laid_regulator_calendar_monthLens)] }
def CalendarWeeksSaid : Prop := calendarWeeksRow.holds Tryd.pinned (OpenSpec.ofChange calendarWeeksSpec)

/-- ITS FALSE NEIGHBOUR: 'it returns false'. Refute it at one input. -/
def calendarWeeksWrong : ChangeSpec := { name := "calendarWeeks", fn := fun _ => fun
  | [d] => { results := [.lit (.bool false)], args := [d] }
  | _ => none }
def CalendarWeeksWrongFalsely : Prop := calendarWeeksRow.holds Tryd.pinned (OpenSpec.ofChange calendarWeeksWrong)

/-- 'regulatorlaw05.CalendarNth': WHATEVER THE INPUT: true; the input reads as it did. -/
def calendarNthSpec : ChangeSpec := { name := "calendarNth", fn := fun _ => fun
  | [d1, d2, d3, d4] => { results := [.lit (.bool true)], args := [d1, d2, d3, d4] }
  | _ => none }
def calendarNthRow : OpenClaim := { program := "ytaakkfbampgoaaadoor", sum := "b382b6ef32c0c119088fd626857a2e2069eaec22b7469e40aca459e67969b5f3", func := "regulator/regulatorlaw05.CalendarNth", spec := "calendarNth", named := ["regulator/calendar.monthLens"], apart := false, laid := [("regulator/calendar.monthLens", laid_regulator_calendar_monthLens)] }
def CalendarNthSaid : Prop := calendarNthRow.holds Tryd.pinned (OpenSpec.ofChange calendarNthSpec)

/-- ITS FALSE NEIGHBOUR: 'it returns false'. Refute it at one input. -/
def calendarNthWrong : ChangeSpec := { name := "calendarNth", fn := fun _ => fun
  | [d1, d2, d3, d4] => { results := [.lit (.bool false)], args := [d1, d2, d3, d4] }
  | _ => none }
def CalendarNthWrongFalsely : Prop := calendarNthRow.holds Tryd.pinned (OpenSpec.ofChange calendarNthWrong)

/-- 'regulatorlaw05.CalendarFifth': WHATEVER THE INPUT: true; the input reads as it did. -/
def calendarFifthSpec : ChangeSpec := { name := "calendarFifth", fn := fun _ => fun
  | [d1, d2, d3] => { results := [.lit (.bool true)], args := [d1, d2, d3] }
  | _ => none }
def calendarFifthRow : OpenClaim := { program := "ytaakkfbampgoaaadoor", sum := "b382b6ef32c0c119088fd626857a2e2069eaec22b7469e40aca459e67969b5f3", func := "regulator/regulatorlaw05.CalendarFifth", spec := "calendarFifth", named := ["regulator/calendar.monthLens"], apart := false, laid := [("regulator/calendar.monthLens", laid_regulator_calendar_monthLens)] }
def CalendarFifthSaid : Prop := calendarFifthRow.holds Tryd.pinned (OpenSpec.ofChange calendarFifthSpec)

/-- ITS FALSE NEIGHBOUR: 'it returns false'. Refute it at one input. -/
def calendarFifthWrong : ChangeSpec := { name := "calendarFifth", fn := fun _ => fun
  | [d1, d2, d3] => { results := [.lit (.bool false)], args := [d1, d2, d3] }
  | _ => none }
def CalendarFifthWrongFalsely : Prop := calendarFifthRow.holds Tryd.pinned (OpenSpec.ofChange calendarFifthWrong)

/- THE SECOND FORM. 'bulk': how many values and letters a reading holds, each counted each time it is reached (what is shared counts as often as it is met; a slice's spare places count too). A statement '..UptoSaid' is the law's where the arguments, and the package variables that the reading takes, are together of bulk at most 1048576: NARROWER than '..Said'. Prove '..Said' where nothing that the law and all that it calls make is longer than what came in: it says more and counts as full. Else prove '..UptoSaid'. A law counts once. -/
mutual
def uptoBulk {H : Type} : DataW H → Nat
  | .lit (.string bytes) => bytes.length + 1
  | .lit _ => 1
  | .nil => 1
  | .ptr d => uptoBulk d + 1
  | .slice elems spare => uptoBulkAll elems + uptoBulkAll spare + 1
  | .agg parts => uptoBulkAll parts + 1
  | .iface _ d => uptoBulk d + 1
  | .map entries => uptoBulkEntries entries + 1
  | .held _ => 1
def uptoBulkAll {H : Type} : List (DataW H) → Nat
  | [] => 0
  | d :: r => uptoBulk d + uptoBulkAll r
def uptoBulkEntries {H : Type} : List (Lit × DataW H) → Nat
  | [] => 0
  | x :: r => uptoBulkEntry x + uptoBulkEntries r
def uptoBulkEntry {H : Type} : Lit × DataW H → Nat
  | (.string bytes, d) => bytes.length + uptoBulk d + 1
  | (_, d) => uptoBulk d + 1
 end
def uptoSmall : (H : Type) → List (DataW H) → Bool := fun _ ds => decide (uptoBulkAll ds ≤ 1048576)
def OpenSpec.upto (s : _root_.Go.ChangeSpec) : _root_.Go.OpenSpec := { _root_.Go.OpenSpec.ofChange s with cond := some uptoSmall }

/-- 'regulatorlaw05.CalendarMatchesReference', WHERE WHAT IT READS IS OF BULK AT MOST 1048576: true; the input reads as it did. -/
def calendarMatchesReferenceUptoRow : OpenClaim := { program := "ytaakkfbampgoaaadoor", sum := "b382b6ef32c0c119088fd626857a2e2069eaec22b7469e40aca459e67969b5f3", func := "regulator/regulatorlaw05.CalendarMatchesReference", spec := "calendarMatchesReference", named := ["regulator/calendar.monthLens"], apart := false, laid := [("regulator/calendar.monthLens", laid_regulator_calendar_monthLens)], narrowed := true }
def CalendarMatchesReferenceUptoSaid : Prop := calendarMatchesReferenceUptoRow.holds Tryd.pinned (OpenSpec.upto calendarMatchesReferenceSpec)

/-- 'regulatorlaw05.CalendarRoundTrip', WHERE WHAT IT READS IS OF BULK AT MOST 1048576: true; the input reads as it did. -/
def calendarRoundTripUptoRow : OpenClaim := { program := "ytaakkfbampgoaaadoor", sum := "b382b6ef32c0c119088fd626857a2e2069eaec22b7469e40aca459e67969b5f3", func := "regulator/regulatorlaw05.CalendarRoundTrip", spec := "calendarRoundTrip", named := ["regulator/calendar.monthLens"], apart := false, laid := [("regulator/calendar.monthLens", laid_regulator_calendar_monthLens)], narrowed := true }
def CalendarRoundTripUptoSaid : Prop := calendarRoundTripUptoRow.holds Tryd.pinned (OpenSpec.upto calendarRoundTripSpec)

/-- 'regulatorlaw05.CalendarSuccession', WHERE WHAT IT READS IS OF BULK AT MOST 1048576: true; the input reads as it did. -/
def calendarSuccessionUptoRow : OpenClaim := { program := "ytaakkfbampgoaaadoor", sum := "b382b6ef32c0c119088fd626857a2e2069eaec22b7469e40aca459e67969b5f3", func := "regulator/regulatorlaw05.CalendarSuccession", spec := "calendarSuccession", named := ["regulator/calendar.monthLens"], apart := false, laid := [("regulator/calendar.monthLens", laid_regulator_calendar_monthLens)], narrowed := true }
def CalendarSuccessionUptoSaid : Prop := calendarSuccessionUptoRow.holds Tryd.pinned (OpenSpec.upto calendarSuccessionSpec)

/-- 'regulatorlaw05.CalendarYears', WHERE WHAT IT READS IS OF BULK AT MOST 1048576: true; the input reads as it did. -/
def calendarYearsUptoRow : OpenClaim := { program := "ytaakkfbampgoaaadoor", sum := "b382b6ef32c0c119088fd626857a2e2069eaec22b7469e40aca459e67969b5f3", func := "regulator/regulatorlaw05.CalendarYears", spec := "calendarYears", named := ["regulator/calendar.monthLens"], apart := false, laid := [("regulator/calendar.monthLens", laid_regulator_calendar_monthLens)], narrowed := true }
def CalendarYearsUptoSaid : Prop := calendarYearsUptoRow.holds Tryd.pinned (OpenSpec.upto calendarYearsSpec)

/-- 'regulatorlaw05.CalendarWeeks', WHERE WHAT IT READS IS OF BULK AT MOST 1048576: true; the input reads as it did. -/
def calendarWeeksUptoRow : OpenClaim := { program := "ytaakkfbampgoaaadoor", sum := "b382b6ef32c0c119088fd626857a2e2069eaec22b7469e40aca459e67969b5f3", func := "regulator/regulatorlaw05.CalendarWeeks", spec := "calendarWeeks", named := ["regulator/calendar.monthLens"], apart := false, laid := [("regulator/calendar.monthLens", laid_regulator_calendar_monthLens)], narrowed := true }
def CalendarWeeksUptoSaid : Prop := calendarWeeksUptoRow.holds Tryd.pinned (OpenSpec.upto calendarWeeksSpec)

/-- 'regulatorlaw05.CalendarNth', WHERE WHAT IT READS IS OF BULK AT MOST 1048576: true; the input reads as it did. -/
def calendarNthUptoRow : OpenClaim := { program := "ytaakkfbampgoaaadoor", sum := "b382b6ef32c0c119088fd626857a2e2069eaec22b7469e40aca459e67969b5f3", func := "regulator/regulatorlaw05.CalendarNth", spec := "calendarNth", named := ["regulator/calendar.monthLens"], apart := false, laid := [("regulator/calendar.monthLens", laid_regulator_calendar_monthLens)], narrowed := true }
def CalendarNthUptoSaid : Prop := calendarNthUptoRow.holds Tryd.pinned (OpenSpec.upto calendarNthSpec)

/-- 'regulatorlaw05.CalendarFifth', WHERE WHAT IT READS IS OF BULK AT MOST 1048576: true; the input reads as it did. -/
def calendarFifthUptoRow : OpenClaim := { program := "ytaakkfbampgoaaadoor", sum := "b382b6ef32c0c119088fd626857a2e2069eaec22b7469e40aca459e67969b5f3", func := "regulator/regulatorlaw05.CalendarFifth", spec := "calendarFifth", named := ["regulator/calendar.monthLens"], apart := false, laid := [("regulator/calendar.monthLens", laid_regulator_calendar_monthLens)], narrowed := true }
def CalendarFifthUptoSaid : Prop := calendarFifthUptoRow.holds Tryd.pinned (OpenSpec.upto calendarFifthSpec)

end Rows
end Go.Proofs.YtaakkfbampgoaaaDoor
