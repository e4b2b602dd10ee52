/-
  DERIVED. GIVEN WITH THE SEED: THE CARDS: each row of YtaakkfbampgoaaaDoorRows.lean that lists a variable, with what it lists TIED to the program's text (the seventh form; the later family's looks); each row that meets fmt, with fmt's text TOLD by the authors' own Lean function (tested against real Go, not proved from fmt's source: count such statements apart). THE CARD IS WHAT COUNTS. Prove the row's statement (the work); the ties are given (YtaakkfbampgoaaaDoorTie.lean); close each card by the builder's one call (the guide's Derived/Test/ToyasCard.lean, 'card_holds'). Laid BY PROGRAM, IN A SANDBOX (cutbox-door.mjs). By AI agents, Wed Nov 11 2026. No macro, syntax, notation, axiom, sorry.
-/
import Derived.Test.YtaakkfbampgoaaaDoorRows
import GoSem.ClaimSeven
namespace Go.Proofs.YtaakkfbampgoaaaDoor
namespace Rows

/-- THE TIED CARD OF 'regulatorlaw05.CalendarMatchesReference'. -/
def calendarMatchesReferenceCard : Claim7 := { stood := { row := calendarMatchesReferenceRow, standIns := [], harness := (true, "238d9df00828f13cb5078e618dcb5d62b6c0ec8e05f7a0dcc9f42395fd2cd984"), looks := false }, kinds := [], alts := [], laidByText := true, laidKinds := [.data], laidTests := true, laidLooks := .later }
def CalendarMatchesReferenceCardSaid : Prop := Claim7.holds Tryd.pinned (.plain (OpenSpec.ofChange calendarMatchesReferenceSpec)) calendarMatchesReferenceCard

/-- THE TIED CARD OF 'regulatorlaw05.CalendarRoundTrip'. -/
def calendarRoundTripCard : Claim7 := { stood := { row := calendarRoundTripRow, standIns := [], harness := (true, "238d9df00828f13cb5078e618dcb5d62b6c0ec8e05f7a0dcc9f42395fd2cd984"), looks := false }, kinds := [], alts := [], laidByText := true, laidKinds := [.data], laidTests := true, laidLooks := .later }
def CalendarRoundTripCardSaid : Prop := Claim7.holds Tryd.pinned (.plain (OpenSpec.ofChange calendarRoundTripSpec)) calendarRoundTripCard

/-- THE TIED CARD OF 'regulatorlaw05.CalendarSuccession'. -/
def calendarSuccessionCard : Claim7 := { stood := { row := calendarSuccessionRow, standIns := [], harness := (true, "238d9df00828f13cb5078e618dcb5d62b6c0ec8e05f7a0dcc9f42395fd2cd984"), looks := false }, kinds := [], alts := [], laidByText := true, laidKinds := [.data], laidTests := true, laidLooks := .later }
def CalendarSuccessionCardSaid : Prop := Claim7.holds Tryd.pinned (.plain (OpenSpec.ofChange calendarSuccessionSpec)) calendarSuccessionCard

/-- THE TIED CARD OF 'regulatorlaw05.CalendarYears'. -/
def calendarYearsCard : Claim7 := { stood := { row := calendarYearsRow, standIns := [], harness := (true, "238d9df00828f13cb5078e618dcb5d62b6c0ec8e05f7a0dcc9f42395fd2cd984"), looks := false }, kinds := [], alts := [], laidByText := true, laidKinds := [.data], laidTests := true, laidLooks := .later }
def CalendarYearsCardSaid : Prop := Claim7.holds Tryd.pinned (.plain (OpenSpec.ofChange calendarYearsSpec)) calendarYearsCard

/-- THE TIED CARD OF 'regulatorlaw05.CalendarWeeks'. -/
def calendarWeeksCard : Claim7 := { stood := { row := calendarWeeksRow, standIns := [], harness := (true, "238d9df00828f13cb5078e618dcb5d62b6c0ec8e05f7a0dcc9f42395fd2cd984"), looks := false }, kinds := [], alts := [], laidByText := true, laidKinds := [.data], laidTests := true, laidLooks := .later }
def CalendarWeeksCardSaid : Prop := Claim7.holds Tryd.pinned (.plain (OpenSpec.ofChange calendarWeeksSpec)) calendarWeeksCard

/-- THE TIED CARD OF 'regulatorlaw05.CalendarNth'. -/
def calendarNthCard : Claim7 := { stood := { row := calendarNthRow, standIns := [], harness := (true, "238d9df00828f13cb5078e618dcb5d62b6c0ec8e05f7a0dcc9f42395fd2cd984"), looks := false }, kinds := [], alts := [], laidByText := true, laidKinds := [.data], laidTests := true, laidLooks := .later }
def CalendarNthCardSaid : Prop := Claim7.holds Tryd.pinned (.plain (OpenSpec.ofChange calendarNthSpec)) calendarNthCard

/-- THE TIED CARD OF 'regulatorlaw05.CalendarFifth'. -/
def calendarFifthCard : Claim7 := { stood := { row := calendarFifthRow, standIns := [], harness := (true, "238d9df00828f13cb5078e618dcb5d62b6c0ec8e05f7a0dcc9f42395fd2cd984"), looks := false }, kinds := [], alts := [], laidByText := true, laidKinds := [.data], laidTests := true, laidLooks := .later }
def CalendarFifthCardSaid : Prop := Claim7.holds Tryd.pinned (.plain (OpenSpec.ofChange calendarFifthSpec)) calendarFifthCard

/-- THE SECOND FORM's CARD OF 'regulatorlaw05.CalendarMatchesReference'. -/
def calendarMatchesReferenceUptoCard : Claim7 := { stood := { row := calendarMatchesReferenceUptoRow, standIns := [], harness := (true, "238d9df00828f13cb5078e618dcb5d62b6c0ec8e05f7a0dcc9f42395fd2cd984"), looks := false }, kinds := [], alts := [], laidByText := true, laidKinds := [.data], laidTests := true, laidLooks := .later }
def CalendarMatchesReferenceUptoCardSaid : Prop := Claim7.holds Tryd.pinned (.plain (OpenSpec.upto calendarMatchesReferenceSpec)) calendarMatchesReferenceUptoCard

/-- THE SECOND FORM's CARD OF 'regulatorlaw05.CalendarRoundTrip'. -/
def calendarRoundTripUptoCard : Claim7 := { stood := { row := calendarRoundTripUptoRow, standIns := [], harness := (true, "238d9df00828f13cb5078e618dcb5d62b6c0ec8e05f7a0dcc9f42395fd2cd984"), looks := false }, kinds := [], alts := [], laidByText := true, laidKinds := [.data], laidTests := true, laidLooks := .later }
def CalendarRoundTripUptoCardSaid : Prop := Claim7.holds Tryd.pinned (.plain (OpenSpec.upto calendarRoundTripSpec)) calendarRoundTripUptoCard

/-- THE SECOND FORM's CARD OF 'regulatorlaw05.CalendarSuccession'. -/
def calendarSuccessionUptoCard : Claim7 := { stood := { row := calendarSuccessionUptoRow, standIns := [], harness := (true, "238d9df00828f13cb5078e618dcb5d62b6c0ec8e05f7a0dcc9f42395fd2cd984"), looks := false }, kinds := [], alts := [], laidByText := true, laidKinds := [.data], laidTests := true, laidLooks := .later }
def CalendarSuccessionUptoCardSaid : Prop := Claim7.holds Tryd.pinned (.plain (OpenSpec.upto calendarSuccessionSpec)) calendarSuccessionUptoCard

/-- THE SECOND FORM's CARD OF 'regulatorlaw05.CalendarYears'. -/
def calendarYearsUptoCard : Claim7 := { stood := { row := calendarYearsUptoRow, standIns := [], harness := (true, "238d9df00828f13cb5078e618dcb5d62b6c0ec8e05f7a0dcc9f42395fd2cd984"), looks := false }, kinds := [], alts := [], laidByText := true, laidKinds := [.data], laidTests := true, laidLooks := .later }
def CalendarYearsUptoCardSaid : Prop := Claim7.holds Tryd.pinned (.plain (OpenSpec.upto calendarYearsSpec)) calendarYearsUptoCard

/-- THE SECOND FORM's CARD OF 'regulatorlaw05.CalendarWeeks'. -/
def calendarWeeksUptoCard : Claim7 := { stood := { row := calendarWeeksUptoRow, standIns := [], harness := (true, "238d9df00828f13cb5078e618dcb5d62b6c0ec8e05f7a0dcc9f42395fd2cd984"), looks := false }, kinds := [], alts := [], laidByText := true, laidKinds := [.data], laidTests := true, laidLooks := .later }
def CalendarWeeksUptoCardSaid : Prop := Claim7.holds Tryd.pinned (.plain (OpenSpec.upto calendarWeeksSpec)) calendarWeeksUptoCard

/-- THE SECOND FORM's CARD OF 'regulatorlaw05.CalendarNth'. -/
def calendarNthUptoCard : Claim7 := { stood := { row := calendarNthUptoRow, standIns := [], harness := (true, "238d9df00828f13cb5078e618dcb5d62b6c0ec8e05f7a0dcc9f42395fd2cd984"), looks := false }, kinds := [], alts := [], laidByText := true, laidKinds := [.data], laidTests := true, laidLooks := .later }
def CalendarNthUptoCardSaid : Prop := Claim7.holds Tryd.pinned (.plain (OpenSpec.upto calendarNthSpec)) calendarNthUptoCard

/-- THE SECOND FORM's CARD OF 'regulatorlaw05.CalendarFifth'. -/
def calendarFifthUptoCard : Claim7 := { stood := { row := calendarFifthUptoRow, standIns := [], harness := (true, "238d9df00828f13cb5078e618dcb5d62b6c0ec8e05f7a0dcc9f42395fd2cd984"), looks := false }, kinds := [], alts := [], laidByText := true, laidKinds := [.data], laidTests := true, laidLooks := .later }
def CalendarFifthUptoCardSaid : Prop := Claim7.holds Tryd.pinned (.plain (OpenSpec.upto calendarFifthSpec)) calendarFifthUptoCard
end Rows
end Go.Proofs.YtaakkfbampgoaaaDoor
