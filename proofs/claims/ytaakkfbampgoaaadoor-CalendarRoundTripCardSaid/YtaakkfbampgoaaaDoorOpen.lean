/- Layer 5: the listed table of the months' lengths lies as it is laid. -/
import Derived.WalkKit
import Derived.ProofKit
import Derived.OpenShut
import Derived.ChangeOld
import Derived.ChangeVars
import Derived.JoinedOf
import Derived.LaidLaws
import Derived.LaidMore
import Derived.Stop.Joined
import Derived.Lib.LaidTab
import Derived.Below
import Derived.Test.YtaakkfbampgoaaaDoorPkg
namespace Go.Proofs.YtaakkfbampgoaaaDoor
open Go.ChangeShapes Go.WideShapes Go.ChangeAt Go.RowKit
set_option linter.unusedVariables false

/-- The variable that the rows list. -/
def laidL : List (String × DataW Unit) := [("regulator/calendar.monthLens", Rows.laid_regulator_calendar_monthLens)]

theorem door_met (os : Os) (args : Array Value) : laidMetH Tryd.prog laidL ((World.doorLaid Tryd.prog 400 os).forCall (fun _ _ => 0) ⟨#[], args, []⟩).memory :=
  laidMetH_of_parts3 (fuel := 8) (laidMet_of_run' 8 (by kernel_rfl) (by kernel_rfl)) (by kernel_rfl) (by kernel_rfl)

theorem lens_at (k : Nat) (hk : k < 12) : lensTab.getD k 0 = lenI 1 ((k : Int) + 1) := by
  rcases (by omega : k = 0 ∨ k = 1 ∨ k = 2 ∨ k = 3 ∨ k = 4 ∨ k = 5 ∨ k = 6 ∨ k = 7 ∨ k = 8 ∨ k = 9 ∨ k = 10 ∨ k = 11) with rfl | rfl | rfl | rfl | rfl | rfl | rfl | rfl | rfl | rfl | rfl | rfl <;> decide

theorem tab_of_laid {W : World} (h : laidMetH Tryd.prog laidL W) : Tab W := by
  rw [MakeChecks.laidMetH_plain _ _ _ (by kernel_rfl)] at h
  have gP : Tryd.prog.globalNamed "regulator/calendar.monthLens" = some 0 := by kernel_rfl
  have tP : (Tryd.prog.globals[0]?).map (·.type) = some 41 := by kernel_rfl
  have T : Lib.TabIs Tryd.prog W "regulator/calendar.monthLens" .i64 lensTab :=
    Lib.tabIs_of_head gP tP Tryd.underlying41 Tryd.underlying3 (by kernel_rfl) (by kernel_rfl) h
  intro m h1 h2
  have hk : (m - 1).toNat < 12 := by omega
  have c := T.cell gP (m - 1).toNat hk
  have hm : m = ((m - 1).toNat : Int) + 1 := by omega
  rw [lens_at _ hk, ← hm] at c
  exact ⟨(m - 1).toNat, hm, hk, World.block_lt_of_cell? W _ c, c⟩
end Go.Proofs.YtaakkfbampgoaaaDoor
