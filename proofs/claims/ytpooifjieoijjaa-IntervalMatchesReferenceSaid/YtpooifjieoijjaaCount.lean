/- Layer 2: counter of package interval, and the function value that it returns. -/
import Derived.RangeFuncBox
import Derived.Deep.QuietTactic
import Derived.BigQuiet
import Derived.Test.YtpooifjieoijjaaPkg2
namespace Go.Proofs.Ytpooifjieoijjaa
open Go.RowKit Go
set_option linter.unusedVariables false

theorem counter_any (need : Int) (w : World) : Calls Try.prog 31 #[.int .i64 need] w fun e w' =>
    e = .returned (.func (.func 34) #[] #[.pointer (some ⟨w.heap.size + 1, 0, none⟩), .pointer (some ⟨w.heap.size, 0, none⟩)]) ∧ (w.alloc (.cells #[.int .i64 need] 3)).alloc (.cells #[.int .i64 0] 3) = w' := by
  go_enter Try.func31, Try.ntmps31
  go_wp2_with fail
  go_ret
  exact ⟨rfl, rfl⟩

theorem counter1_any (db nb : Nat) (d need s : Int) (W : World) (hd : Boxed W db 3 (.int .i64 d)) (hn : Boxed W nb 3 (.int .i64 need)) (hne : db ≠ nb) (b1 : -100000 ≤ d) (b2 : d ≤ 100000) (b3 : -100000 ≤ s) (b4 : s ≤ 100000) :
    Calls Try.prog 34 #[.int .i64 s, .pointer (some ⟨db, 0, none⟩), .pointer (some ⟨nb, 0, none⟩)] W fun e w' =>
      e = .returned (.tuple #[.bool (decide (need ≤ d)), .bool (decide (need ≤ d + s))]) ∧ ∃ n, w' = (W.setCell ⟨db, 0, none⟩ (.int .i64 (d + s))).drewN n := by
  have d1 := hd.cell
  have d2 := hd.frozen
  have n1 := hn.cell
  have e1 : (W.setCell ⟨db, 0, none⟩ (.int .i64 (d + s))).cell? ⟨db, 0, none⟩ = some (.int .i64 (d + s)) := (hd.set _).cell
  have e2 : (W.setCell ⟨db, 0, none⟩ (.int .i64 (d + s))).cell? ⟨nb, 0, none⟩ = some (.int .i64 need) := (hn.kept (grownBy_setCell' W db _) (by intro e; exact hne (Option.some.inj e).symm)).cell
  clear hd hn
  generalize hb1 : decide (need ≤ d) = x
  generalize hb2 : decide (need ≤ d + s) = y
  go_enter Try.func34, Try.ntmps34
  go_wp2_with fail
  go_quiet (fail)
  go_wp2_with fail
  go_ret2
  exact ⟨rfl, nq, rfl⟩
end Go.Proofs.Ytpooifjieoijjaa
