/- Layer 2: two intervals compared. -/
import Derived.Laws.StructEq
import Derived.Test.YtpooifjieoijjaaPkg
namespace Go.Proofs.Ytpooifjieoijjaa
open Go.RowKit Go
set_option linter.unusedVariables false

theorem equal_iv (x y : Int × Int) (w : World) : (Op.equalIn 10000 24 (.agg #[.int .i64 x.1, .int .i64 x.2]) (.agg #[.int .i64 y.1, .int .i64 y.2])).run Try.prog w = .ok (decide (x = y)) w := by
  rw [show (10000 : Nat) = 9999 + 1 from rfl, run_equalIn_struct w 9999 24 _ _ (by kernel_rfl) (by kernel_rfl)]
  obtain ⟨a, b⟩ := x
  obtain ⟨c, d⟩ := y
  have e : decide ((a, b) = (c, d)) = ((a == c) && (b == d)) := by
    rw [Bool.eq_iff_iff]; simp
  rw [e]
  by_cases h1 : a = c
  · by_cases h2 : b = d
    · simp [go_sem, h1, h2]
    · simp [go_sem, h1, h2]
  · simp [go_sem, h1]

theorem eql_iv (x y : Int × Int) (w : World) : (binOp .eql 24 (.agg #[.int .i64 x.1, .int .i64 x.2]) (.agg #[.int .i64 y.1, .int .i64 y.2])).run Try.prog w = .ok (.bool (decide (x = y))) w := by
  rw [run_eql_struct, equal_iv]; rfl
theorem neq_iv (x y : Int × Int) (w : World) : (binOp .neq 24 (.agg #[.int .i64 x.1, .int .i64 x.2]) (.agg #[.int .i64 y.1, .int .i64 y.2])).run Try.prog w = .ok (.bool (!decide (x = y))) w := by
  rw [run_neq_struct, equal_iv]; rfl
end Go.Proofs.Ytpooifjieoijjaa
