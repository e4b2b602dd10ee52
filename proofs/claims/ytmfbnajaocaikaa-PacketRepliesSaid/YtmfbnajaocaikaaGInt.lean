/- Layer 4's own functions (gen/from_s04g.py): numbers and integers. -/
import Derived.Test.YtmfbnajaocaikaaCRow8
namespace Go.Proofs.Ytmfbnajaocaikaa
open Go.RowKit Go.Sort Go
set_option linter.unusedVariables false
set_option linter.unusedSimpArgs false
theorem bits_not (x : Int) (h1 : -9223372036854775808 ≤ x) (h2 : x ≤ 9223372036854775807) : bits .xor .i64 (-1) x = -1 - x := by
  show IntKind.i64.wrap ((BitVec.ofInt 64 (-1) ^^^ BitVec.ofInt 64 x).toNat : Int) = _
  have e0 : (BitVec.ofInt 64 (-1)) = BitVec.allOnes 64 := by decide
  have e1 : (BitVec.ofInt 64 (-1) ^^^ BitVec.ofInt 64 x) = ~~~ (BitVec.ofInt 64 x) := by rw [e0, BitVec.allOnes_xor]
  rw [e1, BitVec.toNat_not, BitVec.toNat_ofInt, IntKind.wrap_i64]
  omega
theorem numberOf_any (x : Int) (h1 : -9223372036854775808 ≤ x) (h2 : x ≤ 9223372036854775807) (w : World) :
    Calls Try.prog 58 #[.int .i64 x] w fun e w' => e = .returned (.int .u64 (num x : Int)) ∧ w = w' := by
  by_cases hx : x < 0
  · have hn : (num x : Int) = -2 * x - 1 := by unfold num; rw [if_pos hx]; omega
    have e0 := bits_not x h1 h2
    have e1 : IntKind.u64.wrap (-1 - x) = -1 - x := by rw [IntKind.wrap_u64]; omega
    have e2 : IntKind.u64.wrap (2 * (-1 - x)) = 2 * (-1 - x) := by rw [IntKind.wrap_u64]; omega
    have e3 : IntKind.u64.wrap (2 * (-1 - x) + 1) = num x := by rw [IntKind.wrap_u64, hn]; omega
    clear hn
    go_enter Try.func58, Try.ntmps58
    go_wp2_with fail
    go_ret
    exact ⟨rfl, rfl⟩
  · have hn : (num x : Int) = 2 * x := by unfold num; rw [if_neg hx]; omega
    have e1 : IntKind.u64.wrap x = x := by rw [IntKind.wrap_u64]; omega
    have e2 : IntKind.u64.wrap (2 * x) = num x := by rw [IntKind.wrap_u64, hn]; omega
    clear hn
    go_enter Try.func58, Try.ntmps58
    go_wp2_with fail
    go_ret
    exact ⟨rfl, rfl⟩
theorem integerOf_any (n : Nat) (h : n < 18446744073709551616) (w : World) :
    Calls Try.prog 61 #[.int .u64 n] w fun e w' => e = .returned (.int .i64 (unnum n)) ∧ w = w' := by
  have e1 : IntKind.i64.wrap ((n : Int) / 2) = (n : Int) / 2 := IntWalk.i64_in _ (by omega)
  by_cases hx : n % 2 = 1
  · have hn : unnum n = -1 - (n : Int) / 2 := by unfold unnum; rw [if_pos hx]; omega
    have e0 := bits_not ((n : Int) / 2) (by omega) (by omega)
    have e2 : ((n : Int) % 2 == 1) = true := by simp; omega
    rw [hn]
    clear hn
    go_enter Try.func61, Try.ntmps61
    go_wp2_with fail
    go_ret
    exact ⟨rfl, rfl⟩
  · have hn : unnum n = (n : Int) / 2 := by unfold unnum; rw [if_neg hx]; omega
    have e2 : ((n : Int) % 2 == 1) = false := by simp; omega
    rw [hn]
    clear hn
    go_enter Try.func61, Try.ntmps61
    go_wp2_with fail
    go_ret
    exact ⟨rfl, rfl⟩
end Go.Proofs.Ytmfbnajaocaikaa
