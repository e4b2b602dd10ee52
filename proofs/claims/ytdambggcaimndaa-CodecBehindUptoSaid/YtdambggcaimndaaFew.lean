/- Layer 4: few. -/
import Derived.Lib.MinMax
import Derived.Test.YtdambggcaimndaaHead2
namespace Go.Proofs.Ytdambggcaimndaa
open Go.RowKit Go.Sort Go
set_option linter.unusedVariables false

theorem few_any (A : Option Addr) (n k cap : Nat) (w : World) (h1 : n ≤ cap) (h2 : cap ≤ 9223372036854775807) (hk : k = min n 3000) :
    Calls Try.prog 10 #[.slice A n cap] w fun e w' => e = .returned (.slice A k cap) ∧ w = w' := by
  have hm1 : min (n : Int) 3000 = (k : Int) := by omega
  have hk1 : k ≤ n := by omega
  clear hk
  go_enter Try.func10, Try.ntmps10
  go_wp2_with fail
  go_ret
  exact ⟨rfl, rfl⟩
end Go.Proofs.Ytdambggcaimndaa
