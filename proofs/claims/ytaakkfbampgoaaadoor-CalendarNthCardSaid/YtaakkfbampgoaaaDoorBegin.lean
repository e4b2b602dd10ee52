/- Layer 5: what beginOfMonth, Day and Weekday of package calendar return. -/
import Derived.Test.YtaakkfbampgoaaaDoorPkg
namespace Go.Proofs.YtaakkfbampgoaaaDoor
open Go.RowKit Go
set_option linter.unusedVariables false
set_option linter.unusedSimpArgs false

theorem begin_any (y m : Int) (h1 : 2000 ≤ y) (h2 : y ≤ 2093) (h3 : 1 ≤ m) (h4 : m ≤ 12) (w : World) (ht : Tab w) :
    Calls Tryd.prog 26 #[.int .i64 y, .int .i64 m] w (Gives (.int .i64 (bomI y m)) w) := by
  have HT := Lib.hid ht
  clear ht
  have e1 : Int.tdiv (y - 2000 + 4 - 1) 4 = (y - 1997) / 4 := by rw [Int.tdiv_eq_ediv_of_nonneg (by omega)]; congr 1; omega
  have e2 := Lib.hid (bom_one y)
  go_enter Tryd.func26, Tryd.ntmps26
  go_wp2_with fail
  go_loop [6, 7] (fun b i => ∃ k : Int, 1 ≤ k ∧ k ≤ m ∧ i = .int .i64 k ∧ b = .int .i64 (bomI y k)) (fun _ i => (m - intOf i).toNat)
  case atStart => exact ⟨1, by omega, by omega, rfl, by rw [e2.out]; go_num⟩
  case round =>
    obtain ⟨k, k1, k2, rfl, rfl⟩ := hrel
    by_cases hk : k < m
    · have c1 := Lib.hid (bom_succ y k k1 (by omega))
      obtain ⟨c2, c3⟩ := bom_range y k h1 h2 k1 (by omega)
      obtain ⟨c4, c5⟩ := len_bounds y k
      have L := Lib.hid (lenm_any y k (by omega) (by omega) k1 (by omega) w HT.out)
      generalize bomI y k = b at c1 c2 c3 ⊢
      generalize lenI y k = l at c1 c4 c5 L
      go_wp2_with (go_at_call 23; refine L.out.mono ?_; rintro e w' ⟨rfl, rfl⟩)
      go_round
      case rel => exact ⟨k + 1, by omega, by omega, by go_num, by rw [c1.out]⟩
      case measure => simp [intOf]; omega
    · obtain rfl : k = m := by omega
      go_wp2_with fail
      go_ret
      exact ⟨rfl, .refl _ _⟩
end Go.Proofs.YtaakkfbampgoaaaDoor
