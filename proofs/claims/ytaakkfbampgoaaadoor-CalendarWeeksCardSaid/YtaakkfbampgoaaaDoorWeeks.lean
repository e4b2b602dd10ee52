/- Layer 5: CalendarWeeks. -/
import Derived.Test.YtaakkfbampgoaaaDoorLaws
namespace Go.Proofs.YtaakkfbampgoaaaDoor
open Go.RowKit Go
set_option linter.unusedVariables false
set_option linter.unusedSimpArgs false

theorem week_q (n : Int) (h : 0 ≤ n) (hu : n ≤ 34000) (w : World) :
    Calls Tryd.prog 15 #[.int .i64 n] w fun e w' => e = .returned (.tuple #[.int .i64 (weekI n), .int .i64 0]) ∧ w = w' := by
  have := week_p n (by omega) (by omega) w
  rwa [week_yes h hu] at this

set_option maxHeartbeats 1000000 in
theorem weeks_walk (x n : Int) (h1 : 0 ≤ x) (h2 : x ≤ 4294967295) (hn : x % 34001 = n) (w : World) (ht : Tab w) :
    Calls Tryd.prog 7 #[.int .u32 x] w (Gives (.bool true) w) := by
  have OK := Lib.hid (ok_refl ht)
  clear ht
  have n1 : 0 ≤ n ∧ n ≤ 34000 := by omega
  have HD := Lib.hid (head_true w)
  have ON := Lib.hid (on_any x h1 h2)
  rw [hn] at ON
  clear hn
  have W1 := Lib.hid (week_q n n1.1 n1.2)
  have wr := week_range n
  have ST := Lib.hid (week_step n)
  generalize weekI n = v at W1 wr ST
  go_enter Tryd.func7, Tryd.ntmps7
  go_wp2_with (first
    | (go_at_call 19; refine (ON.out _).mono ?_; rintro e w' ⟨rfl, rfl⟩)
    | (go_at_call 10; refine (HD.out _ OK.out).mono ?_; rintro e w1 ⟨rfl, o1⟩; have O1 := Lib.hid o1; clear o1 OK)
    | (go_at_call 15; refine (W1.out _).mono ?_; rintro e w' ⟨rfl, rfl⟩))
  go_loop [7] (fun i => ∃ k : Int, i = .int .i64 k ∧ 1 ≤ k ∧ k ≤ 8) (fun i => (8 - intOf i).toNat)
  case atStart => exact ⟨1, rfl, by omega, by omega⟩
  case round =>
    obtain ⟨k, rfl, k1, k2⟩ := hrel
    by_cases hk : k ≤ 7
    · by_cases hm : n + k ≤ 34000
      · have W2 := Lib.hid (week_q (n + k) (by omega) hm w1)
        have T : Int.tmod (v + k) 7 = weekI (n + k) := by rw [Int.tmod_eq_emod_of_nonneg (by omega)]; exact ST.out k
        generalize weekI (n + k) = u at W2 T
        go_wp2_with (go_at_call 15; refine W2.out.mono ?_; rintro e w' ⟨rfl, rfl⟩)
        go_round
        case rel => exact ⟨k + 1, by go_num, by omega, by omega⟩
        case measure => simp [intOf]; omega
      · go_wp2_with fail
        go_ret
        exact ⟨rfl, O1.out.1⟩
    · go_wp2_with fail
      go_ret
      exact ⟨rfl, O1.out.1⟩

theorem weeks_law (x : Int) (w : World) (hx : (Lit.int .u32 x).wf = true) (ht : Tab w) :
    Calls Tryd.prog 7 #[.int .u32 x] w (Gives (.bool true) w) :=
  weeks_walk x _ (u32_wf hx).1 (u32_wf hx).2 rfl w ht
end Go.Proofs.YtaakkfbampgoaaaDoor
