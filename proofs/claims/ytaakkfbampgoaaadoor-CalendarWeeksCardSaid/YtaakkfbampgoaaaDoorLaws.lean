/- Layer 5: CalendarSuccession, CalendarRoundTrip, CalendarYears. -/
import Derived.Test.YtaakkfbampgoaaaDoorFacts
namespace Go.Proofs.YtaakkfbampgoaaaDoor
open Go.RowKit Go
set_option linter.unusedVariables false
set_option linter.unusedSimpArgs false

theorem ok_refl {w : World} (ht : Tab w) : Ok w w := ⟨.refl _ _, ht⟩

theorem succession_walk (x n : Int) (h1 : 0 ≤ x) (h2 : x ≤ 4294967295) (hn : x % 34001 = n) (w : World) (ht : Tab w) :
    Calls Tryd.prog 5 #[.int .u32 x] w (Gives (.bool true) w) := by
  have OK := Lib.hid (ok_refl ht)
  clear ht
  have n1 : 0 ≤ n ∧ n ≤ 34000 := by omega
  have HD := Lib.hid (head_true w)
  have ON := Lib.hid (on_any x h1 h2)
  rw [hn] at ON
  clear hn
  by_cases hm : n = 34000
  · subst hm
    go_enter Tryd.func5, Tryd.ntmps5
    go_wp2_with (first
      | (go_at_call 10; refine (HD.out _ OK.out).mono ?_; rintro e w1 ⟨rfl, o1⟩; have O1 := Lib.hid o1; clear o1 OK)
      | (go_at_call 19; refine (ON.out _).mono ?_; rintro e w' ⟨rfl, rfl⟩))
    go_ret
    exact ⟨rfl, O1.out.1⟩
  · obtain ⟨a, b, c, hd, hN⟩ := date_exists n n1.1 n1.2
    have D1 := Lib.hid (date_c n a b c hd hN n1.2 w)
    have hd' := hd
    obtain ⟨a1, a2, b1, b2, c1, c2⟩ := hd'
    have l := len_bounds a b
    have nm : (n == 34000) = false := beq_eq_false_iff_ne.2 hm
    rcases next_date a b c n hd hN (by omega) with ⟨q1, q2⟩ | ⟨q1, q2, q3, q4⟩ | ⟨q1, q2, q3, q4⟩
    · have D2 := Lib.hid (date_c (n + 1) a b (c + 1) q1 q2 (by omega) w)
      have D3 := Lib.hid (day_c a b (c + 1) (n + 1) 0 (day_yes q1 q2 (by omega)) (by omega) (by omega) (by omega) w)
      clear q1 q2 hd hN
      go_enter Tryd.func5, Tryd.ntmps5
      go_wp2_with (first
        | (go_at_call 10; refine (HD.out _ OK.out).mono ?_; rintro e w1 ⟨rfl, o1⟩; have O1 := Lib.hid o1; clear o1 OK)
        | (go_at_call 19; refine (ON.out _).mono ?_; rintro e w' ⟨rfl, rfl⟩)
        | (go_at_call 11; refine (D1.out _ O1.out).mono ?_; rintro e w2 ⟨rfl, o2⟩; have O2 := Lib.hid o2; clear o2 O1)
        | (go_at_call 11; refine (D2.out _ O2.out).mono ?_; rintro e w3 ⟨rfl, o3⟩; have O3 := Lib.hid o3; clear o3 O2)
        | (go_at_call 13; refine (D3.out _ O3.out).mono ?_; rintro e w4 ⟨rfl, o4⟩; have O4 := Lib.hid o4; clear o4 O3))
      go_ret
      exact ⟨by simp, O4.out.1⟩
    · have D2 := Lib.hid (date_c (n + 1) a (b + 1) 1 q3 q4 (by omega) w)
      have D3 := Lib.hid (day_c a b (c + 1) 0 1 (day_none q1) (by omega) (by omega) (by omega) w)
      clear q1 q3 q4 hd hN
      go_enter Tryd.func5, Tryd.ntmps5
      go_wp2_with (first
        | (go_at_call 10; refine (HD.out _ OK.out).mono ?_; rintro e w1 ⟨rfl, o1⟩; have O1 := Lib.hid o1; clear o1 OK)
        | (go_at_call 19; refine (ON.out _).mono ?_; rintro e w' ⟨rfl, rfl⟩)
        | (go_at_call 11; refine (D1.out _ O1.out).mono ?_; rintro e w2 ⟨rfl, o2⟩; have O2 := Lib.hid o2; clear o2 O1)
        | (go_at_call 11; refine (D2.out _ O2.out).mono ?_; rintro e w3 ⟨rfl, o3⟩; have O3 := Lib.hid o3; clear o3 O2)
        | (go_at_call 13; refine (D3.out _ O3.out).mono ?_; rintro e w4 ⟨rfl, o4⟩; have O4 := Lib.hid o4; clear o4 O3))
      go_ret
      exact ⟨by simp, O4.out.1⟩
    · subst q2
      have D2 := Lib.hid (date_c (n + 1) (a + 1) 1 1 q3 q4 (by omega) w)
      have D3 := Lib.hid (day_c a 12 (c + 1) 0 1 (day_none q1) (by omega) (by omega) (by omega) w)
      clear q1 q3 q4 hd hN
      go_enter Tryd.func5, Tryd.ntmps5
      go_wp2_with (first
        | (go_at_call 10; refine (HD.out _ OK.out).mono ?_; rintro e w1 ⟨rfl, o1⟩; have O1 := Lib.hid o1; clear o1 OK)
        | (go_at_call 19; refine (ON.out _).mono ?_; rintro e w' ⟨rfl, rfl⟩)
        | (go_at_call 11; refine (D1.out _ O1.out).mono ?_; rintro e w2 ⟨rfl, o2⟩; have O2 := Lib.hid o2; clear o2 O1)
        | (go_at_call 11; refine (D2.out _ O2.out).mono ?_; rintro e w3 ⟨rfl, o3⟩; have O3 := Lib.hid o3; clear o3 O2)
        | (go_at_call 13; refine (D3.out _ O3.out).mono ?_; rintro e w4 ⟨rfl, o4⟩; have O4 := Lib.hid o4; clear o4 O3))
      go_ret
      exact ⟨by simp, O4.out.1⟩

theorem succession_law (x : Int) (w : World) (hx : (Lit.int .u32 x).wf = true) (ht : Tab w) :
    Calls Tryd.prog 5 #[.int .u32 x] w (Gives (.bool true) w) :=
  succession_walk x _ (u32_wf hx).1 (u32_wf hx).2 rfl w ht
end Go.Proofs.YtaakkfbampgoaaaDoor
