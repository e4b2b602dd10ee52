/- Layer 5: CalendarYears. -/
import Derived.Test.YtaakkfbampgoaaaDoorLaws
namespace Go.Proofs.YtaakkfbampgoaaaDoor
open Go.RowKit Go
set_option linter.unusedVariables false
set_option linter.unusedSimpArgs false

set_option maxHeartbeats 1000000 in
theorem years_walk (x n : Int) (h1 : 0 ≤ x) (h2 : x ≤ 4294967295) (hn : x % 34001 = n) (w : World) (ht : Tab w) :
    Calls Tryd.prog 6 #[.int .u32 x] w (Gives (.bool true) w) := by
  have OK := Lib.hid (ok_refl ht)
  clear ht
  have n1 : 0 ≤ n ∧ n ≤ 34000 := by omega
  have HD := Lib.hid (head_true w)
  have ON := Lib.hid (on_any x h1 h2)
  rw [hn] at ON
  clear hn
  obtain ⟨a, b, c, hd, hN⟩ := date_exists n n1.1 n1.2
  have D1 := Lib.hid (date_c n a b c hd hN n1.2 w)
  have l := len_bounds a b
  have Y := next_year a b c n hd hN n1.2
  have FL := Lib.hid (four_later a b c n hd hN)
  obtain ⟨a1, a2, b1, b2, c1, c2⟩ := hd
  have T1 : Int.tmod a 4 = a % 4 := Int.tmod_eq_emod_of_nonneg (by omega)
  have T2 : Int.tmod (a + 1) 4 = (a + 1) % 4 := Int.tmod_eq_emod_of_nonneg (by omega)
  clear hN
  have LI : Hid (leapI a b = if 2 < b then a + 1 else a) := rfl
  generalize leapI a b = g at Y LI
  by_cases f : n + 1461 ≤ 34000
  · have D2 := Lib.hid (date_c (n + 1461) (a + 4) b c (FL.out f).1 (FL.out f).2 f w)
    rcases Y with ⟨y1, y2⟩ | ⟨y1, y2⟩ | ⟨y1, y2⟩ | ⟨y1, y2⟩
    · have D3 := Lib.hid (day_c (a + 1) b c 0 1 y1 (by omega) (by omega) (by omega) w)
      clear y1
      rcases y2 with ⟨rfl, rfl⟩ | y2
      · go_enter Tryd.func6, Tryd.ntmps6
        go_wp2_with (first
          | (go_at_call 19; refine (ON.out _).mono ?_; rintro e w' ⟨rfl, rfl⟩)
          | (go_at_call 10; refine (HD.out _ OK.out).mono ?_; rintro e w1 ⟨rfl, o1⟩; have O1 := Lib.hid o1; clear o1 OK)
          | (go_at_call 11; refine (D1.out _ O1.out).mono ?_; rintro e w2 ⟨rfl, o2⟩; have O2 := Lib.hid o2; clear o2 O1)
          | (go_at_call 11; refine (D2.out _ O2.out).mono ?_; rintro e w3 ⟨rfl, o3⟩; have O3 := Lib.hid o3; clear o3 O2)
          | (go_at_call 13; refine (D3.out _ O3.out).mono ?_; rintro e w4 ⟨rfl, o4⟩; have O4 := Lib.hid o4; clear o4 O3))
        all_goals (go_ret; exact ⟨by first | (simp; done) | (simp; omega), O4.out.1⟩)
      · go_enter Tryd.func6, Tryd.ntmps6
        go_wp2_with (first
          | (go_at_call 19; refine (ON.out _).mono ?_; rintro e w' ⟨rfl, rfl⟩)
          | (go_at_call 10; refine (HD.out _ OK.out).mono ?_; rintro e w1 ⟨rfl, o1⟩; have O1 := Lib.hid o1; clear o1 OK)
          | (go_at_call 11; refine (D1.out _ O1.out).mono ?_; rintro e w2 ⟨rfl, o2⟩; have O2 := Lib.hid o2; clear o2 O1)
          | (go_at_call 11; refine (D2.out _ O2.out).mono ?_; rintro e w3 ⟨rfl, o3⟩; have O3 := Lib.hid o3; clear o3 O2)
          | (go_at_call 13; refine (D3.out _ O3.out).mono ?_; rintro e w4 ⟨rfl, o4⟩; have O4 := Lib.hid o4; clear o4 O3))
        all_goals (go_ret; exact ⟨by first | (simp; done) | (simp; omega), O4.out.1⟩)
    · have D3 := Lib.hid (day_c (a + 1) b c 0 3 y1 (by omega) (by omega) (by omega) w)
      clear y1
      go_enter Tryd.func6, Tryd.ntmps6
      go_wp2_with (first
        | (go_at_call 19; refine (ON.out _).mono ?_; rintro e w' ⟨rfl, rfl⟩)
        | (go_at_call 10; refine (HD.out _ OK.out).mono ?_; rintro e w1 ⟨rfl, o1⟩; have O1 := Lib.hid o1; clear o1 OK)
        | (go_at_call 11; refine (D1.out _ O1.out).mono ?_; rintro e w2 ⟨rfl, o2⟩; have O2 := Lib.hid o2; clear o2 O1)
        | (go_at_call 11; refine (D2.out _ O2.out).mono ?_; rintro e w3 ⟨rfl, o3⟩; have O3 := Lib.hid o3; clear o3 O2)
        | (go_at_call 13; refine (D3.out _ O3.out).mono ?_; rintro e w4 ⟨rfl, o4⟩; have O4 := Lib.hid o4; clear o4 O3))
      all_goals (go_ret; exact ⟨by first | (simp; done) | (simp; omega), O4.out.1⟩)
    · have D3 := Lib.hid (day_c (a + 1) b c (n + 366) 0 y1 (by omega) (by omega) (by omega) w)
      clear y1
      by_cases gb : 2 < b
      · have g1 : g = a + 1 := LI.out.trans (if_pos gb)
        subst g1
        have e4 : ((a + 1) % 4 == 0) = true := by simpa using y2
        go_enter Tryd.func6, Tryd.ntmps6
        go_wp2_with (first
          | (go_at_call 19; refine (ON.out _).mono ?_; rintro e w' ⟨rfl, rfl⟩)
          | (go_at_call 10; refine (HD.out _ OK.out).mono ?_; rintro e w1 ⟨rfl, o1⟩; have O1 := Lib.hid o1; clear o1 OK)
          | (go_at_call 11; refine (D1.out _ O1.out).mono ?_; rintro e w2 ⟨rfl, o2⟩; have O2 := Lib.hid o2; clear o2 O1)
          | (go_at_call 11; refine (D2.out _ O2.out).mono ?_; rintro e w3 ⟨rfl, o3⟩; have O3 := Lib.hid o3; clear o3 O2)
          | (go_at_call 13; refine (D3.out _ O3.out).mono ?_; rintro e w4 ⟨rfl, o4⟩; have O4 := Lib.hid o4; clear o4 O3))
        all_goals (go_ret; exact ⟨by first | (simp; done) | (simp; omega), O4.out.1⟩)
      · have g1 : g = a := LI.out.trans (if_neg gb)
        subst g1
        have e4 : (g % 4 == 0) = true := by simpa using y2
        go_enter Tryd.func6, Tryd.ntmps6
        go_wp2_with (first
          | (go_at_call 19; refine (ON.out _).mono ?_; rintro e w' ⟨rfl, rfl⟩)
          | (go_at_call 10; refine (HD.out _ OK.out).mono ?_; rintro e w1 ⟨rfl, o1⟩; have O1 := Lib.hid o1; clear o1 OK)
          | (go_at_call 11; refine (D1.out _ O1.out).mono ?_; rintro e w2 ⟨rfl, o2⟩; have O2 := Lib.hid o2; clear o2 O1)
          | (go_at_call 11; refine (D2.out _ O2.out).mono ?_; rintro e w3 ⟨rfl, o3⟩; have O3 := Lib.hid o3; clear o3 O2)
          | (go_at_call 13; refine (D3.out _ O3.out).mono ?_; rintro e w4 ⟨rfl, o4⟩; have O4 := Lib.hid o4; clear o4 O3))
        all_goals (go_ret; exact ⟨by first | (simp; done) | (simp; omega), O4.out.1⟩)
    · have D3 := Lib.hid (day_c (a + 1) b c (n + 365) 0 y1 (by omega) (by omega) (by omega) w)
      clear y1
      by_cases gb : 2 < b
      · have g1 : g = a + 1 := LI.out.trans (if_pos gb)
        subst g1
        have e4 : ((a + 1) % 4 == 0) = false := by simpa using y2
        go_enter Tryd.func6, Tryd.ntmps6
        go_wp2_with (first
          | (go_at_call 19; refine (ON.out _).mono ?_; rintro e w' ⟨rfl, rfl⟩)
          | (go_at_call 10; refine (HD.out _ OK.out).mono ?_; rintro e w1 ⟨rfl, o1⟩; have O1 := Lib.hid o1; clear o1 OK)
          | (go_at_call 11; refine (D1.out _ O1.out).mono ?_; rintro e w2 ⟨rfl, o2⟩; have O2 := Lib.hid o2; clear o2 O1)
          | (go_at_call 11; refine (D2.out _ O2.out).mono ?_; rintro e w3 ⟨rfl, o3⟩; have O3 := Lib.hid o3; clear o3 O2)
          | (go_at_call 13; refine (D3.out _ O3.out).mono ?_; rintro e w4 ⟨rfl, o4⟩; have O4 := Lib.hid o4; clear o4 O3))
        all_goals (go_ret; exact ⟨by first | (simp; done) | (simp; omega), O4.out.1⟩)
      · have g1 : g = a := LI.out.trans (if_neg gb)
        subst g1
        have e4 : (g % 4 == 0) = false := by simpa using y2
        go_enter Tryd.func6, Tryd.ntmps6
        go_wp2_with (first
          | (go_at_call 19; refine (ON.out _).mono ?_; rintro e w' ⟨rfl, rfl⟩)
          | (go_at_call 10; refine (HD.out _ OK.out).mono ?_; rintro e w1 ⟨rfl, o1⟩; have O1 := Lib.hid o1; clear o1 OK)
          | (go_at_call 11; refine (D1.out _ O1.out).mono ?_; rintro e w2 ⟨rfl, o2⟩; have O2 := Lib.hid o2; clear o2 O1)
          | (go_at_call 11; refine (D2.out _ O2.out).mono ?_; rintro e w3 ⟨rfl, o3⟩; have O3 := Lib.hid o3; clear o3 O2)
          | (go_at_call 13; refine (D3.out _ O3.out).mono ?_; rintro e w4 ⟨rfl, o4⟩; have O4 := Lib.hid o4; clear o4 O3))
        all_goals (go_ret; exact ⟨by first | (simp; done) | (simp; omega), O4.out.1⟩)
  · rcases Y with ⟨y1, y2⟩ | ⟨y1, y2⟩ | ⟨y1, y2⟩ | ⟨y1, y2⟩
    · have D3 := Lib.hid (day_c (a + 1) b c 0 1 y1 (by omega) (by omega) (by omega) w)
      clear y1
      rcases y2 with ⟨rfl, rfl⟩ | y2
      · go_enter Tryd.func6, Tryd.ntmps6
        go_wp2_with (first
          | (go_at_call 19; refine (ON.out _).mono ?_; rintro e w' ⟨rfl, rfl⟩)
          | (go_at_call 10; refine (HD.out _ OK.out).mono ?_; rintro e w1 ⟨rfl, o1⟩; have O1 := Lib.hid o1; clear o1 OK)
          | (go_at_call 11; refine (D1.out _ O1.out).mono ?_; rintro e w2 ⟨rfl, o2⟩; have O2 := Lib.hid o2; clear o2 O1)
          | (go_at_call 13; refine (D3.out _ O2.out).mono ?_; rintro e w4 ⟨rfl, o4⟩; have O4 := Lib.hid o4; clear o4 O2))
        all_goals (go_ret; exact ⟨by first | (simp; done) | (simp; omega), O4.out.1⟩)
      · go_enter Tryd.func6, Tryd.ntmps6
        go_wp2_with (first
          | (go_at_call 19; refine (ON.out _).mono ?_; rintro e w' ⟨rfl, rfl⟩)
          | (go_at_call 10; refine (HD.out _ OK.out).mono ?_; rintro e w1 ⟨rfl, o1⟩; have O1 := Lib.hid o1; clear o1 OK)
          | (go_at_call 11; refine (D1.out _ O1.out).mono ?_; rintro e w2 ⟨rfl, o2⟩; have O2 := Lib.hid o2; clear o2 O1)
          | (go_at_call 13; refine (D3.out _ O2.out).mono ?_; rintro e w4 ⟨rfl, o4⟩; have O4 := Lib.hid o4; clear o4 O2))
        all_goals (go_ret; exact ⟨by first | (simp; done) | (simp; omega), O4.out.1⟩)
    · have D3 := Lib.hid (day_c (a + 1) b c 0 3 y1 (by omega) (by omega) (by omega) w)
      clear y1
      go_enter Tryd.func6, Tryd.ntmps6
      go_wp2_with (first
        | (go_at_call 19; refine (ON.out _).mono ?_; rintro e w' ⟨rfl, rfl⟩)
        | (go_at_call 10; refine (HD.out _ OK.out).mono ?_; rintro e w1 ⟨rfl, o1⟩; have O1 := Lib.hid o1; clear o1 OK)
        | (go_at_call 11; refine (D1.out _ O1.out).mono ?_; rintro e w2 ⟨rfl, o2⟩; have O2 := Lib.hid o2; clear o2 O1)
        | (go_at_call 13; refine (D3.out _ O2.out).mono ?_; rintro e w4 ⟨rfl, o4⟩; have O4 := Lib.hid o4; clear o4 O2))
      all_goals (go_ret; exact ⟨by first | (simp; done) | (simp; omega), O4.out.1⟩)
    · have D3 := Lib.hid (day_c (a + 1) b c (n + 366) 0 y1 (by omega) (by omega) (by omega) w)
      clear y1
      by_cases gb : 2 < b
      · have g1 : g = a + 1 := LI.out.trans (if_pos gb)
        subst g1
        have e4 : ((a + 1) % 4 == 0) = true := by simpa using y2
        go_enter Tryd.func6, Tryd.ntmps6
        go_wp2_with (first
          | (go_at_call 19; refine (ON.out _).mono ?_; rintro e w' ⟨rfl, rfl⟩)
          | (go_at_call 10; refine (HD.out _ OK.out).mono ?_; rintro e w1 ⟨rfl, o1⟩; have O1 := Lib.hid o1; clear o1 OK)
          | (go_at_call 11; refine (D1.out _ O1.out).mono ?_; rintro e w2 ⟨rfl, o2⟩; have O2 := Lib.hid o2; clear o2 O1)
          | (go_at_call 13; refine (D3.out _ O2.out).mono ?_; rintro e w4 ⟨rfl, o4⟩; have O4 := Lib.hid o4; clear o4 O2))
        all_goals (go_ret; exact ⟨by first | (simp; done) | (simp; omega), O4.out.1⟩)
      · have g1 : g = a := LI.out.trans (if_neg gb)
        subst g1
        have e4 : (g % 4 == 0) = true := by simpa using y2
        go_enter Tryd.func6, Tryd.ntmps6
        go_wp2_with (first
          | (go_at_call 19; refine (ON.out _).mono ?_; rintro e w' ⟨rfl, rfl⟩)
          | (go_at_call 10; refine (HD.out _ OK.out).mono ?_; rintro e w1 ⟨rfl, o1⟩; have O1 := Lib.hid o1; clear o1 OK)
          | (go_at_call 11; refine (D1.out _ O1.out).mono ?_; rintro e w2 ⟨rfl, o2⟩; have O2 := Lib.hid o2; clear o2 O1)
          | (go_at_call 13; refine (D3.out _ O2.out).mono ?_; rintro e w4 ⟨rfl, o4⟩; have O4 := Lib.hid o4; clear o4 O2))
        all_goals (go_ret; exact ⟨by first | (simp; done) | (simp; omega), O4.out.1⟩)
    · have D3 := Lib.hid (day_c (a + 1) b c (n + 365) 0 y1 (by omega) (by omega) (by omega) w)
      clear y1
      by_cases gb : 2 < b
      · have g1 : g = a + 1 := LI.out.trans (if_pos gb)
        subst g1
        have e4 : ((a + 1) % 4 == 0) = false := by simpa using y2
        go_enter Tryd.func6, Tryd.ntmps6
        go_wp2_with (first
          | (go_at_call 19; refine (ON.out _).mono ?_; rintro e w' ⟨rfl, rfl⟩)
          | (go_at_call 10; refine (HD.out _ OK.out).mono ?_; rintro e w1 ⟨rfl, o1⟩; have O1 := Lib.hid o1; clear o1 OK)
          | (go_at_call 11; refine (D1.out _ O1.out).mono ?_; rintro e w2 ⟨rfl, o2⟩; have O2 := Lib.hid o2; clear o2 O1)
          | (go_at_call 13; refine (D3.out _ O2.out).mono ?_; rintro e w4 ⟨rfl, o4⟩; have O4 := Lib.hid o4; clear o4 O2))
        all_goals (go_ret; exact ⟨by first | (simp; done) | (simp; omega), O4.out.1⟩)
      · have g1 : g = a := LI.out.trans (if_neg gb)
        subst g1
        have e4 : (g % 4 == 0) = false := by simpa using y2
        go_enter Tryd.func6, Tryd.ntmps6
        go_wp2_with (first
          | (go_at_call 19; refine (ON.out _).mono ?_; rintro e w' ⟨rfl, rfl⟩)
          | (go_at_call 10; refine (HD.out _ OK.out).mono ?_; rintro e w1 ⟨rfl, o1⟩; have O1 := Lib.hid o1; clear o1 OK)
          | (go_at_call 11; refine (D1.out _ O1.out).mono ?_; rintro e w2 ⟨rfl, o2⟩; have O2 := Lib.hid o2; clear o2 O1)
          | (go_at_call 13; refine (D3.out _ O2.out).mono ?_; rintro e w4 ⟨rfl, o4⟩; have O4 := Lib.hid o4; clear o4 O2))
        all_goals (go_ret; exact ⟨by first | (simp; done) | (simp; omega), O4.out.1⟩)

theorem years_law (x : Int) (w : World) (hx : (Lit.int .u32 x).wf = true) (ht : Tab w) :
    Calls Tryd.prog 6 #[.int .u32 x] w (Gives (.bool true) w) :=
  years_walk x _ (u32_wf hx).1 (u32_wf hx).2 rfl w ht
end Go.Proofs.YtaakkfbampgoaaaDoor
