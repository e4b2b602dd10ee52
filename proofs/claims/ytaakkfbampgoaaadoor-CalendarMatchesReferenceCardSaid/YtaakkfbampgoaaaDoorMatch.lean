/- Layer 5: CalendarMatchesReference. -/
import Derived.Test.YtaakkfbampgoaaaDoorLaws
namespace Go.Proofs.YtaakkfbampgoaaaDoor
open Go.RowKit Go
set_option linter.unusedVariables false
set_option linter.unusedSimpArgs false

set_option maxHeartbeats 1000000 in
theorem match_walk (x y m d k j p q r g : Int) (hx : -9223372036854775808 ≤ x ∧ x ≤ 9223372036854775807) (hy : -9223372036854775808 ≤ y ∧ y ≤ 9223372036854775807) (hm : -9223372036854775808 ≤ m ∧ m ≤ 9223372036854775807) (hd : -9223372036854775808 ≤ d ∧ d ≤ 9223372036854775807) (hk : -9223372036854775808 ≤ k ∧ k ≤ 9223372036854775807) (hj : -9223372036854775808 ≤ j ∧ j ≤ 9223372036854775807) (w : World) (ht : Tab w)
    (A1 : Hid (∀ w', Ok w w' → Calls Tryd.prog 11 #[.int .i64 x] w' (Fine (.tuple #[.int .i64 p, .int .i64 q, .int .i64 r, .int .i64 g]) w)))
    (A2 : Hid (∀ w', Ok w w' → Calls Tryd.prog 12 #[.int .i64 x] w' (Fine (.tuple #[.int .i64 p, .int .i64 q, .int .i64 r, .int .i64 g]) w))) :
    Calls Tryd.prog 3 #[.int .i64 x, .int .i64 y, .int .i64 m, .int .i64 d, .int .i64 k, .int .i64 j] w (Gives (.bool true) w) := by
  have OK := Lib.hid (ok_refl ht)
  clear ht
  have HD := Lib.hid (head_true w)
  have B1 := Lib.hid (fun w' (o : Ok w w') => fine_of (day_r y m d hy.1 hy.2 hm.1 hm.2 hd.1 hd.2 w' o.2) o)
  have B2 := Lib.hid (fun w' (o : Ok w w') => fine_of (rday_any y m d hy.1 hy.2 hm.1 hm.2 hd.1 hd.2 w') o)
  have C1 := Lib.hid (fun w' (o : Ok w w') => fine_of (week_any x hx.1 hx.2 w') o)
  have C2 := Lib.hid (fun w' (o : Ok w w') => fine_of (rweek_any x hx.1 hx.2 w') o)
  have D1 := Lib.hid (fun w' (o : Ok w w') => fine_of (nth_any y m k j hy.1 hy.2 hm.1 hm.2 hk.1 hk.2 hj.1 hj.2 w' o.2) o)
  have D2 := Lib.hid (fun w' (o : Ok w w') => fine_of (rnth_any y m k j hy.1 hy.2 hm.1 hm.2 hk.1 hk.2 hj.1 hj.2 w') o)
  generalize (dayR y m d).1 = b1 at B1 B2
  generalize (dayR y m d).2 = b2 at B1 B2
  generalize (weekR x).1 = c1 at C1 C2
  generalize (weekR x).2 = c2 at C1 C2
  generalize (nthR y m k j).1 = d1 at D1 D2
  generalize (nthR y m k j).2 = d2 at D1 D2
  go_enter Tryd.func3, Tryd.ntmps3
  go_wp2_with (first
    | (go_at_call 10; refine (HD.out _ OK.out).mono ?_; rintro e w1 ⟨rfl, o1⟩; have O1 := Lib.hid o1; clear o1 OK)
    | (go_at_call 11; refine (A1.out _ O1.out).mono ?_; rintro e w2 ⟨rfl, o2⟩; have O2 := Lib.hid o2; clear o2 O1)
    | (go_at_call 12; refine (A2.out _ O2.out).mono ?_; rintro e w3 ⟨rfl, o3⟩; have O3 := Lib.hid o3; clear o3 O2)
    | (go_at_call 13; refine (B1.out _ O3.out).mono ?_; rintro e w4 ⟨rfl, o4⟩; have O4 := Lib.hid o4; clear o4 O3)
    | (go_at_call 14; refine (B2.out _ O4.out).mono ?_; rintro e w5 ⟨rfl, o5⟩; have O5 := Lib.hid o5; clear o5 O4)
    | (go_at_call 15; refine (C1.out _ O5.out).mono ?_; rintro e w6 ⟨rfl, o6⟩; have O6 := Lib.hid o6; clear o6 O5)
    | (go_at_call 16; refine (C2.out _ O6.out).mono ?_; rintro e w7 ⟨rfl, o7⟩; have O7 := Lib.hid o7; clear o7 O6)
    | (go_at_call 17; refine (D1.out _ O7.out).mono ?_; rintro e w8 ⟨rfl, o8⟩; have O8 := Lib.hid o8; clear o8 O7)
    | (go_at_call 18; refine (D2.out _ O8.out).mono ?_; rintro e w9 ⟨rfl, o9⟩; have O9 := Lib.hid o9; clear o9 O8))
  all_goals (go_ret; exact ⟨by first | (simp; done) | (simp; omega), O9.out.1⟩)

theorem match_law (x y m d k j : Int) (w : World) (hx : (Lit.int .i64 x).wf = true) (hy : (Lit.int .i64 y).wf = true) (hm : (Lit.int .i64 m).wf = true) (hd : (Lit.int .i64 d).wf = true) (hk : (Lit.int .i64 k).wf = true) (hj : (Lit.int .i64 j).wf = true) (ht : Tab w) :
    Calls Tryd.prog 3 #[.int .i64 x, .int .i64 y, .int .i64 m, .int .i64 d, .int .i64 k, .int .i64 j] w (Gives (.bool true) w) := by
  have a1 := i64_wf hx
  by_cases h : 0 ≤ x ∧ x ≤ 34000
  · obtain ⟨a, b, c, hD, hN⟩ := date_exists x h.1 h.2
    exact match_walk x y m d k j a b c 0 a1 (i64_wf hy) (i64_wf hm) (i64_wf hd) (i64_wf hk) (i64_wf hj) w ht (fun w' o => date_c x a b c hD hN h.2 w w' o) (fun w' o => fine_of (rdate_ok x a b c hD hN h.2 w') o)
  · exact match_walk x y m d k j 0 0 0 1 a1 (i64_wf hy) (i64_wf hm) (i64_wf hd) (i64_wf hk) (i64_wf hj) w ht (fun w' o => fine_of (date_no x a1.1 a1.2 (by omega) w') o) (fun w' o => fine_of (rdate_no x a1.1 a1.2 (by omega) w') o)
end Go.Proofs.YtaakkfbampgoaaaDoor
