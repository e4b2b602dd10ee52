/- Layer 5: what Day, Weekday and Nth of package calendar return. -/
import Derived.Test.YtaakkfbampgoaaaDoorBegin
namespace Go.Proofs.YtaakkfbampgoaaaDoor
open Go.RowKit Go
set_option linter.unusedVariables false
set_option linter.unusedSimpArgs false

theorem week_p (n : Int) (h1 : -9223372036854775808 ≤ n) (h2 : n ≤ 9223372036854775807) (w : World) :
    Calls Tryd.prog 15 #[.int .i64 n] w fun e w' => e = .returned (.tuple #[.int .i64 (weekR n).1, .int .i64 (weekR n).2]) ∧ w = w' := by
  by_cases h : 0 ≤ n ∧ n ≤ 34000
  · have e1 : weekR n = (weekI n, 0) := if_pos h
    rw [e1]
    obtain ⟨a, b⟩ := h
    have D := Lib.hid (day_any n true (by simp; omega) h1 h2)
    have W := Lib.hid (weekof_any n a (by omega))
    clear e1
    go_enter Tryd.func15, Tryd.ntmps15
    go_wp2_with (first
      | (go_at_call 21; refine (D.out _).mono ?_; rintro e w' ⟨rfl, rfl⟩)
      | (go_at_call 29; refine (W.out _).mono ?_; rintro e w' ⟨rfl, rfl⟩))
    go_ret2
    exact ⟨rfl, rfl⟩
  · have e1 : weekR n = (0, 1) := if_neg h
    rw [e1]
    have D := Lib.hid (day_any n false (by simp; omega) h1 h2)
    clear e1 h
    go_enter Tryd.func15, Tryd.ntmps15
    go_wp2_with (go_at_call 21; refine (D.out _).mono ?_; rintro e w' ⟨rfl, rfl⟩)
    go_ret2
    exact ⟨rfl, rfl⟩

theorem week_any (n : Int) (h1 : -9223372036854775808 ≤ n) (h2 : n ≤ 9223372036854775807) (w : World) :
    Calls Tryd.prog 15 #[.int .i64 n] w (Gives (.tuple #[.int .i64 (weekR n).1, .int .i64 (weekR n).2]) w) :=
  (week_p n h1 h2 w).mono fun e w' ⟨a, b⟩ => ⟨a, by subst b; exact .refl _ _⟩

theorem day_r (y m d : Int) (h1 : -9223372036854775808 ≤ y) (h2 : y ≤ 9223372036854775807) (h3 : -9223372036854775808 ≤ m) (h4 : m ≤ 9223372036854775807) (h5 : -9223372036854775808 ≤ d) (h6 : d ≤ 9223372036854775807) (w : World) (ht : Tab w) :
    Calls Tryd.prog 13 #[.int .i64 y, .int .i64 m, .int .i64 d] w (Gives (.tuple #[.int .i64 (dayR y m d).1, .int .i64 (dayR y m d).2]) w) := by
  have HT := Lib.hid ht
  clear ht
  by_cases hm : 2000 ≤ y ∧ y ≤ 2093 ∧ 1 ≤ m ∧ m ≤ 12
  · have M := Lib.hid (month_any y m true (by simp; omega) h1 h2 h3 h4)
    obtain ⟨a1, a2, a3, a4⟩ := hm
    have L := Lib.hid (fun w => lenm_any y m (by omega) (by omega) a3 a4 w)
    have LB := len_bounds y m
    rcases (by omega : d < 1 ∨ (1 ≤ d ∧ lenI y m < d) ∨ (1 ≤ d ∧ d ≤ lenI y m)) with h | h | h
    · have e1 : dayR y m d = (0, 1) := if_neg (fun ⟨_, _, _, _, c, _⟩ => by omega)
      rw [e1]
      clear e1 L LB
      go_enter Tryd.func13, Tryd.ntmps13
      go_wp2_with (go_at_call 24; refine (M.out _).mono ?_; rintro e w' ⟨rfl, rfl⟩)
      go_ret2
      exact ⟨rfl, .refl _ _⟩
    · obtain ⟨b1, b2⟩ := h
      have e1 : dayR y m d = (0, 1) := if_neg (fun ⟨_, _, _, _, _, c⟩ => by omega)
      rw [e1]
      clear e1
      generalize lenI y m = l at L LB b2
      go_enter Tryd.func13, Tryd.ntmps13
      go_wp2_with (first
        | (go_at_call 24; refine (M.out _).mono ?_; rintro e w' ⟨rfl, rfl⟩)
        | (go_at_call 23; refine (L.out _ HT.out).mono ?_; rintro e w' ⟨rfl, rfl⟩))
      go_ret2
      exact ⟨rfl, .refl _ _⟩
    · obtain ⟨b1, b2⟩ := h
      have e1 : dayR y m d = finR (bomI y m + d - 1) := if_pos ⟨a1, a2, a3, a4, b1, b2⟩
      rw [e1]
      clear e1
      obtain ⟨c1, c2⟩ := bom_range y m a1 a2 a3 a4
      have B := Lib.hid (fun w => begin_any y m a1 a2 a3 a4 w)
      generalize lenI y m = l at L LB b2
      generalize bomI y m = b at B c1 c2 ⊢
      have F := Lib.hid (fun w => fin_any (b + d - 1) (by omega) (by omega) w)
      go_enter Tryd.func13, Tryd.ntmps13
      go_wp2_with (first
        | (go_at_call 24; refine (M.out _).mono ?_; rintro e w' ⟨rfl, rfl⟩)
        | (go_at_call 23; refine (L.out _ HT.out).mono ?_; rintro e w' ⟨rfl, rfl⟩)
        | (go_at_call 26; refine (B.out _ HT.out).mono ?_; rintro e w1 ⟨rfl, hb1⟩)
        | (go_at_call 25; refine (F.out _).mono ?_; rintro e w2 ⟨rfl, hb2⟩))
      go_ret2
      exact ⟨rfl, below_more hb1 hb2⟩
  · have M := Lib.hid (month_any y m false (by simp; omega) h1 h2 h3 h4)
    have e1 : dayR y m d = (0, 1) := if_neg (fun ⟨a, b, c, e, _, _⟩ => hm ⟨a, b, c, e⟩)
    rw [e1]
    clear e1 hm
    go_enter Tryd.func13, Tryd.ntmps13
    go_wp2_with (go_at_call 24; refine (M.out _).mono ?_; rintro e w' ⟨rfl, rfl⟩)
    go_ret2
    exact ⟨rfl, .refl _ _⟩
end Go.Proofs.YtaakkfbampgoaaaDoor
