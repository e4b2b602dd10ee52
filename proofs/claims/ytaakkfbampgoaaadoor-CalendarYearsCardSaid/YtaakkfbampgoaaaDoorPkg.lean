/- Layer 5: what the small functions of package calendar return; nothing that was in memory is changed. -/
import Derived.WalkKit
import Derived.ProofKit
import Derived.OpenShut
import Derived.Below
import Derived.OneCell
import Derived.LoopTactic
import Derived.Lib.Hide
import Derived.Lib.LaidTab
import Derived.Outline
import Derived.Test.YtaakkfbampgoaaaDoorRows
import Derived.Test.YtaakkfbampgoaaaDoorCal
namespace Go.Proofs.YtaakkfbampgoaaaDoor
open Go.RowKit Go
set_option linter.unusedVariables false
set_option linter.unusedSimpArgs false

/-- Returned v; nothing that was there is changed. -/
def Gives (v : Value) (w : World) (e : Ending) (w' : World) : Prop := e = .returned v ∧ Below w.heap.size w w'

theorem below_more {w W W' : World} (h : Below w.heap.size w W) (b : Below W.heap.size W W') : Below w.heap.size w W' := h.trans (b.mono h.size)

/-- The table of the months' lengths reads as the program's text lays it. -/
def lensTab : List Int := [31, 28, 31, 30, 31, 30, 31, 31, 30, 31, 30, 31]
def Tab (w : World) : Prop := ∀ m : Int, 1 ≤ m → m ≤ 12 → ∃ k : Nat, m = (k : Int) + 1 ∧ k < 12 ∧ 0 < w.heap.size ∧ w.cell? ⟨0, k, none⟩ = some (.int .i64 (lenI 1 m))
theorem Tab.step {w w' : World} (h : Tab w) (b : Below w.heap.size w w') : Tab w' := fun m h1 h2 => by
  obtain ⟨k, e, hk, hg, hc⟩ := h m h1 h2
  have := b.size
  exact ⟨k, e, hk, by omega, (b.cell (p := ⟨0, k, none⟩) hg).trans hc⟩

theorem leap_any (y : Int) (q : Bool) (hq : q = true ↔ y % 4 = 0) (h1 : 0 ≤ y) (h2 : y ≤ 9223372036854775807) (w : World) :
    Calls Tryd.prog 32 #[.int .i64 y] w fun e w' => e = .returned (.bool q) ∧ w = w' := by
  have hd : q = decide (y % 4 = 0) := by rw [Bool.eq_iff_iff, decide_eq_true_iff]; exact hq
  subst hd
  clear hq
  have e1 : Int.tmod y 4 = y % 4 := Int.tmod_eq_emod_of_nonneg h1
  go_enter Tryd.func32, Tryd.ntmps32
  by_cases h : y % 4 = 0
  · go_wp2_with fail
    go_ret
    exact ⟨by simp_all <;> omega, rfl⟩
  · go_wp2_with fail
    go_ret
    exact ⟨by simp_all <;> omega, rfl⟩

theorem day_any (n : Int) (q : Bool) (hq : q = true ↔ 0 ≤ n ∧ n ≤ 34000) (h1 : -9223372036854775808 ≤ n) (h2 : n ≤ 9223372036854775807) (w : World) :
    Calls Tryd.prog 21 #[.int .i64 n] w fun e w' => e = .returned (.bool q) ∧ w = w' := by
  have hd : q = decide (0 ≤ n ∧ n ≤ 34000) := by rw [Bool.eq_iff_iff, decide_eq_true_iff]; exact hq
  subst hd
  clear hq
  go_enter Tryd.func21, Tryd.ntmps21
  by_cases h : 0 ≤ n
  · go_wp2_with fail
    go_ret
    exact ⟨by simp_all <;> omega, rfl⟩
  · go_wp2_with fail
    go_ret
    exact ⟨by simp_all <;> omega, rfl⟩

theorem fin_any (n : Int) (h1 : 0 ≤ n) (h2 : n ≤ 9223372036854775807) (w : World) :
    Calls Tryd.prog 25 #[.int .i64 n] w (Gives (.tuple #[.int .i64 (finR n).1, .int .i64 (finR n).2]) w) := by
  go_enter Tryd.func25, Tryd.ntmps25
  by_cases h : n ≤ 34000
  · have e1 : (finR n).1 = n := by unfold finR; rw [if_pos h]
    have e2 : (finR n).2 = 0 := by unfold finR; rw [if_pos h]
    rw [e1, e2]
    go_wp2_with (go_at_call 21; refine (day_any n true (by simp; omega) (by omega) (by omega) _).mono ?_; rintro e w' ⟨rfl, rfl⟩)
    go_ret2
    exact ⟨rfl, .refl _ _⟩
  · have e1 : (finR n).1 = 0 := by unfold finR; rw [if_neg h]
    have e2 : (finR n).2 = 3 := by unfold finR; rw [if_neg h]
    rw [e1, e2]
    go_wp2_with (go_at_call 21; refine (day_any n false (by simp; omega) (by omega) (by omega) _).mono ?_; rintro e w' ⟨rfl, rfl⟩)
    go_ret2
    exact ⟨rfl, .refl _ _⟩

theorem month_any (y m : Int) (q : Bool) (hq : q = true ↔ 2000 ≤ y ∧ y ≤ 2093 ∧ 1 ≤ m ∧ m ≤ 12) (h1 : -9223372036854775808 ≤ y) (h2 : y ≤ 9223372036854775807) (h3 : -9223372036854775808 ≤ m) (h4 : m ≤ 9223372036854775807) (w : World) :
    Calls Tryd.prog 24 #[.int .i64 y, .int .i64 m] w fun e w' => e = .returned (.bool q) ∧ w = w' := by
  have hd : q = decide (2000 ≤ y ∧ y ≤ 2093 ∧ 1 ≤ m ∧ m ≤ 12) := by rw [Bool.eq_iff_iff, decide_eq_true_iff]; exact hq
  subst hd
  clear hq
  go_enter Tryd.func24, Tryd.ntmps24
  by_cases a : 2000 ≤ y
  · by_cases b : y ≤ 2093
    · by_cases c : 1 ≤ m
      · go_wp2_with fail
        go_ret
        exact ⟨by simp_all <;> omega, rfl⟩
      · go_wp2_with fail
        go_ret
        exact ⟨by simp_all <;> omega, rfl⟩
    · go_wp2_with fail
      go_ret
      exact ⟨by simp_all <;> omega, rfl⟩
  · go_wp2_with fail
    go_ret
    exact ⟨by simp_all <;> omega, rfl⟩

theorem isweek_any (n : Int) (q : Bool) (hq : q = true ↔ 0 ≤ n ∧ n ≤ 6) (h1 : -9223372036854775808 ≤ n) (h2 : n ≤ 9223372036854775807) (w : World) :
    Calls Tryd.prog 30 #[.int .i64 n] w fun e w' => e = .returned (.bool q) ∧ w = w' := by
  have hd : q = decide (0 ≤ n ∧ n ≤ 6) := by rw [Bool.eq_iff_iff, decide_eq_true_iff]; exact hq
  subst hd
  clear hq
  go_enter Tryd.func30, Tryd.ntmps30
  by_cases h : 0 ≤ n
  · go_wp2_with fail
    go_ret
    exact ⟨by simp_all <;> omega, rfl⟩
  · go_wp2_with fail
    go_ret
    exact ⟨by simp_all <;> omega, rfl⟩

theorem isnth_any (n : Int) (q : Bool) (hq : q = true ↔ n = -1 ∨ 1 ≤ n ∧ n ≤ 5) (h1 : -9223372036854775808 ≤ n) (h2 : n ≤ 9223372036854775807) (w : World) :
    Calls Tryd.prog 31 #[.int .i64 n] w fun e w' => e = .returned (.bool q) ∧ w = w' := by
  have hd : q = decide (n = -1 ∨ 1 ≤ n ∧ n ≤ 5) := by rw [Bool.eq_iff_iff, decide_eq_true_iff]; exact hq
  subst hd
  clear hq
  go_enter Tryd.func31, Tryd.ntmps31
  by_cases h : n = -1
  · subst h
    go_wp2_with fail
    go_ret
    exact ⟨by simp, rfl⟩
  · by_cases g : 1 ≤ n
    · go_wp2_with fail
      go_ret
      exact ⟨by simp_all <;> omega, rfl⟩
    · go_wp2_with fail
      go_ret
      exact ⟨by rw [beq_eq_false_iff_ne.2 h]; simp; omega, rfl⟩

theorem weekof_any (n : Int) (h1 : 0 ≤ n) (h2 : n ≤ 1000000) (w : World) :
    Calls Tryd.prog 29 #[.int .i64 n] w fun e w' => e = .returned (.int .i64 (weekI n)) ∧ w = w' := by
  have e1 : Int.tmod (5 + n) 7 = weekI n := by rw [Int.tmod_eq_emod_of_nonneg (by omega)]; unfold weekI; omega
  go_enter Tryd.func29, Tryd.ntmps29
  go_wp2_with fail
  go_ret
  exact ⟨rfl, rfl⟩

/-- How many days a year has. -/
def yearI (y : Int) : Int := if y % 4 = 0 then 366 else 365
theorem yearlen_any (y : Int) (h1 : 0 ≤ y) (h2 : y ≤ 9223372036854775807) (w : World) :
    Calls Tryd.prog 22 #[.int .i64 y] w fun e w' => e = .returned (.int .i64 (yearI y)) ∧ w = w' := by
  go_enter Tryd.func22, Tryd.ntmps22
  by_cases h : y % 4 = 0
  · have D : decide (y % 4 = 0) = true := by simp [h]
    have e1 : yearI y = 366 := by unfold yearI; rw [if_pos h]
    rw [e1]
    go_wp2_with (go_at_call 32; refine (leap_any y true (by simp [h]) h1 h2 _).mono ?_; rintro e w' ⟨rfl, rfl⟩)
    go_ret
    exact ⟨rfl, rfl⟩
  · have D : decide (y % 4 = 0) = false := by simp [h]
    have e1 : yearI y = 365 := by unfold yearI; rw [if_neg h]
    rw [e1]
    go_wp2_with (go_at_call 32; refine (leap_any y false (by simp [h]) h1 h2 _).mono ?_; rintro e w' ⟨rfl, rfl⟩)
    go_ret
    exact ⟨rfl, rfl⟩

theorem lenm_any (y m : Int) (h1 : 0 ≤ y) (h2 : y ≤ 9223372036854775807) (h3 : 1 ≤ m) (h4 : m ≤ 12) (w : World) (ht : Tab w) :
    Calls Tryd.prog 23 #[.int .i64 y, .int .i64 m] w fun e w' => e = .returned (.int .i64 (lenI y m)) ∧ w = w' := by
  obtain ⟨k, rfl, hk, hg, hc⟩ := ht m h3 h4
  clear ht
  by_cases hm : k = 1
  · subst hm
    have e1 : lenI 1 (((1 : Nat) : Int) + 1) = 28 := by decide
    rw [e1] at hc
    by_cases h : y % 4 = 0
    · have e2 : lenI y (((1 : Nat) : Int) + 1) = 29 := by simp [lenI, h]
      rw [e2]
      clear e1 e2
      go_enter Tryd.func23, Tryd.ntmps23
      go_wp2_with (go_at_call 32; refine (leap_any y true (by simp [h]) h1 h2 _).mono ?_; rintro e w' ⟨rfl, rfl⟩)
      go_ret
      exact ⟨rfl, rfl⟩
    · have e2 : lenI y (((1 : Nat) : Int) + 1) = 28 := by simp [lenI, h]
      rw [e2]
      clear e1 e2
      go_enter Tryd.func23, Tryd.ntmps23
      go_wp2_with (go_at_call 32; refine (leap_any y false (by simp [h]) h1 h2 _).mono ?_; rintro e w' ⟨rfl, rfl⟩)
      go_ret
      exact ⟨rfl, rfl⟩
  · have e2 : lenI y ((k : Int) + 1) = lenI 1 ((k : Int) + 1) := by
      have : ¬ ((k : Int) + 1 = 2) := by omega
      unfold lenI; rw [if_neg this, if_neg this]
    rw [e2]
    clear e2
    generalize lenI 1 ((k : Int) + 1) = v at hc ⊢
    have e3 : ((k : Int) + 1 == 2) = false := beq_eq_false_iff_ne.2 (by omega)
    go_enter Tryd.func23, Tryd.ntmps23
    go_wp2_with fail
    go_ret
    exact ⟨rfl, rfl⟩
end Go.Proofs.YtaakkfbampgoaaaDoor
