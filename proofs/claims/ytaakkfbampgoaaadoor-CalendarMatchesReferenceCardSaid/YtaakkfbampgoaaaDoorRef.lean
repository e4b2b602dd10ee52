/- Layer 5: what the reference's Length, Month, Weekday and Date return. -/
import Derived.Test.YtaakkfbampgoaaaDoorNth
namespace Go.Proofs.YtaakkfbampgoaaaDoor
open Go.RowKit Go
set_option linter.unusedVariables false
set_option linter.unusedSimpArgs false

theorem rlen_any (y m : Int) (h1 : 0 ≤ y) (h2 : y ≤ 9223372036854775807) (h3 : 1 ≤ m) (h4 : m ≤ 12) (w : World) :
    Calls Tryd.prog 20 #[.int .i64 y, .int .i64 m] w fun e w' => e = .returned (.int .i64 (lenI y m)) ∧ w = w' := by
  have e1 : Int.tmod y 4 = y % 4 := Int.tmod_eq_emod_of_nonneg h1
  rcases (by omega : m = 2 ∨ m = 4 ∨ m = 6 ∨ m = 9 ∨ m = 11 ∨ (m ≠ 2 ∧ m ≠ 4 ∧ m ≠ 6 ∧ m ≠ 9 ∧ m ≠ 11)) with rfl | rfl | rfl | rfl | rfl | ⟨a1, a2, a3, a4, a5⟩
  · by_cases h : y % 4 = 0
    · have e2 : lenI y 2 = 29 := by simp [lenI, h]
      rw [e2]
      go_enter Tryd.func20, Tryd.ntmps20
      go_wp2_with fail
      go_ret
      exact ⟨rfl, rfl⟩
    · have e2 : lenI y 2 = 28 := by simp [lenI, h]
      have e3 : (y % 4 == 0) = false := beq_eq_false_iff_ne.2 h
      rw [e2]
      go_enter Tryd.func20, Tryd.ntmps20
      go_wp2_with fail
      go_ret
      exact ⟨rfl, rfl⟩
  · have e2 : lenI y 4 = 30 := by simp [lenI]
    rw [e2]
    go_enter Tryd.func20, Tryd.ntmps20
    go_wp2_with fail
    go_ret
    exact ⟨rfl, rfl⟩
  · have e2 : lenI y 6 = 30 := by simp [lenI]
    rw [e2]
    go_enter Tryd.func20, Tryd.ntmps20
    go_wp2_with fail
    go_ret
    exact ⟨rfl, rfl⟩
  · have e2 : lenI y 9 = 30 := by simp [lenI]
    rw [e2]
    go_enter Tryd.func20, Tryd.ntmps20
    go_wp2_with fail
    go_ret
    exact ⟨rfl, rfl⟩
  · have e2 : lenI y 11 = 30 := by simp [lenI]
    rw [e2]
    go_enter Tryd.func20, Tryd.ntmps20
    go_wp2_with fail
    go_ret
    exact ⟨rfl, rfl⟩
  · have e2 : lenI y m = 31 := by simp [lenI, a1, a2, a3, a4, a5]
    have d1 : (m == 2) = false := beq_eq_false_iff_ne.2 a1
    have d2 : (m == 4) = false := beq_eq_false_iff_ne.2 a2
    have d3 : (m == 6) = false := beq_eq_false_iff_ne.2 a3
    have d4 : (m == 9) = false := beq_eq_false_iff_ne.2 a4
    have d5 : (m == 11) = false := beq_eq_false_iff_ne.2 a5
    rw [e2]
    clear e2
    go_enter Tryd.func20, Tryd.ntmps20
    go_wp2_with fail
    go_ret
    exact ⟨rfl, rfl⟩

theorem rmonth_any (y m : Int) (q : Bool) (hq : q = true ↔ 2000 ≤ y ∧ y ≤ 2093 ∧ 1 ≤ m ∧ m ≤ 12) (h1 : -9223372036854775808 ≤ y) (h2 : y ≤ 9223372036854775807) (h3 : -9223372036854775808 ≤ m) (h4 : m ≤ 9223372036854775807) (w : World) :
    Calls Tryd.prog 27 #[.int .i64 y, .int .i64 m] w fun e w' => e = .returned (.bool q) ∧ w = w' := by
  have hd : q = decide (2000 ≤ y ∧ y ≤ 2093 ∧ 1 ≤ m ∧ m ≤ 12) := by rw [Bool.eq_iff_iff, decide_eq_true_iff]; exact hq
  subst hd
  clear hq
  go_enter Tryd.func27, Tryd.ntmps27
  by_cases a : 2000 ≤ y
  · by_cases b : y ≤ 2093
    · by_cases c : 1 ≤ m
      · go_wp2_with fail
        go_ret
        exact ⟨by simp_all <;> omega, rfl⟩
      · go_wp2_with fail
        go_ret
        exact ⟨by simp_all <;> omega, rfl⟩
    · go_wp2_with fail
      go_ret
      exact ⟨by simp_all <;> omega, rfl⟩
  · go_wp2_with fail
    go_ret
    exact ⟨by simp_all <;> omega, rfl⟩

theorem rweek_any (n : Int) (h1 : -9223372036854775808 ≤ n) (h2 : n ≤ 9223372036854775807) (w : World) :
    Calls Tryd.prog 16 #[.int .i64 n] w (Gives (.tuple #[.int .i64 (weekR n).1, .int .i64 (weekR n).2]) w) := by
  rcases (by omega : n < 0 ∨ 34000 < n ∨ (0 ≤ n ∧ n ≤ 34000)) with h | h | ⟨a, b⟩
  · have e1 : weekR n = (0, 1) := if_neg (by omega)
    rw [e1]
    clear e1
    go_enter Tryd.func16, Tryd.ntmps16
    go_wp2_with fail
    go_ret2
    exact ⟨rfl, .refl _ _⟩
  · have e1 : weekR n = (0, 1) := if_neg (by omega)
    rw [e1]
    clear e1
    go_enter Tryd.func16, Tryd.ntmps16
    go_wp2_with fail
    go_ret2
    exact ⟨rfl, .refl _ _⟩
  · have e1 : weekR n = (weekI n, 0) := if_pos ⟨a, b⟩
    have e2 : Int.tmod (n + 5) 7 = weekI n := Int.tmod_eq_emod_of_nonneg (by omega)
    rw [e1]
    clear e1
    go_enter Tryd.func16, Tryd.ntmps16
    go_wp2_with fail
    go_ret2
    exact ⟨rfl, .refl _ _⟩

theorem rdate_no (n : Int) (h1 : -9223372036854775808 ≤ n) (h2 : n ≤ 9223372036854775807) (h : n < 0 ∨ 34000 < n) (w : World) :
    Calls Tryd.prog 12 #[.int .i64 n] w (Gives (.tuple #[.int .i64 0, .int .i64 0, .int .i64 0, .int .i64 1]) w) := by
  go_enter Tryd.func12, Tryd.ntmps12
  rcases h with h | h
  · go_wp2_with fail
    (try simp only [Exit.inBlock, Exit.then]); refine bodyPost_ret (results_tmp4 rfl _ _ _) rfl ?_
    exact ⟨rfl, .refl _ _⟩
  · go_wp2_with fail
    (try simp only [Exit.inBlock, Exit.then]); refine bodyPost_ret (results_tmp4 rfl _ _ _) rfl ?_
    exact ⟨rfl, .refl _ _⟩

theorem rdate_ok (n y0 m0 d0 : Int) (hd : IsDate y0 m0 d0) (hn : n = bomI y0 m0 + d0 - 1) (hu : n ≤ 34000) (w : World) :
    Calls Tryd.prog 12 #[.int .i64 n] w (Gives (.tuple #[.int .i64 y0, .int .i64 m0, .int .i64 d0, .int .i64 0]) w) := by
  have h0 : 0 ≤ n := by
    have := bom_range y0 m0 hd.1 hd.2.1 hd.2.2.1 hd.2.2.2.1
    have := hd.2.2.2.2.1
    omega
  have HU : Hid (∀ y m d, IsDate y m d → bomI y m + d - 1 = n → y = y0 ∧ m = m0 ∧ d = d0) := fun y m d a b => date_unique a hd (by omega)
  clear hd hn
  go_enter Tryd.func12, Tryd.ntmps12
  go_wp2_with fail
  go_loop [0, 6, 7] (fun b a c => ∃ y m l : Int, a = .int .i64 y ∧ c = .int .i64 m ∧ b = .int .i64 l ∧ 2000 ≤ y ∧ y ≤ 2093 ∧ 1 ≤ m ∧ m ≤ 12 ∧ 0 ≤ l ∧ l ≤ 34000 ∧ Hid (bomI y m + l = n)) (fun b _ _ => (intOf b).toNat)
  case atStart => exact ⟨2000, 1, n, rfl, rfl, rfl, by omega, by omega, by omega, by omega, by omega, by omega, by unfold Hid; rw [bom_one]; omega⟩
  case round =>
    obtain ⟨y, m, k, rfl, rfl, rfl, y1, y2, m1, m2, k1, k2, E⟩ := hrel
    have L := Lib.hid (rlen_any y m (by omega) (by omega) m1 m2 w)
    have S := Lib.hid (bom_succ y m m1 m2)
    obtain ⟨lb1, lb2⟩ := len_bounds y m
    by_cases hk : lenI y m ≤ k
    · by_cases hm : m = 12
      · subst hm
        have s := S.out
        have e := E.out
        have f := bom_thirteen y
        simp at s
        rw [f] at s
        have yy : y + 1 ≤ 2093 := by
          have g := bom_one (y + 1)
          omega
        generalize lenI y 12 = v at L s S lb1 lb2 hk
        have E1 := Lib.hid (by omega : bomI (y + 1) 1 + (k - v) = n)
        clear s e f E S
        go_wp2_with (go_at_call 20; refine L.out.mono ?_; rintro e w' ⟨rfl, rfl⟩)
        go_round
        case rel => exact ⟨y + 1, 1, k - v, by go_num, rfl, by go_num, by omega, by omega, by omega, by omega, by omega, by omega, E1⟩
        case measure => simp [intOf]; omega
      · have s := S.out
        have e := E.out
        generalize lenI y m = v at L s S lb1 lb2 hk
        have E1 := Lib.hid (by omega : bomI y (m + 1) + (k - v) = n)
        clear s e E S
        go_wp2_with (go_at_call 20; refine L.out.mono ?_; rintro e w' ⟨rfl, rfl⟩)
        go_round
        case rel => exact ⟨y, m + 1, k - v, rfl, by go_num, by go_num, by omega, by omega, by omega, by omega, by omega, by omega, E1⟩
        case measure => simp [intOf]; omega
    · have U := HU.out y m (k + 1) ⟨by omega, by omega, m1, m2, by omega, by omega⟩ (by have e := E.out; omega)
      have U0 := Lib.hid U
      clear U
      generalize lenI y m = v at L S lb1 lb2 hk
      go_wp2_with (go_at_call 20; refine L.out.mono ?_; rintro e w' ⟨rfl, rfl⟩)
      (try simp only [Exit.inBlock, Exit.then]); refine bodyPost_ret (results_tmp4 rfl _ _ _) rfl ?_
      obtain ⟨rfl, rfl, rfl⟩ := U0.out
      exact ⟨rfl, .refl _ _⟩
end Go.Proofs.YtaakkfbampgoaaaDoor
