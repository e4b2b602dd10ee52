/- Layer 5: what Date of package calendar returns. -/
import Derived.Test.YtaakkfbampgoaaaDoorDay
namespace Go.Proofs.YtaakkfbampgoaaaDoor
open Go.RowKit Go
set_option linter.unusedVariables false
set_option linter.unusedSimpArgs false

theorem year_parts (y : Int) : 365 ≤ yearI y ∧ yearI y ≤ 366 ∧ bomI (y + 1) 1 = bomI y 1 + yearI y := by
  rw [bom_one, bom_one]
  unfold yearI
  obtain ⟨k, j, rfl, h1, h2⟩ : ∃ k j, y = 4 * k + j ∧ 0 ≤ j ∧ j < 4 := ⟨y / 4, y % 4, by omega, by omega, by omega⟩
  split <;> (rcases (by omega : j = 0 ∨ j = 1 ∨ j = 2 ∨ j = 3) with rfl | rfl | rfl | rfl <;> omega)

theorem results_tmp4 {fn : Func} {t u v x : Tmp} (h : fn.results = #[.tmp t, .tmp u, .tmp v, .tmp x]) (tmps : Array Value) (P : Program) (w : World) :
    (results fn tmps).run P w = .ok (.tuple #[tmps.getD t undef, tmps.getD u undef, tmps.getD v undef, tmps.getD x undef]) w := by
  simp [results, h]

theorem date_ok (n y0 m0 d0 : Int) (hd : IsDate y0 m0 d0) (hn : n = bomI y0 m0 + d0 - 1) (hu : n ≤ 34000) (w : World) (ht : Tab w) :
    Calls Tryd.prog 11 #[.int .i64 n] w (Gives (.tuple #[.int .i64 y0, .int .i64 m0, .int .i64 d0, .int .i64 0]) w) := by
  have HT := Lib.hid ht
  clear ht
  have h0 : 0 ≤ n := by
    have := bom_range y0 m0 hd.1 hd.2.1 hd.2.2.1 hd.2.2.2.1
    have := hd.2.2.2.2.1
    omega
  have HU : Hid (∀ y m d, IsDate y m d → bomI y m + d - 1 = n → y = y0 ∧ m = m0 ∧ d = d0) := fun y m d a b => date_unique a hd (by omega)
  clear hd hn
  have D := Lib.hid (day_any n true (by simp; omega) (by omega) (by omega))
  have e1 : Int.tdiv n 1461 = n / 1461 := Int.tdiv_eq_ediv_of_nonneg h0
  have e2 : Int.tmod n 1461 = n % 1461 := Int.tmod_eq_emod_of_nonneg h0
  obtain ⟨q, hq⟩ : ∃ q, n / 1461 = q := ⟨_, rfl⟩
  obtain ⟨r, hr⟩ : ∃ r, n % 1461 = r := ⟨_, rfl⟩
  rw [hq] at e1
  rw [hr] at e2
  have b1 : 0 ≤ q ∧ q ≤ 23 := by omega
  have b2 : 0 ≤ r ∧ r ≤ 1460 := by omega
  have b3 := Lib.hid (by omega : n = 1461 * q + r)
  clear hq hr
  go_enter Tryd.func11, Tryd.ntmps11
  go_wp2_with (go_at_call 21; refine (D.out _).mono ?_; rintro e w' ⟨rfl, rfl⟩)
  go_loop [2, 6] (fun a b => ∃ y l : Int, a = .int .i64 y ∧ b = .int .i64 l ∧ 2000 + 4 * q ≤ y ∧ y ≤ 2003 + 4 * q ∧ 0 ≤ l ∧ l ≤ 1460 ∧ Hid (bomI y 1 + l = n)) (fun _ b => (intOf b).toNat)
  case atStart => exact ⟨2000 + 4 * q, r, by go_num, rfl, by omega, by omega, by omega, by omega, by unfold Hid; rw [bom_one, b3.out]; omega⟩
  case round =>
    obtain ⟨y, l, rfl, rfl, y1, y2, l1, l2, E⟩ := hrel
    have Y := Lib.hid (yearlen_any y (by omega) (by omega))
    obtain ⟨yb1, yb2, yb3⟩ := year_parts y
    have Y3 := Lib.hid yb3
    clear yb3
    generalize yearI y = v at Y yb1 yb2 Y3
    by_cases hl : v ≤ l
    · go_wp2_with (go_at_call 22; refine (Y.out _).mono ?_; rintro e w' ⟨rfl, rfl⟩)
      go_round
      case rel =>
        have y3 := Y3.out
        have E1 := E.out
        have E2 := b3.out
        have yy : y + 1 ≤ 2003 + 4 * q := by
          rcases (by omega : y + 1 ≤ 2003 + 4 * q ∨ y = 2003 + 4 * q) with h | h
          · exact h
          · subst h
            rw [bom_one] at E1
            omega
        exact ⟨y + 1, l - v, by go_num, by go_num, by omega, yy, by omega, by omega, by unfold Hid; omega⟩
      case measure => simp [intOf]; omega
    · have M0 := Lib.hid (show n < bomI y 13 by
        have y3 := Y3.out
        have E1 := E.out
        rw [bom_thirteen]; omega)
      have y9 : y ≤ 2093 := by
        have E1 := E.out
        rw [bom_one] at E1
        omega
      have E0 := Lib.hid (show bomI y 1 + l = n from E.out)
      clear E Y3 b3
      go_wp2_with (go_at_call 22; refine (Y.out _).mono ?_; rintro e w' ⟨rfl, rfl⟩)
      clear Y
      go_loop [3, 6] (fun a b => ∃ m l : Int, a = .int .i64 m ∧ b = .int .i64 l ∧ 1 ≤ m ∧ m ≤ 12 ∧ 0 ≤ l ∧ l ≤ 34000 ∧ Hid (bomI y m + l = n)) (fun _ b => (intOf b).toNat)
      case atStart => exact ⟨1, l, rfl, rfl, by omega, by omega, by omega, by omega, E0⟩
      case round =>
        obtain ⟨m, k, rfl, rfl, m1, m2, k1, k2, E⟩ := hrel
        have L := Lib.hid (lenm_any y m (by omega) (by omega) m1 m2 w HT.out)
        have S := Lib.hid (bom_succ y m m1 m2)
        obtain ⟨lb1, lb2⟩ := len_bounds y m
        by_cases hk : lenI y m ≤ k
        · have mm : m ≤ 11 := by
            rcases (by omega : m ≤ 11 ∨ m = 12) with h | h
            · exact h
            · subst h
              have s := S.out
              have e := E.out
              have f := M0.out
              simp at s
              omega
          generalize lenI y m = v at L S lb1 lb2 hk
          go_wp2_with (go_at_call 23; refine L.out.mono ?_; rintro e w' ⟨rfl, rfl⟩)
          go_round
          case rel =>
            have s := S.out
            have e := E.out
            exact ⟨m + 1, k - v, by go_num, by go_num, by omega, by omega, by omega, by omega, by unfold Hid; omega⟩
          case measure => simp [intOf]; omega
        · have U := HU.out y m (k + 1) ⟨by omega, by omega, m1, m2, by omega, by omega⟩ (by have e := E.out; omega)
          have U0 := Lib.hid U
          clear U
          generalize lenI y m = v at L S lb1 lb2 hk
          go_wp2_with (go_at_call 23; refine L.out.mono ?_; rintro e w' ⟨rfl, rfl⟩)
          (try simp only [Exit.inBlock, Exit.then]); refine bodyPost_ret (results_tmp4 rfl _ _ _) rfl ?_
          obtain ⟨rfl, rfl, rfl⟩ := U0.out
          exact ⟨rfl, .refl _ _⟩

theorem date_no (n : Int) (h1 : -9223372036854775808 ≤ n) (h2 : n ≤ 9223372036854775807) (h : n < 0 ∨ 34000 < n) (w : World) :
    Calls Tryd.prog 11 #[.int .i64 n] w (Gives (.tuple #[.int .i64 0, .int .i64 0, .int .i64 0, .int .i64 1]) w) := by
  have D := Lib.hid (day_any n false (by simp; omega) h1 h2)
  clear h
  go_enter Tryd.func11, Tryd.ntmps11
  go_wp2_with (go_at_call 21; refine (D.out _).mono ?_; rintro e w' ⟨rfl, rfl⟩)
  (try simp only [Exit.inBlock, Exit.then]); refine bodyPost_ret (results_tmp4 rfl _ _ _) rfl ?_
  exact ⟨rfl, .refl _ _⟩
end Go.Proofs.YtaakkfbampgoaaaDoor
