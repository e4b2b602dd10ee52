/- Layer 5: what Nth of package calendar returns. -/
import Derived.Test.YtaakkfbampgoaaaDoorDate
namespace Go.Proofs.YtaakkfbampgoaaaDoor
open Go.RowKit Go
set_option linter.unusedVariables false
set_option linter.unusedSimpArgs false

theorem fin_eq (Z : Int) (h1 : 0 ≤ Z) (h2 : Z ≤ 9223372036854775807) (x : Int) (hx : x = Z) (w : World) :
    Calls Tryd.prog 25 #[.int .i64 x] w (Gives (.tuple #[.int .i64 (finR Z).1, .int .i64 (finR Z).2]) w) := by
  subst hx; exact fin_any _ h1 h2 w

theorem nth_any (y m d k : Int) (h1 : -9223372036854775808 ≤ y) (h2 : y ≤ 9223372036854775807) (h3 : -9223372036854775808 ≤ m) (h4 : m ≤ 9223372036854775807) (h5 : -9223372036854775808 ≤ d) (h6 : d ≤ 9223372036854775807) (h7 : -9223372036854775808 ≤ k) (h8 : k ≤ 9223372036854775807) (w : World) (ht : Tab w) :
    Calls Tryd.prog 17 #[.int .i64 y, .int .i64 m, .int .i64 d, .int .i64 k] w (Gives (.tuple #[.int .i64 (nthR y m d k).1, .int .i64 (nthR y m d k).2]) w) := by
  have HT := Lib.hid ht
  clear ht
  by_cases hm : 2000 ≤ y ∧ y ≤ 2093 ∧ 1 ≤ m ∧ m ≤ 12
  · have M := Lib.hid (month_any y m true (by simp; omega) h1 h2 h3 h4)
    by_cases hd : 0 ≤ d ∧ d ≤ 6
    · have D := Lib.hid (isweek_any d true (by simp; omega) h5 h6)
      by_cases hk : k = -1 ∨ 1 ≤ k ∧ k ≤ 5
      · have K := Lib.hid (isnth_any k true (by simp; omega) h7 h8)
        have e1 : nthR y m d k = (if k = -1 then finR (bomI y m + beforeI y m d + 7 * (countI y m d - 1)) else if countI y m d < k then (0, 4) else finR (bomI y m + beforeI y m d + 7 * (k - 1))) := if_pos ⟨hm.1, hm.2.1, hm.2.2.1, hm.2.2.2, hd.1, hd.2, hk⟩
        obtain ⟨a1, a2, a3, a4⟩ := hm
        obtain ⟨a5, a6⟩ := hd
        have L := Lib.hid (fun w => lenm_any y m (by omega) (by omega) a3 a4 w)
        have B := Lib.hid (fun w => begin_any y m a1 a2 a3 a4 w)
        obtain ⟨l1, l2⟩ := len_bounds y m
        obtain ⟨c1, c2⟩ := bom_range y m a1 a2 a3 a4
        obtain ⟨f1, f2⟩ := before_range y m d
        obtain ⟨g1, g2⟩ := count_range y m d
        have W := Lib.hid (fun w => weekof_any (bomI y m) c1 (by omega) w)
        have t1 : 0 ≤ weekI (bomI y m) ∧ weekI (bomI y m) ≤ 6 := by unfold weekI; omega
        have e2 : Int.tmod (d - weekI (bomI y m) + 7) 7 = beforeI y m d := by
          rw [Int.tmod_eq_emod_of_nonneg (by omega)]; unfold beforeI weekI; omega
        obtain ⟨z, hz⟩ : ∃ z, countI y m d = z + 1 := ⟨countI y m d - 1, by omega⟩
        have e3 : Int.tdiv (lenI y m - beforeI y m d - 1) 7 = z := by
          rw [Int.tdiv_eq_ediv_of_nonneg (by omega)]
          unfold countI at hz
          omega
        rw [hz] at e1 g1 g2
        clear hz
        generalize beforeI y m d = f at e1 e2 e3 f1 f2
        generalize weekI (bomI y m) = t at W t1 e2
        generalize lenI y m = l at L l1 l2 e3
        generalize bomI y m = b at B c1 c2 e1 W
        rcases (by omega : k = -1 ∨ (1 ≤ k ∧ k ≤ 5 ∧ z + 1 < k) ∨ (1 ≤ k ∧ k ≤ z + 1)) with h | ⟨k1, k2, k3⟩ | ⟨k1, k2⟩
        · subst h
          have e4 : nthR y m d (-1) = finR (b + f + 7 * z) := by rw [e1, if_pos rfl]; congr 1; omega
          rw [e4]
          clear e1 e4 hk
          have F := Lib.hid (fin_eq (b + f + 7 * z) (by omega) (by omega))
          go_enter Tryd.func17, Tryd.ntmps17
          go_wp2_with (first
            | (go_at_call 24; refine (M.out _).mono ?_; rintro e w' ⟨rfl, rfl⟩)
            | (go_at_call 30; refine (D.out _).mono ?_; rintro e w' ⟨rfl, rfl⟩)
            | (go_at_call 31; refine (K.out _).mono ?_; rintro e w' ⟨rfl, rfl⟩)
            | (go_at_call 26; refine (B.out _ HT.out).mono ?_; rintro e w1 ⟨rfl, hb1⟩; have HT1 := Lib.hid (HT.out.step hb1))
            | (go_at_call 29; refine (W.out _).mono ?_; rintro e w' ⟨rfl, rfl⟩)
            | (go_at_call 23; refine (L.out _ HT1.out).mono ?_; rintro e w' ⟨rfl, rfl⟩)
            | (go_at_call 25; refine (F.out _ (by omega) _).mono ?_; rintro e w2 ⟨rfl, hb2⟩))
          go_ret2
          exact ⟨rfl, below_more hb1 hb2⟩
        · have e4 : nthR y m d k = (0, 4) := by rw [e1, if_neg (by omega), if_pos (by omega)]
          rw [e4]
          clear e1 e4 hk
          have e5 : (k == -1) = false := beq_eq_false_iff_ne.2 (by omega)
          go_enter Tryd.func17, Tryd.ntmps17
          go_wp2_with (first
            | (go_at_call 24; refine (M.out _).mono ?_; rintro e w' ⟨rfl, rfl⟩)
            | (go_at_call 30; refine (D.out _).mono ?_; rintro e w' ⟨rfl, rfl⟩)
            | (go_at_call 31; refine (K.out _).mono ?_; rintro e w' ⟨rfl, rfl⟩)
            | (go_at_call 26; refine (B.out _ HT.out).mono ?_; rintro e w1 ⟨rfl, hb1⟩; have HT1 := Lib.hid (HT.out.step hb1))
            | (go_at_call 29; refine (W.out _).mono ?_; rintro e w' ⟨rfl, rfl⟩)
            | (go_at_call 23; refine (L.out _ HT1.out).mono ?_; rintro e w' ⟨rfl, rfl⟩))
          go_ret2
          exact ⟨rfl, hb1⟩
        · have e4 : nthR y m d k = finR (b + f + 7 * (k - 1)) := by rw [e1, if_neg (by omega), if_neg (by omega)]
          rw [e4]
          clear e1 e4 hk
          have e5 : (k == -1) = false := beq_eq_false_iff_ne.2 (by omega)
          have F := Lib.hid (fin_eq (b + f + 7 * (k - 1)) (by omega) (by omega))
          go_enter Tryd.func17, Tryd.ntmps17
          go_wp2_with (first
            | (go_at_call 24; refine (M.out _).mono ?_; rintro e w' ⟨rfl, rfl⟩)
            | (go_at_call 30; refine (D.out _).mono ?_; rintro e w' ⟨rfl, rfl⟩)
            | (go_at_call 31; refine (K.out _).mono ?_; rintro e w' ⟨rfl, rfl⟩)
            | (go_at_call 26; refine (B.out _ HT.out).mono ?_; rintro e w1 ⟨rfl, hb1⟩; have HT1 := Lib.hid (HT.out.step hb1))
            | (go_at_call 29; refine (W.out _).mono ?_; rintro e w' ⟨rfl, rfl⟩)
            | (go_at_call 23; refine (L.out _ HT1.out).mono ?_; rintro e w' ⟨rfl, rfl⟩)
            | (go_at_call 25; refine (F.out _ (by omega) _).mono ?_; rintro e w2 ⟨rfl, hb2⟩))
          go_ret2
          exact ⟨rfl, below_more hb1 hb2⟩
      · have K := Lib.hid (isnth_any k false (by simp; omega) h7 h8)
        have e1 : nthR y m d k = (0, 1) := if_neg (fun ⟨_, _, _, _, _, _, c⟩ => hk c)
        rw [e1]
        clear e1 hk hd hm
        go_enter Tryd.func17, Tryd.ntmps17
        go_wp2_with (first
          | (go_at_call 24; refine (M.out _).mono ?_; rintro e w' ⟨rfl, rfl⟩)
          | (go_at_call 30; refine (D.out _).mono ?_; rintro e w' ⟨rfl, rfl⟩)
          | (go_at_call 31; refine (K.out _).mono ?_; rintro e w' ⟨rfl, rfl⟩))
        go_ret2
        exact ⟨rfl, .refl _ _⟩
    · have D := Lib.hid (isweek_any d false (by simp; omega) h5 h6)
      have e1 : nthR y m d k = (0, 1) := if_neg (fun ⟨_, _, _, _, c, e, _⟩ => hd ⟨c, e⟩)
      rw [e1]
      clear e1 hd hm
      go_enter Tryd.func17, Tryd.ntmps17
      go_wp2_with (first
        | (go_at_call 24; refine (M.out _).mono ?_; rintro e w' ⟨rfl, rfl⟩)
        | (go_at_call 30; refine (D.out _).mono ?_; rintro e w' ⟨rfl, rfl⟩))
      go_ret2
      exact ⟨rfl, .refl _ _⟩
  · have M := Lib.hid (month_any y m false (by simp; omega) h1 h2 h3 h4)
    have e1 : nthR y m d k = (0, 1) := if_neg (fun ⟨a, b, c, e, _⟩ => hm ⟨a, b, c, e⟩)
    rw [e1]
    clear e1 hm
    go_enter Tryd.func17, Tryd.ntmps17
    go_wp2_with (go_at_call 24; refine (M.out _).mono ?_; rintro e w' ⟨rfl, rfl⟩)
    go_ret2
    exact ⟨rfl, .refl _ _⟩
end Go.Proofs.YtaakkfbampgoaaaDoor
