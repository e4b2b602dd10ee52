/- Layer 5: what the reference's Nth returns. -/
import Derived.Test.YtaakkfbampgoaaaDoorRef2
namespace Go.Proofs.YtaakkfbampgoaaaDoor
open Go.RowKit Go
set_option linter.unusedVariables false
set_option linter.unusedSimpArgs false

/-- What was found so far, of c days on the day of the week; s: the first one that may be. -/
def foundI (K s c : Int) : Int := if K = -1 then (if c = 0 then -1 else s + 7 * (c - 1)) else (if c < K then -1 else s + 7 * (K - 1))

theorem rnth_any (y m d k : Int) (h1 : -9223372036854775808 ≤ y) (h2 : y ≤ 9223372036854775807) (h3 : -9223372036854775808 ≤ m) (h4 : m ≤ 9223372036854775807) (h5 : -9223372036854775808 ≤ d) (h6 : d ≤ 9223372036854775807) (h7 : -9223372036854775808 ≤ k) (h8 : k ≤ 9223372036854775807) (w : World) :
    Calls Tryd.prog 18 #[.int .i64 y, .int .i64 m, .int .i64 d, .int .i64 k] w (Gives (.tuple #[.int .i64 (nthR y m d k).1, .int .i64 (nthR y m d k).2]) w) := by
  by_cases hm : 2000 ≤ y ∧ y ≤ 2093 ∧ 1 ≤ m ∧ m ≤ 12
  · have M := Lib.hid (rmonth_any y m true (by simp; omega) h1 h2 h3 h4)
    rcases (by omega : d < 0 ∨ 6 < d ∨ (0 ≤ d ∧ d ≤ 6)) with h | h | ⟨a5, a6⟩
    · have e1 : nthR y m d k = (0, 1) := if_neg (fun ⟨_, _, _, _, c, e, _⟩ => by omega)
      rw [e1]
      clear e1 hm
      go_enter Tryd.func18, Tryd.ntmps18
      go_wp2_with (go_at_call 27; refine (M.out _).mono ?_; rintro e w' ⟨rfl, rfl⟩)
      go_ret2
      exact ⟨rfl, .refl _ _⟩
    · have e1 : nthR y m d k = (0, 1) := if_neg (fun ⟨_, _, _, _, c, e, _⟩ => by omega)
      rw [e1]
      clear e1 hm
      go_enter Tryd.func18, Tryd.ntmps18
      go_wp2_with (go_at_call 27; refine (M.out _).mono ?_; rintro e w' ⟨rfl, rfl⟩)
      go_ret2
      exact ⟨rfl, .refl _ _⟩
    · rcases (by omega : (k ≠ -1 ∧ k < 1) ∨ (k ≠ -1 ∧ 5 < k) ∨ (k = -1 ∨ (1 ≤ k ∧ k ≤ 5))) with ⟨n1, n2⟩ | ⟨n1, n2⟩ | hk
      · have e1 : nthR y m d k = (0, 1) := if_neg (fun ⟨_, _, _, _, _, _, c⟩ => by omega)
        rw [e1]
        clear e1 hm
        have e5 : (k != -1) = true := by simpa using n1
        go_enter Tryd.func18, Tryd.ntmps18
        go_wp2_with (go_at_call 27; refine (M.out _).mono ?_; rintro e w' ⟨rfl, rfl⟩)
        go_ret2
        exact ⟨rfl, .refl _ _⟩
      · have e1 : nthR y m d k = (0, 1) := if_neg (fun ⟨_, _, _, _, _, _, c⟩ => by omega)
        rw [e1]
        clear e1 hm
        have e5 : (k != -1) = true := by simpa using n1
        go_enter Tryd.func18, Tryd.ntmps18
        go_wp2_with (go_at_call 27; refine (M.out _).mono ?_; rintro e w' ⟨rfl, rfl⟩)
        go_ret2
        exact ⟨rfl, .refl _ _⟩
      · have e1 : nthR y m d k = (if k = -1 then finR (bomI y m + beforeI y m d + 7 * (countI y m d - 1)) else if countI y m d < k then (0, 4) else finR (bomI y m + beforeI y m d + 7 * (k - 1))) := if_pos ⟨hm.1, hm.2.1, hm.2.2.1, hm.2.2.2, a5, a6, hk⟩
        obtain ⟨a1, a2, a3, a4⟩ := hm
        have L := Lib.hid (fun w => rlen_any y m (by omega) (by omega) a3 a4 w)
        have B := Lib.hid (fun w => before_any y m a1 a2 a3 a4 w)
        obtain ⟨l1, l2⟩ := len_bounds y m
        obtain ⟨c1, c2⟩ := bom_range y m a1 a2 a3 a4
        obtain ⟨f1, f2⟩ := before_range y m d
        obtain ⟨g1, g2⟩ := count_range y m d
        have e2 := Lib.hid (show (bomI y m + beforeI y m d + 5) % 7 = d by unfold beforeI; omega)
        have e3 := Lib.hid (show countI y m d = (lenI y m + 6 - beforeI y m d) / 7 from rfl)
        have E1 := Lib.hid e1
        clear e1
        generalize beforeI y m d = f at E1 e2 e3 f1 f2
        generalize countI y m d = z at E1 e3 g1 g2
        generalize lenI y m = l at L l1 l2 e3
        generalize bomI y m = b at B c1 c2 E1 e2
        -- the result, off what was found
        have FIN := Lib.hid (show nthR y m d k = (if foundI k (b + f) z < 0 then (0, 4) else if 34000 < foundI k (b + f) z then (0, 3) else (foundI k (b + f) z, 0)) by
          rw [E1.out]
          unfold foundI finR
          by_cases q : k = -1
          · rw [if_pos q, if_pos q, if_neg (by omega : ¬ z = 0), if_neg (by omega : ¬ b + f + 7 * (z - 1) < 0)]
            split <;> split <;> first | rfl | omega
          · rw [if_neg q, if_neg q]
            by_cases q2 : z < k
            · rw [if_pos q2, if_pos q2]; rfl
            · rw [if_neg q2, if_neg q2, if_neg (by omega : ¬ b + f + 7 * (k - 1) < 0)]
              split <;> split <;> first | rfl | omega)
        clear E1
        have KD : Hid ((k = -1 ∧ (k != -1) = false ∧ (k == -1) = true) ∨ (1 ≤ k ∧ k ≤ 5 ∧ (k != -1) = true ∧ (k == -1) = false)) := by
          rcases hk with rfl | ⟨k1, k2⟩
          · exact .inl ⟨rfl, by decide, by decide⟩
          · exact .inr ⟨k1, k2, by simp; omega, by simp; omega⟩
        go_enter Tryd.func18, Tryd.ntmps18
        rcases KD.out with ⟨rfl, kd1, kd2⟩ | ⟨k1, k2, kd1, kd2⟩
        · go_wp2_with (first
            | (go_at_call 27; refine (M.out _).mono ?_; rintro e w' ⟨rfl, rfl⟩)
            | (go_at_call 28; refine (B.out _).mono ?_; rintro e w1 ⟨rfl, rfl⟩))
          go_loop [12, 13, 14] (fun a n i => ∃ j c : Int, i = .int .i64 j ∧ n = .int .i64 c ∧ a = .int .i64 (foundI (-1) (b + f) c) ∧ 0 ≤ j ∧ j ≤ l ∧ 0 ≤ c ∧ c ≤ 5 ∧ Hid (c = (j + 6 - f) / 7)) (fun _ _ i => (l - intOf i).toNat)
          case atStart => exact ⟨0, 0, rfl, rfl, by rfl, by omega, by omega, by omega, by omega, by unfold Hid; omega⟩
          case round =>
            obtain ⟨j, c, rfl, rfl, rfl, j1, j2, p1, p2, P⟩ := hrel
            by_cases hj : j < l
            · by_cases hs : (j - f) % 7 = 0
              · have t1 : Int.tmod (b + j + 5) 7 = d := by
                  rw [Int.tmod_eq_emod_of_nonneg (by omega)]; have := e2.out; omega
                have P' := Lib.hid (show c + 1 = (j + 1 + 6 - f) / 7 by have := P.out; omega)
                have J := Lib.hid (show j = f + 7 * c by have := P.out; omega)
                have c9 : c + 1 ≤ 5 := by have := P'.out; omega
                clear P
                have k1 : (c + 1 == -1) = false := beq_eq_false_iff_ne.2 (by omega)
                have FN := Lib.hid (show foundI (-1) (b + f) (c + 1) = b + j by rw [foundI, if_pos rfl, if_neg (by omega)]; have := J.out; omega)
                go_wp2_with (go_at_call 20; refine (L.out _).mono ?_; rintro e w' ⟨rfl, rfl⟩)
                go_round
                case rel => exact ⟨j + 1, c + 1, by go_num, by go_num, by rw [FN.out], by omega, by omega, by omega, by omega, P'⟩
                case measure => simp [intOf]; omega
              · obtain ⟨t, ht, htd⟩ : ∃ t, Int.tmod (b + j + 5) 7 = t ∧ (t != d) = true := by
                  refine ⟨_, rfl, ?_⟩
                  rw [Int.tmod_eq_emod_of_nonneg (by omega)]; have := e2.out; simp; omega
                have P' := Lib.hid (show c = (j + 1 + 6 - f) / 7 by have := P.out; omega)
                clear P
                obtain ⟨x, hx⟩ : ∃ x, foundI (-1) (b + f) c = x := ⟨_, rfl⟩
                rw [hx]
                have HX := Lib.hid hx
                clear hx
                go_wp2_with (go_at_call 20; refine (L.out _).mono ?_; rintro e w' ⟨rfl, rfl⟩)
                go_round
                case rel => exact ⟨j + 1, c, by go_num, rfl, by rw [HX.out], by omega, by omega, by omega, by omega, P'⟩
                case measure => simp [intOf]; omega
            · obtain rfl : j = l := by omega
              have hc : c = z := by have := P.out; have := e3.out; omega
              subst hc
              have X := Lib.hid (show (foundI (-1) (b + f) c < 0 ∧ nthR y m d (-1) = (0, 4)) ∨ (0 ≤ foundI (-1) (b + f) c ∧ 34000 < foundI (-1) (b + f) c ∧ nthR y m d (-1) = (0, 3)) ∨ (0 ≤ foundI (-1) (b + f) c ∧ foundI (-1) (b + f) c ≤ 34000 ∧ nthR y m d (-1) = (foundI (-1) (b + f) c, 0)) by
                have F := FIN.out
                rcases (by omega : foundI (-1) (b + f) c < 0 ∨ (0 ≤ foundI (-1) (b + f) c ∧ 34000 < foundI (-1) (b + f) c) ∨ (0 ≤ foundI (-1) (b + f) c ∧ foundI (-1) (b + f) c ≤ 34000)) with q | ⟨q, r⟩ | ⟨q, r⟩
                · exact .inl ⟨q, by rw [F, if_pos q]⟩
                · exact .inr (.inl ⟨q, r, by rw [F, if_neg (by omega), if_pos r]⟩)
                · exact .inr (.inr ⟨q, r, by rw [F, if_neg (by omega), if_neg (by omega)]⟩))
              clear FIN
              generalize foundI (-1) (b + f) c = x at X ⊢
              rcases X.out with ⟨x1, x2⟩ | ⟨x1, x2, x3⟩ | ⟨x1, x2, x3⟩
              · have X2 := Lib.hid x2
                clear x2
                go_wp2_with (go_at_call 20; refine (L.out _).mono ?_; rintro e w' ⟨rfl, rfl⟩)
                go_ret2
                exact ⟨by rw [X2.out]; rfl, .refl _ _⟩
              · have X2 := Lib.hid x3
                clear x3
                go_wp2_with (go_at_call 20; refine (L.out _).mono ?_; rintro e w' ⟨rfl, rfl⟩)
                go_ret2
                exact ⟨by rw [X2.out]; rfl, .refl _ _⟩
              · have X2 := Lib.hid x3
                clear x3
                go_wp2_with (go_at_call 20; refine (L.out _).mono ?_; rintro e w' ⟨rfl, rfl⟩)
                go_ret2
                exact ⟨by rw [X2.out]; rfl, .refl _ _⟩
        · go_wp2_with (first
            | (go_at_call 27; refine (M.out _).mono ?_; rintro e w' ⟨rfl, rfl⟩)
            | (go_at_call 28; refine (B.out _).mono ?_; rintro e w1 ⟨rfl, rfl⟩))
          go_loop [12, 13, 14] (fun a n i => ∃ j c : Int, i = .int .i64 j ∧ n = .int .i64 c ∧ a = .int .i64 (foundI k (b + f) c) ∧ 0 ≤ j ∧ j ≤ l ∧ 0 ≤ c ∧ c ≤ 5 ∧ Hid (c = (j + 6 - f) / 7)) (fun _ _ i => (l - intOf i).toNat)
          case atStart => exact ⟨0, 0, rfl, rfl, by rw [foundI, if_neg (by omega), if_pos (by omega)], by omega, by omega, by omega, by omega, by unfold Hid; omega⟩
          case round =>
            obtain ⟨j, c, rfl, rfl, rfl, j1, j2, p1, p2, P⟩ := hrel
            by_cases hj : j < l
            · by_cases hs : (j - f) % 7 = 0
              · have t1 : Int.tmod (b + j + 5) 7 = d := by
                  rw [Int.tmod_eq_emod_of_nonneg (by omega)]; have := e2.out; omega
                have P' := Lib.hid (show c + 1 = (j + 1 + 6 - f) / 7 by have := P.out; omega)
                have J := Lib.hid (show j = f + 7 * c by have := P.out; omega)
                have c9 : c + 1 ≤ 5 := by have := P'.out; omega
                clear P
                by_cases q : c + 1 = k
                · subst q
                  have FN := Lib.hid (show foundI (c + 1) (b + f) (c + 1) = b + j by rw [foundI, if_neg (by omega), if_neg (by omega)]; have := J.out; omega)
                  go_wp2_with (go_at_call 20; refine (L.out _).mono ?_; rintro e w' ⟨rfl, rfl⟩)
                  go_round
                  case rel => exact ⟨j + 1, c + 1, by go_num, by go_num, by rw [FN.out], by omega, by omega, by omega, by omega, P'⟩
                  case measure => simp [intOf]; omega
                · have q1 : (c + 1 == k) = false := beq_eq_false_iff_ne.2 q
                  have FN := Lib.hid (show foundI k (b + f) (c + 1) = foundI k (b + f) c by
                    have q0 : ¬ k = -1 := by omega
                    unfold foundI
                    rw [if_neg q0, if_neg q0]
                    split <;> split <;> first | rfl | omega)
                  generalize foundI k (b + f) c = x at FN ⊢
                  go_wp2_with (go_at_call 20; refine (L.out _).mono ?_; rintro e w' ⟨rfl, rfl⟩)
                  go_round
                  case rel => exact ⟨j + 1, c + 1, by go_num, by go_num, by rw [FN.out], by omega, by omega, by omega, by omega, P'⟩
                  case measure => simp [intOf]; omega
              · obtain ⟨t, ht, htd⟩ : ∃ t, Int.tmod (b + j + 5) 7 = t ∧ (t != d) = true := by
                  refine ⟨_, rfl, ?_⟩
                  rw [Int.tmod_eq_emod_of_nonneg (by omega)]; have := e2.out; simp; omega
                have P' := Lib.hid (show c = (j + 1 + 6 - f) / 7 by have := P.out; omega)
                clear P
                obtain ⟨x, hx⟩ : ∃ x, foundI k (b + f) c = x := ⟨_, rfl⟩
                rw [hx]
                have HX := Lib.hid hx
                clear hx
                go_wp2_with (go_at_call 20; refine (L.out _).mono ?_; rintro e w' ⟨rfl, rfl⟩)
                go_round
                case rel => exact ⟨j + 1, c, by go_num, rfl, by rw [HX.out], by omega, by omega, by omega, by omega, P'⟩
                case measure => simp [intOf]; omega
            · obtain rfl : j = l := by omega
              have hc : c = z := by have := P.out; have := e3.out; omega
              subst hc
              have X := Lib.hid (show (foundI k (b + f) c < 0 ∧ nthR y m d k = (0, 4)) ∨ (0 ≤ foundI k (b + f) c ∧ 34000 < foundI k (b + f) c ∧ nthR y m d k = (0, 3)) ∨ (0 ≤ foundI k (b + f) c ∧ foundI k (b + f) c ≤ 34000 ∧ nthR y m d k = (foundI k (b + f) c, 0)) by
                have F := FIN.out
                rcases (by omega : foundI k (b + f) c < 0 ∨ (0 ≤ foundI k (b + f) c ∧ 34000 < foundI k (b + f) c) ∨ (0 ≤ foundI k (b + f) c ∧ foundI k (b + f) c ≤ 34000)) with q | ⟨q, r⟩ | ⟨q, r⟩
                · exact .inl ⟨q, by rw [F, if_pos q]⟩
                · exact .inr (.inl ⟨q, r, by rw [F, if_neg (by omega), if_pos r]⟩)
                · exact .inr (.inr ⟨q, r, by rw [F, if_neg (by omega), if_neg (by omega)]⟩))
              clear FIN
              generalize foundI k (b + f) c = x at X ⊢
              rcases X.out with ⟨x1, x2⟩ | ⟨x1, x2, x3⟩ | ⟨x1, x2, x3⟩
              · have X2 := Lib.hid x2
                clear x2
                go_wp2_with (go_at_call 20; refine (L.out _).mono ?_; rintro e w' ⟨rfl, rfl⟩)
                go_ret2
                exact ⟨by rw [X2.out]; rfl, .refl _ _⟩
              · have X2 := Lib.hid x3
                clear x3
                go_wp2_with (go_at_call 20; refine (L.out _).mono ?_; rintro e w' ⟨rfl, rfl⟩)
                go_ret2
                exact ⟨by rw [X2.out]; rfl, .refl _ _⟩
              · have X2 := Lib.hid x3
                clear x3
                go_wp2_with (go_at_call 20; refine (L.out _).mono ?_; rintro e w' ⟨rfl, rfl⟩)
                go_ret2
                exact ⟨by rw [X2.out]; rfl, .refl _ _⟩
  · have M := Lib.hid (rmonth_any y m false (by simp; omega) h1 h2 h3 h4)
    have e1 : nthR y m d k = (0, 1) := if_neg (fun ⟨a, b, c, e, _⟩ => hm ⟨a, b, c, e⟩)
    rw [e1]
    clear e1 hm
    go_enter Tryd.func18, Tryd.ntmps18
    go_wp2_with (go_at_call 27; refine (M.out _).mono ?_; rintro e w' ⟨rfl, rfl⟩)
    go_ret2
    exact ⟨rfl, .refl _ _⟩
end Go.Proofs.YtaakkfbampgoaaaDoor
