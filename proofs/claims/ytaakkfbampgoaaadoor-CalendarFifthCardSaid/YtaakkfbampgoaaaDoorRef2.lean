/- Layer 5: what the reference's before, Day and Nth return. -/
import Derived.Test.YtaakkfbampgoaaaDoorRef
namespace Go.Proofs.YtaakkfbampgoaaaDoor
open Go.RowKit Go
set_option linter.unusedVariables false
set_option linter.unusedSimpArgs false

/-- How far the reference's sum has come when a year begins. -/
def upI (y m z : Int) : Int := if z ≤ y then bomI z 1 else bomI y m

theorem before_any (y m : Int) (h1 : 2000 ≤ y) (h2 : y ≤ 2093) (h3 : 1 ≤ m) (h4 : m ≤ 12) (w : World) :
    Calls Tryd.prog 28 #[.int .i64 y, .int .i64 m] w fun e w' => e = .returned (.int .i64 (bomI y m)) ∧ w = w' := by
  go_enter Tryd.func28, Tryd.ntmps28
  go_wp2_with fail
  go_loop [5, 6, 7] (fun n a b => ∃ z : Int, a = .int .i64 z ∧ n = .int .i64 (upI y m z) ∧ 2000 ≤ z ∧ z ≤ y + 1) (fun _ a _ => (y + 1 - intOf a).toNat)
  case atStart => exact ⟨2000, rfl, by rw [upI, if_pos h1, bom_one]; rfl, by omega, by omega⟩
  case round =>
    obtain ⟨z, rfl, rfl, z1, z2⟩ := hrel
    rcases (by omega : z < y ∨ z = y ∨ y < z) with h | h | h
    · have e1 : upI y m z = bomI z 1 := if_pos (by omega)
      have e2 : upI y m (z + 1) = bomI z 13 := by rw [upI, if_pos (by omega), bom_thirteen]
      have E2 := Lib.hid e2
      rw [e1]
      clear e1 e2
      go_wp2_with fail
      go_loop [5, 7] (fun n b => ∃ k : Int, b = .int .i64 k ∧ n = .int .i64 (bomI z k) ∧ 1 ≤ k ∧ k ≤ 13) (fun _ b => (13 - intOf b).toNat)
      case atStart => exact ⟨1, rfl, rfl, by omega, by omega⟩
      case round =>
        obtain ⟨k, rfl, rfl, k1, k2⟩ := hrel
        by_cases hk : k ≤ 12
        · have S := Lib.hid (bom_succ z k k1 hk)
          have L := Lib.hid (rlen_any z k (by omega) (by omega) k1 hk w)
          obtain ⟨b1, b2⟩ := bom_range z k z1 (by omega) k1 hk
          obtain ⟨l1, l2⟩ := len_bounds z k
          generalize bomI z k = b at S b1 b2 ⊢
          generalize lenI z k = l at S L l1 l2
          go_wp2_with (go_at_call 20; refine L.out.mono ?_; rintro e w' ⟨rfl, rfl⟩)
          go_round
          case rel => exact ⟨k + 1, by go_num, by rw [S.out], by omega, by omega⟩
          case measure => simp [intOf]; omega
        · obtain rfl : k = 13 := by omega
          rw [← E2.out]
          go_wp2_with fail
          go_round
          case rel => exact ⟨z + 1, by go_num, rfl, by omega, by omega⟩
          case measure => simp [intOf]; omega
    · subst h
      have e1 : upI z m z = bomI z 1 := if_pos (by omega)
      have e2 : upI z m (z + 1) = bomI z m := by rw [upI, if_neg (by omega)]
      have E2 := Lib.hid e2
      rw [e1]
      clear e1 e2
      go_wp2_with fail
      go_loop [5, 7] (fun n b => ∃ k j : Int, b = .int .i64 k ∧ n = .int .i64 (bomI z j) ∧ 1 ≤ k ∧ k ≤ 13 ∧ Hid ((k ≤ m ∧ j = k) ∨ (m < k ∧ j = m))) (fun _ b => (13 - intOf b).toNat)
      case atStart => exact ⟨1, 1, rfl, rfl, by omega, by omega, .inl ⟨by omega, rfl⟩⟩
      case round =>
        obtain ⟨k, j, rfl, rfl, k1, k2, J⟩ := hrel
        by_cases hk : k ≤ 12
        · by_cases hm : k < m
          · obtain rfl : j = k := by have := J.out; omega
            clear J
            have S := Lib.hid (bom_succ z j k1 hk)
            have L := Lib.hid (rlen_any z j (by omega) (by omega) k1 hk w)
            obtain ⟨b1, b2⟩ := bom_range z j z1 (by omega) k1 hk
            obtain ⟨l1, l2⟩ := len_bounds z j
            generalize bomI z j = b at S b1 b2 ⊢
            generalize lenI z j = l at S L l1 l2
            go_wp2_with (go_at_call 20; refine L.out.mono ?_; rintro e w' ⟨rfl, rfl⟩)
            go_round
            case rel => exact ⟨j + 1, j + 1, by go_num, by rw [S.out], by omega, by omega, .inl ⟨by omega, rfl⟩⟩
            case measure => simp [intOf]; omega
          · obtain rfl : j = m := by have := J.out; omega
            clear J
            generalize bomI z j = b at E2 ⊢
            go_wp2_with fail
            go_round
            case rel => exact ⟨k + 1, j, by go_num, by rw [← E2.out, upI, if_neg (by omega)], by omega, by omega, .inr ⟨by omega, rfl⟩⟩
            case measure => simp [intOf]; omega
        · obtain rfl : j = m := by have := J.out; omega
          clear J
          rw [← E2.out]
          go_wp2_with fail
          go_round
          case rel => exact ⟨z + 1, by go_num, rfl, by omega, by omega⟩
          case measure => simp [intOf]; omega
    · have e1 : upI y m z = bomI y m := if_neg (by omega)
      rw [e1]
      go_wp2_with fail
      go_ret
      exact ⟨rfl, rfl⟩

theorem rday_any (y m d : Int) (h1 : -9223372036854775808 ≤ y) (h2 : y ≤ 9223372036854775807) (h3 : -9223372036854775808 ≤ m) (h4 : m ≤ 9223372036854775807) (h5 : -9223372036854775808 ≤ d) (h6 : d ≤ 9223372036854775807) (w : World) :
    Calls Tryd.prog 14 #[.int .i64 y, .int .i64 m, .int .i64 d] w (Gives (.tuple #[.int .i64 (dayR y m d).1, .int .i64 (dayR y m d).2]) w) := by
  by_cases hm : 2000 ≤ y ∧ y ≤ 2093 ∧ 1 ≤ m ∧ m ≤ 12
  · have M := Lib.hid (rmonth_any y m true (by simp; omega) h1 h2 h3 h4)
    obtain ⟨a1, a2, a3, a4⟩ := hm
    have L := Lib.hid (fun w => rlen_any y m (by omega) (by omega) a3 a4 w)
    have LB := len_bounds y m
    rcases (by omega : d < 1 ∨ (1 ≤ d ∧ lenI y m < d) ∨ (1 ≤ d ∧ d ≤ lenI y m)) with h | h | h
    · have e1 : dayR y m d = (0, 1) := if_neg (fun ⟨_, _, _, _, c, _⟩ => by omega)
      rw [e1]
      clear e1 L LB
      go_enter Tryd.func14, Tryd.ntmps14
      go_wp2_with (go_at_call 27; refine (M.out _).mono ?_; rintro e w' ⟨rfl, rfl⟩)
      go_ret2
      exact ⟨rfl, .refl _ _⟩
    · obtain ⟨b1, b2⟩ := h
      have e1 : dayR y m d = (0, 1) := if_neg (fun ⟨_, _, _, _, _, c⟩ => by omega)
      rw [e1]
      clear e1
      generalize lenI y m = l at L LB b2
      go_enter Tryd.func14, Tryd.ntmps14
      go_wp2_with (first
        | (go_at_call 27; refine (M.out _).mono ?_; rintro e w' ⟨rfl, rfl⟩)
        | (go_at_call 20; refine (L.out _).mono ?_; rintro e w' ⟨rfl, rfl⟩))
      go_ret2
      exact ⟨rfl, .refl _ _⟩
    · obtain ⟨b1, b2⟩ := h
      obtain ⟨c1, c2⟩ := bom_range y m a1 a2 a3 a4
      have B := Lib.hid (fun w => before_any y m a1 a2 a3 a4 w)
      have e1 : dayR y m d = finR (bomI y m + d - 1) := if_pos ⟨a1, a2, a3, a4, b1, b2⟩
      generalize lenI y m = l at L LB b2
      generalize bomI y m = b at B c1 c2 e1
      by_cases hf : b + d - 1 ≤ 34000
      · have e2 : dayR y m d = (b + d - 1, 0) := by rw [e1]; exact if_pos hf
        rw [e2]
        clear e1 e2
        go_enter Tryd.func14, Tryd.ntmps14
        go_wp2_with (first
          | (go_at_call 27; refine (M.out _).mono ?_; rintro e w' ⟨rfl, rfl⟩)
          | (go_at_call 20; refine (L.out _).mono ?_; rintro e w' ⟨rfl, rfl⟩)
          | (go_at_call 28; refine (B.out _).mono ?_; rintro e w1 ⟨rfl, rfl⟩))
        go_ret2
        exact ⟨rfl, .refl _ _⟩
      · have e2 : dayR y m d = (0, 3) := by rw [e1]; exact if_neg hf
        rw [e2]
        clear e1 e2
        go_enter Tryd.func14, Tryd.ntmps14
        go_wp2_with (first
          | (go_at_call 27; refine (M.out _).mono ?_; rintro e w' ⟨rfl, rfl⟩)
          | (go_at_call 20; refine (L.out _).mono ?_; rintro e w' ⟨rfl, rfl⟩)
          | (go_at_call 28; refine (B.out _).mono ?_; rintro e w1 ⟨rfl, rfl⟩))
        go_ret2
        exact ⟨rfl, .refl _ _⟩
  · have M := Lib.hid (rmonth_any y m false (by simp; omega) h1 h2 h3 h4)
    have e1 : dayR y m d = (0, 1) := if_neg (fun ⟨a, b, c, e, _, _⟩ => hm ⟨a, b, c, e⟩)
    rw [e1]
    clear e1 hm
    go_enter Tryd.func14, Tryd.ntmps14
    go_wp2_with (go_at_call 27; refine (M.out _).mono ?_; rintro e w' ⟨rfl, rfl⟩)
    go_ret2
    exact ⟨rfl, .refl _ _⟩
end Go.Proofs.YtaakkfbampgoaaaDoor
