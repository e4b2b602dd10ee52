/- Layer 1: the walk of the statement on rounding. -/
import Derived.Test.YtapkndkdhpjonaaHead
namespace Go.Proofs.Ytapkndkdhpjonaa
open Go.RowKit Go
set_option linter.unusedVariables false

theorem finR_cases (x : Int) : (finR x = (x, 0) ∧ -3000000000000000 ≤ x ∧ x ≤ 3000000000000000) ∨ finR x = (0, 3) := by
  unfold finR
  by_cases h : -3000000000000000 ≤ x ∧ x ≤ 3000000000000000
  · rw [if_pos h]; exact .inl ⟨rfl, h⟩
  · rw [if_neg h]; exact .inr rfl

set_option maxRecDepth 100000 in
set_option maxHeartbeats 1000000 in
theorem rounds_out (a n d : Int) (w : World) (h : n < 1 ∨ 2000000000 < n ∨ d < 1 ∨ 2000000000 < d) :
    Calls Try.prog 4 #[.int .i64 a, .int .i64 n, .int .i64 d] w (Gives (.bool true) w) := by
  have H : Hid _ := head_true
  by_cases c1 : n < 1
  · clear h
    go_enter Try.func4, Try.ntmps4
    go_wp2_with fail
    refine (H.out _).mono ?_
    rintro e w1 ⟨rfl, b1⟩
    go_wp2_with fail
    go_ret
    exact ⟨rfl, b1⟩
  · by_cases c2 : 2000000000 < n
    · clear h
      go_enter Try.func4, Try.ntmps4
      go_wp2_with fail
      refine (H.out _).mono ?_
      rintro e w1 ⟨rfl, b1⟩
      go_wp2_with fail
      go_ret
      exact ⟨rfl, b1⟩
    · by_cases c3 : d < 1
      · clear h
        go_enter Try.func4, Try.ntmps4
        go_wp2_with fail
        refine (H.out _).mono ?_
        rintro e w1 ⟨rfl, b1⟩
        go_wp2_with fail
        go_ret
        exact ⟨rfl, b1⟩
      · have c4 : 2000000000 < d := by omega
        clear h
        go_enter Try.func4, Try.ntmps4
        go_wp2_with fail
        refine (H.out _).mono ?_
        rintro e w1 ⟨rfl, b1⟩
        go_wp2_with fail
        go_ret
        exact ⟨rfl, b1⟩

set_option maxRecDepth 100000 in
set_option maxHeartbeats 1000000 in
theorem rounds_big (a n d : Int) (w : World) (h1 : 1 ≤ n) (h2 : n ≤ 2000000000) (h3 : 1 ≤ d) (h4 : d ≤ 2000000000) (h : a < -3000000000000000 ∨ 3000000000000000 < a ∨ 4000000000000000000 / n < max a (-a)) :
    Calls Try.prog 4 #[.int .i64 a, .int .i64 n, .int .i64 d] w (Gives (.bool true) w) := by
  have H : Hid _ := head_true
  have hq : 0 ≤ 4000000000000000000 / n := Int.ediv_nonneg (by omega) (by omega)
  have hq2 : 4000000000000000000 / n ≤ 4000000000000000000 := Int.ediv_le_self _ (by omega)
  by_cases c1 : a < -3000000000000000
  · clear h
    go_enter Try.func4, Try.ntmps4
    go_wp2_with fail
    refine (H.out _).mono ?_
    rintro e w1 ⟨rfl, b1⟩
    go_wp2_with fail
    all_goals
      go_ret
      exact ⟨rfl, b1⟩
  · by_cases c2 : 3000000000000000 < a
    · clear h
      go_enter Try.func4, Try.ntmps4
      go_wp2_with fail
      refine (H.out _).mono ?_
      rintro e w1 ⟨rfl, b1⟩
      go_wp2_with fail
      all_goals
        go_ret
        exact ⟨rfl, b1⟩
    · have c3 : 4000000000000000000 / n < max a (-a) := by omega
      clear h
      go_enter Try.func4, Try.ntmps4
      go_wp2_with fail
      refine (H.out _).mono ?_
      rintro e w1 ⟨rfl, b1⟩
      go_wp2_with fail
      all_goals
        go_ret
        exact ⟨rfl, b1⟩

/-- The quotient's whole part and what is left, without products. -/
theorem quo_parts (a n d : Int) (h1 : 1 ≤ n) (h3 : 1 ≤ d) (h : max a (-a) ≤ 4000000000000000000 / n) :
    ∃ P X : Int, a * n = P ∧ a * n / d * d = X ∧ -4000000000000000000 ≤ P ∧ P ≤ 4000000000000000000 ∧ P - X = a * n % d := by
  have e : max a (-a) * n ≤ 4000000000000000000 := by
    have := Int.mul_le_mul_of_nonneg_right h (show 0 ≤ n by omega)
    have := Int.ediv_mul_le 4000000000000000000 (show n ≠ 0 by omega)
    omega
  have e1 : a * n ≤ max a (-a) * n := Int.mul_le_mul_of_nonneg_right (by omega) (by omega)
  have e2 : -a * n ≤ max a (-a) * n := Int.mul_le_mul_of_nonneg_right (by omega) (by omega)
  rw [Int.neg_mul] at e2
  have e3 := Int.mul_ediv_add_emod (a * n) d
  rw [Int.mul_comm d] at e3
  exact ⟨_, _, rfl, rfl, by omega, by omega, by omega⟩

set_option maxRecDepth 100000 in
set_option maxHeartbeats 1000000 in
theorem rounds_in (a n d : Int) (w : World) (h1 : 1 ≤ n) (h2 : n ≤ 2000000000) (h3 : 1 ≤ d) (h4 : d ≤ 2000000000) (h5 : -3000000000000000 ≤ a) (h6 : a ≤ 3000000000000000) (h7 : max a (-a) ≤ 4000000000000000000 / n) :
    Calls Try.prog 4 #[.int .i64 a, .int .i64 n, .int .i64 d] w (Gives (.bool true) w) := by
  have H : Hid _ := head_true
  have hok : rOK a n d := ⟨h5, h6, by omega, h2, h3, h4⟩
  obtain ⟨P, X, hP, hX, p1, p2, hr⟩ := quo_parts a n d h1 h3 h7
  obtain ⟨r1, r2⟩ := rem_bounds a n d h3
  have hf : floorR a n d = finR (a * n / d) := if_pos hok
  have hc : ceilR' a n d = finR (ceilR (a * n / d) (a * n % d)) := if_pos hok
  have hg : nearR' a n d = finR (nearR a d (a * n / d) (a * n % d)) := if_pos hok
  have hcv : ceilR (a * n / d) (a * n % d) = a * n / d + min (a * n % d) 1 := by
    unfold ceilR; split <;> omega
  have hgv : nearR a d (a * n / d) (a * n % d) = a * n / d ∧ 2 * (a * n % d) ≤ d ∨ nearR a d (a * n / d) (a * n % d) = a * n / d + min (a * n % d) 1 ∧ d ≤ 2 * (a * n % d) := by
    unfold nearR; split <;> omega
  generalize nearR a d (a * n / d) (a * n % d) = z at *
  generalize ceilR (a * n / d) (a * n % d) = y at *
  generalize a * n / d = x at *
  generalize a * n % d = r at *
  clear hok
  have F1 : Hid (∀ e v, finR x = (v, e) → ∀ w, _) := fun e v h => floor_at a n d v e (hf.trans h)
  have F2 : Hid (∀ e v, finR y = (v, e) → ∀ w, _) := fun e v h => ceil_at a n d v e (hc.trans h)
  have F3 : Hid (∀ e v, finR z = (v, e) → ∀ w, _) := fun e v h => near_at a n d v e (hg.trans h)
  clear hf hc hg
  have fin : ∀ e1 e2 e3 v1 v2 v3, finR x = (v1, e1) → finR y = (v2, e2) → finR z = (v3, e3) → (e1 = 3 ∨ e1 = 0 ∧ e2 = 3 ∨ e1 = 0 ∧ e2 = 0 ∧ e3 = 3) →
      Calls Try.prog 4 #[.int .i64 a, .int .i64 n, .int .i64 d] w (Gives (.bool true) w) := by
    intro e1 e2 e3 v1 v2 v3 q1 q2 q3 he
    have G1 : Hid _ := F1.out _ _ q1
    have G2 : Hid _ := F2.out _ _ q2
    have G3 : Hid _ := F3.out _ _ q3
    clear F1 F2 F3 q1 q2 q3 hP hX p1 p2 hr r1 r2 hcv hgv
    rcases he with rfl | ⟨rfl, rfl⟩ | ⟨rfl, rfl, rfl⟩
    · go_enter Try.func4, Try.ntmps4
      go_wp2_with fail
      refine (H.out _).mono ?_
      rintro e w1 ⟨rfl, b1⟩
      go_wp2_with fail
      refine (G1.out _).mono ?_
      intro e w2 h
      obtain ⟨rfl, b2⟩ := gives_from b1 h
      clear h b1
      go_wp2_with fail
      refine (G2.out _).mono ?_
      intro e w3 h
      obtain ⟨rfl, b3⟩ := gives_from b2 h
      clear h b2
      go_wp2_with fail
      refine (G3.out _).mono ?_
      intro e w4 h
      obtain ⟨rfl, b4⟩ := gives_from b3 h
      clear h b3
      go_wp2_with fail
      go_ret
      exact ⟨rfl, b4⟩
    · go_enter Try.func4, Try.ntmps4
      go_wp2_with fail
      refine (H.out _).mono ?_
      rintro e w1 ⟨rfl, b1⟩
      go_wp2_with fail
      refine (G1.out _).mono ?_
      intro e w2 h
      obtain ⟨rfl, b2⟩ := gives_from b1 h
      clear h b1
      go_wp2_with fail
      refine (G2.out _).mono ?_
      intro e w3 h
      obtain ⟨rfl, b3⟩ := gives_from b2 h
      clear h b2
      go_wp2_with fail
      refine (G3.out _).mono ?_
      intro e w4 h
      obtain ⟨rfl, b4⟩ := gives_from b3 h
      clear h b3
      go_wp2_with fail
      go_ret
      exact ⟨rfl, b4⟩
    · go_enter Try.func4, Try.ntmps4
      go_wp2_with fail
      refine (H.out _).mono ?_
      rintro e w1 ⟨rfl, b1⟩
      go_wp2_with fail
      refine (G1.out _).mono ?_
      intro e w2 h
      obtain ⟨rfl, b2⟩ := gives_from b1 h
      clear h b1
      go_wp2_with fail
      refine (G2.out _).mono ?_
      intro e w3 h
      obtain ⟨rfl, b3⟩ := gives_from b2 h
      clear h b2
      go_wp2_with fail
      refine (G3.out _).mono ?_
      intro e w4 h
      obtain ⟨rfl, b4⟩ := gives_from b3 h
      clear h b3
      go_wp2_with fail
      go_ret
      exact ⟨rfl, b4⟩
  rcases finR_cases x with ⟨ex, x1, x2⟩ | ex
  · rcases finR_cases y with ⟨ey, y1, y2⟩ | ey
    · rcases finR_cases z with ⟨ez, z1, z2⟩ | ez
      · have G1 : Hid _ := F1.out _ _ ex
        have G2 : Hid _ := F2.out _ _ ey
        have G3 : Hid _ := F3.out _ _ ez
        clear F1 F2 F3 ex ey ez fin
        have t1 : (y - x == min r 1) = true := by simp; omega
        rcases hgv with ⟨k1, k2⟩ | ⟨k1, k2⟩
        · have t2 : (z == x) = true := by simpa using k1
          clear k1 hcv
          go_enter Try.func4, Try.ntmps4
          go_wp2_with fail
          refine (H.out _).mono ?_
          rintro e w1 ⟨rfl, b1⟩
          go_wp2_with fail
          refine (G1.out _).mono ?_
          intro e w2 h
          obtain ⟨rfl, b2⟩ := gives_from b1 h
          clear h b1
          go_wp2_with fail
          refine (G2.out _).mono ?_
          intro e w3 h
          obtain ⟨rfl, b3⟩ := gives_from b2 h
          clear h b2
          go_wp2_with fail
          refine (G3.out _).mono ?_
          intro e w4 h
          obtain ⟨rfl, b4⟩ := gives_from b3 h
          clear h b3
          go_wp2_with fail
          go_ret
          exact ⟨rfl, b4⟩
        · have t2 : (z == x) = false := by simp; omega
          have t3 : (z == y) = true := by simp; omega
          clear k1 hcv
          go_enter Try.func4, Try.ntmps4
          go_wp2_with fail
          refine (H.out _).mono ?_
          rintro e w1 ⟨rfl, b1⟩
          go_wp2_with fail
          refine (G1.out _).mono ?_
          intro e w2 h
          obtain ⟨rfl, b2⟩ := gives_from b1 h
          clear h b1
          go_wp2_with fail
          refine (G2.out _).mono ?_
          intro e w3 h
          obtain ⟨rfl, b3⟩ := gives_from b2 h
          clear h b2
          go_wp2_with fail
          refine (G3.out _).mono ?_
          intro e w4 h
          obtain ⟨rfl, b4⟩ := gives_from b3 h
          clear h b3
          go_wp2_with fail
          go_ret
          exact ⟨rfl, b4⟩
      · exact fin 0 0 3 _ _ _ ex ey ez (by simp)
    · exact fin 0 3 (finR z).2 _ _ (finR z).1 ex ey rfl (by simp)
  · exact fin 3 (finR y).2 (finR z).2 _ (finR y).1 (finR z).1 ex rfl rfl (by simp)

theorem rounds_true (a n d : Int) (w0 : (Lit.int .i64 a).wf = true) (w1 : (Lit.int .i64 n).wf = true) (w2 : (Lit.int .i64 d).wf = true) (w : World) :
    Calls Try.prog 4 #[.int .i64 a, .int .i64 n, .int .i64 d] w (Gives (.bool true) w) := by
  by_cases h : n < 1 ∨ 2000000000 < n ∨ d < 1 ∨ 2000000000 < d
  · exact rounds_out a n d w h
  · by_cases h2 : a < -3000000000000000 ∨ 3000000000000000 < a ∨ 4000000000000000000 / n < max a (-a)
    · exact rounds_big a n d w (by omega) (by omega) (by omega) (by omega) h2
    · exact rounds_in a n d w (by omega) (by omega) (by omega) (by omega) (by omega) (by omega) (by omega)
end Go.Proofs.Ytapkndkdhpjonaa
