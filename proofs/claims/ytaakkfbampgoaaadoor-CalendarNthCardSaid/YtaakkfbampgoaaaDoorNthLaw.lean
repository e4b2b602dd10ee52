/- Layer 5: CalendarNth. -/
import Derived.Test.YtaakkfbampgoaaaDoorLaws
namespace Go.Proofs.YtaakkfbampgoaaaDoor
open Go.RowKit Go
set_option linter.unusedVariables false
set_option linter.unusedSimpArgs false

set_option maxHeartbeats 1000000 in
theorem nthlaw_walk (x1 x2 x3 x4 X M D N : Int) (u1 : 0 ≤ x1 ∧ x1 ≤ 255) (u2 : 0 ≤ x2 ∧ x2 ≤ 255) (u3 : 0 ≤ x3 ∧ x3 ≤ 255) (u4 : 0 ≤ x4 ∧ x4 ≤ 255) (hX : Int.tmod x1 94 = X) (hM : Int.tmod x2 12 = M) (hD : Int.tmod x3 7 = D) (hN : Int.tmod x4 6 = N) (bX : 0 ≤ X ∧ X ≤ 93) (bM : 0 ≤ M ∧ M ≤ 11) (bD : 0 ≤ D ∧ D ≤ 6) (bN : 0 ≤ N ∧ N ≤ 5) (w : World) (ht : Tab w) :
    Calls Tryd.prog 8 #[.int .u8 x1, .int .u8 x2, .int .u8 x3, .int .u8 x4] w (Gives (.bool true) w) := by
  have OK := Lib.hid (ok_refl ht)
  clear ht
  have HD := Lib.hid (head_true w)
  have L := Lib.hid (fun w => rlen_any (2000 + X) (1 + M) (by omega) (by omega) (by omega) (by omega) w)
  have lb := len_bounds (2000 + X) (1 + M)
  rcases (by omega : N = 5 ∨ N ≤ 4) with rfl | n4
  · rcases nth_facts (2000 + X) (1 + M) D (-1) (by omega) (by omega) (by omega) (by omega) bD.1 bD.2 (by omega) with ⟨q1, q2⟩ | ⟨q1, q2⟩ | ⟨n, z, q1, q2, q3, q4, q5, q6, q7⟩
    · omega
    · have D1 := Lib.hid (nth_c (2000 + X) (1 + M) D (-1) 0 3 q1 (by omega) (by omega) (by omega) (by omega) w)
      have x9 : X = 93 := by omega
      subst x9
      clear q1 q2
      go_enter Tryd.func8, Tryd.ntmps8
      go_wp2_with (first
        | (go_at_call 10; refine (HD.out _ OK.out).mono ?_; rintro e w1 ⟨rfl, o1⟩; have O1 := Lib.hid o1; clear o1 OK)
        | (go_at_call 17; refine (D1.out _ O1.out).mono ?_; rintro e w2 ⟨rfl, o2⟩; have O2 := Lib.hid o2; clear o2 O1))
      all_goals (go_ret; exact ⟨by first | (simp; done) | (simp; omega), O2.out.1⟩)
    · have D1 := Lib.hid (nth_c (2000 + X) (1 + M) D (-1) n 0 q1 (by omega) (by omega) (by omega) (by omega) w)
      have D2 := Lib.hid (date_c n (2000 + X) (1 + M) z q2 q3 q5 w)
      have D3 := Lib.hid (week_c n D 0 q6 (by omega) w)
      obtain ⟨_, _, _, _, z1, z2⟩ := q2
      clear q1 q3 q6
      have q8 : lenI (2000 + X) (1 + M) < z + 7 := by omega
      clear q7
      generalize lenI (2000 + X) (1 + M) = v at L lb z2 q8
      go_enter Tryd.func8, Tryd.ntmps8
      go_wp2_with (first
        | (go_at_call 10; refine (HD.out _ OK.out).mono ?_; rintro e w1 ⟨rfl, o1⟩; have O1 := Lib.hid o1; clear o1 OK)
        | (go_at_call 17; refine (D1.out _ O1.out).mono ?_; rintro e w2 ⟨rfl, o2⟩; have O2 := Lib.hid o2; clear o2 O1)
        | (go_at_call 11; refine (D2.out _ O2.out).mono ?_; rintro e w3 ⟨rfl, o3⟩; have O3 := Lib.hid o3; clear o3 O2)
        | (go_at_call 15; refine (D3.out _ O3.out).mono ?_; rintro e w4 ⟨rfl, o4⟩; have O4 := Lib.hid o4; clear o4 O3)
        | (go_at_call 20; refine (L.out _).mono ?_; rintro e w' ⟨rfl, rfl⟩))
      all_goals (go_ret; exact ⟨by first | (simp; done) | (simp; omega), O4.out.1⟩)
  · rcases nth_facts (2000 + X) (1 + M) D (1 + N) (by omega) (by omega) (by omega) (by omega) bD.1 bD.2 (by omega) with ⟨q1, q2⟩ | ⟨q1, q2⟩ | ⟨n, z, q1, q2, q3, q4, q5, q6, q7⟩
    · have D1 := Lib.hid (nth_c (2000 + X) (1 + M) D (1 + N) 0 4 q2 (by omega) (by omega) (by omega) (by omega) w)
      have k6 : (1 + N == 6) = false := beq_eq_false_iff_ne.2 (by omega)
      have k7 : (1 + N == -1) = false := beq_eq_false_iff_ne.2 (by omega)
      have n5 : N = 4 := by omega
      subst n5
      clear q1 q2 k6 k7
      go_enter Tryd.func8, Tryd.ntmps8
      go_wp2_with (first
        | (go_at_call 10; refine (HD.out _ OK.out).mono ?_; rintro e w1 ⟨rfl, o1⟩; have O1 := Lib.hid o1; clear o1 OK)
        | (go_at_call 17; refine (D1.out _ O1.out).mono ?_; rintro e w2 ⟨rfl, o2⟩; have O2 := Lib.hid o2; clear o2 O1))
      all_goals (go_ret; exact ⟨by first | (simp; done) | (simp; omega), O2.out.1⟩)
    · have D1 := Lib.hid (nth_c (2000 + X) (1 + M) D (1 + N) 0 3 q1 (by omega) (by omega) (by omega) (by omega) w)
      have k6 : (1 + N == 6) = false := beq_eq_false_iff_ne.2 (by omega)
      have k7 : (1 + N == -1) = false := beq_eq_false_iff_ne.2 (by omega)
      have x9 : X = 93 := by omega
      subst x9
      clear q1 q2
      go_enter Tryd.func8, Tryd.ntmps8
      go_wp2_with (first
        | (go_at_call 10; refine (HD.out _ OK.out).mono ?_; rintro e w1 ⟨rfl, o1⟩; have O1 := Lib.hid o1; clear o1 OK)
        | (go_at_call 17; refine (D1.out _ O1.out).mono ?_; rintro e w2 ⟨rfl, o2⟩; have O2 := Lib.hid o2; clear o2 O1))
      all_goals (go_ret; exact ⟨by first | (simp; done) | (simp; omega), O2.out.1⟩)
    · have D1 := Lib.hid (nth_c (2000 + X) (1 + M) D (1 + N) n 0 q1 (by omega) (by omega) (by omega) (by omega) w)
      have k6 : (1 + N == 6) = false := beq_eq_false_iff_ne.2 (by omega)
      have k7 : (1 + N == -1) = false := beq_eq_false_iff_ne.2 (by omega)
      have D2 := Lib.hid (date_c n (2000 + X) (1 + M) z q2 q3 q5 w)
      have D3 := Lib.hid (week_c n D 0 q6 (by omega) w)
      obtain ⟨_, _, _, _, z1, z2⟩ := q2
      clear q1 q3 q6
      have q8 : Int.tdiv (z - 1) 7 = N := by rw [Int.tdiv_eq_ediv_of_nonneg (by omega)]; omega
      clear q7
      generalize lenI (2000 + X) (1 + M) = v at L lb z2
      go_enter Tryd.func8, Tryd.ntmps8
      go_wp2_with (first
        | (go_at_call 10; refine (HD.out _ OK.out).mono ?_; rintro e w1 ⟨rfl, o1⟩; have O1 := Lib.hid o1; clear o1 OK)
        | (go_at_call 17; refine (D1.out _ O1.out).mono ?_; rintro e w2 ⟨rfl, o2⟩; have O2 := Lib.hid o2; clear o2 O1)
        | (go_at_call 11; refine (D2.out _ O2.out).mono ?_; rintro e w3 ⟨rfl, o3⟩; have O3 := Lib.hid o3; clear o3 O2)
        | (go_at_call 15; refine (D3.out _ O3.out).mono ?_; rintro e w4 ⟨rfl, o4⟩; have O4 := Lib.hid o4; clear o4 O3))
      all_goals (go_ret; exact ⟨by first | (simp; done) | (simp; omega), O4.out.1⟩)

theorem nth_law (x1 x2 x3 x4 : Int) (w : World) (hx1 : (Lit.int .u8 x1).wf = true) (hx2 : (Lit.int .u8 x2).wf = true) (hx3 : (Lit.int .u8 x3).wf = true) (hx4 : (Lit.int .u8 x4).wf = true) (ht : Tab w) :
    Calls Tryd.prog 8 #[.int .u8 x1, .int .u8 x2, .int .u8 x3, .int .u8 x4] w (Gives (.bool true) w) := by
  have a1 := u8_wf hx1
  have a2 := u8_wf hx2
  have a3 := u8_wf hx3
  have a4 := u8_wf hx4
  have e1 : Int.tmod x1 94 = x1 % 94 := Int.tmod_eq_emod_of_nonneg a1.1
  have e2 : Int.tmod x2 12 = x2 % 12 := Int.tmod_eq_emod_of_nonneg a2.1
  have e3 : Int.tmod x3 7 = x3 % 7 := Int.tmod_eq_emod_of_nonneg a3.1
  have e4 : Int.tmod x4 6 = x4 % 6 := Int.tmod_eq_emod_of_nonneg a4.1
  exact nthlaw_walk x1 x2 x3 x4 _ _ _ _ a1 a2 a3 a4 e1 e2 e3 e4 (by omega) (by omega) (by omega) (by omega) w ht
end Go.Proofs.YtaakkfbampgoaaaDoor
