/- Layer 5: CalendarFifth. -/
import Derived.Test.YtaakkfbampgoaaaDoorLaws
namespace Go.Proofs.YtaakkfbampgoaaaDoor
open Go.RowKit Go
set_option linter.unusedVariables false
set_option linter.unusedSimpArgs false

set_option maxHeartbeats 1000000 in
theorem fifth_walk (x1 x2 x3 X M D : Int) (u1 : 0 ≤ x1 ∧ x1 ≤ 255) (u2 : 0 ≤ x2 ∧ x2 ≤ 255) (u3 : 0 ≤ x3 ∧ x3 ≤ 255) (hX : Int.tmod x1 94 = X) (hM : Int.tmod x2 12 = M) (hD : Int.tmod x3 7 = D) (bX : 0 ≤ X ∧ X ≤ 93) (bM : 0 ≤ M ∧ M ≤ 11) (bD : 0 ≤ D ∧ D ≤ 6) (w : World) (ht : Tab w) :
    Calls Tryd.prog 9 #[.int .u8 x1, .int .u8 x2, .int .u8 x3] w (Gives (.bool true) w) := by
  have OK := Lib.hid (ok_refl ht)
  clear ht
  have HD := Lib.hid (head_true w)
  have G : Hid (∀ k, nthR (2000 + X) (1 + M) D k = ((nthR (2000 + X) (1 + M) D k).1, (nthR (2000 + X) (1 + M) D k).2)) := fun k => rfl
  rcases fifth_facts (2000 + X) (1 + M) D (by omega) (by omega) (by omega) (by omega) bD.1 bD.2 with ⟨q1, q2⟩ | ⟨n, q1, q2⟩ | ⟨n, q1, q2, q3⟩
  · have D1 := Lib.hid (nth_c (2000 + X) (1 + M) D (-1) 0 3 q1 (by omega) (by omega) (by omega) (by omega) w)
    have D2 := Lib.hid (nth_c (2000 + X) (1 + M) D 5 _ _ (G.out 5) (by omega) (by omega) (by omega) (by omega) w)
    have D3 := Lib.hid (nth_c (2000 + X) (1 + M) D 4 _ _ (G.out 4) (by omega) (by omega) (by omega) (by omega) w)
    have x9 : X = 93 := by omega
    subst x9
    clear q1 q2 G
    generalize (nthR (2000 + 93) (1 + M) D 5).1 = r1 at D2
    generalize (nthR (2000 + 93) (1 + M) D 5).2 = r2 at D2
    generalize (nthR (2000 + 93) (1 + M) D 4).1 = r3 at D3
    generalize (nthR (2000 + 93) (1 + M) D 4).2 = r4 at D3
    go_enter Tryd.func9, Tryd.ntmps9
    go_wp2_with (first
      | (go_at_call 10; refine (HD.out _ OK.out).mono ?_; rintro e w1 ⟨rfl, o1⟩; have O1 := Lib.hid o1; clear o1 OK)
      | (go_at_call 17; refine (D1.out _ O1.out).mono ?_; rintro e w2 ⟨rfl, o2⟩; have O2 := Lib.hid o2; clear o2 O1)
      | (go_at_call 17; refine (D2.out _ O2.out).mono ?_; rintro e w3 ⟨rfl, o3⟩; have O3 := Lib.hid o3; clear o3 O2)
      | (go_at_call 17; refine (D3.out _ O3.out).mono ?_; rintro e w4 ⟨rfl, o4⟩; have O4 := Lib.hid o4; clear o4 O3))
    all_goals (go_ret; exact ⟨by first | (simp; done) | (simp; omega), O4.out.1⟩)
  · have D1 := Lib.hid (nth_c (2000 + X) (1 + M) D (-1) n 0 q1 (by omega) (by omega) (by omega) (by omega) w)
    have D2 := Lib.hid (nth_c (2000 + X) (1 + M) D 5 n 0 q2 (by omega) (by omega) (by omega) (by omega) w)
    have D3 := Lib.hid (nth_c (2000 + X) (1 + M) D 4 _ _ (G.out 4) (by omega) (by omega) (by omega) (by omega) w)
    clear q1 q2 G
    generalize (nthR (2000 + X) (1 + M) D 4).1 = r3 at D3
    generalize (nthR (2000 + X) (1 + M) D 4).2 = r4 at D3
    go_enter Tryd.func9, Tryd.ntmps9
    go_wp2_with (first
      | (go_at_call 10; refine (HD.out _ OK.out).mono ?_; rintro e w1 ⟨rfl, o1⟩; have O1 := Lib.hid o1; clear o1 OK)
      | (go_at_call 17; refine (D1.out _ O1.out).mono ?_; rintro e w2 ⟨rfl, o2⟩; have O2 := Lib.hid o2; clear o2 O1)
      | (go_at_call 17; refine (D2.out _ O2.out).mono ?_; rintro e w3 ⟨rfl, o3⟩; have O3 := Lib.hid o3; clear o3 O2)
      | (go_at_call 17; refine (D3.out _ O3.out).mono ?_; rintro e w4 ⟨rfl, o4⟩; have O4 := Lib.hid o4; clear o4 O3))
    all_goals (go_ret; exact ⟨by first | (simp; done) | (simp; omega), O4.out.1⟩)
  · have D1 := Lib.hid (nth_c (2000 + X) (1 + M) D (-1) n 0 q1 (by omega) (by omega) (by omega) (by omega) w)
    have D2 := Lib.hid (nth_c (2000 + X) (1 + M) D 5 0 4 q2 (by omega) (by omega) (by omega) (by omega) w)
    have D3 := Lib.hid (nth_c (2000 + X) (1 + M) D 4 n 0 q3 (by omega) (by omega) (by omega) (by omega) w)
    clear q1 q2 q3 G
    go_enter Tryd.func9, Tryd.ntmps9
    go_wp2_with (first
      | (go_at_call 10; refine (HD.out _ OK.out).mono ?_; rintro e w1 ⟨rfl, o1⟩; have O1 := Lib.hid o1; clear o1 OK)
      | (go_at_call 17; refine (D1.out _ O1.out).mono ?_; rintro e w2 ⟨rfl, o2⟩; have O2 := Lib.hid o2; clear o2 O1)
      | (go_at_call 17; refine (D2.out _ O2.out).mono ?_; rintro e w3 ⟨rfl, o3⟩; have O3 := Lib.hid o3; clear o3 O2)
      | (go_at_call 17; refine (D3.out _ O3.out).mono ?_; rintro e w4 ⟨rfl, o4⟩; have O4 := Lib.hid o4; clear o4 O3))
    all_goals (go_ret; exact ⟨by first | (simp; done) | (simp; omega), O4.out.1⟩)

theorem fifth_law (x1 x2 x3 : Int) (w : World) (hx1 : (Lit.int .u8 x1).wf = true) (hx2 : (Lit.int .u8 x2).wf = true) (hx3 : (Lit.int .u8 x3).wf = true) (ht : Tab w) :
    Calls Tryd.prog 9 #[.int .u8 x1, .int .u8 x2, .int .u8 x3] w (Gives (.bool true) w) := by
  have a1 := u8_wf hx1
  have a2 := u8_wf hx2
  have a3 := u8_wf hx3
  have e1 : Int.tmod x1 94 = x1 % 94 := Int.tmod_eq_emod_of_nonneg a1.1
  have e2 : Int.tmod x2 12 = x2 % 12 := Int.tmod_eq_emod_of_nonneg a2.1
  have e3 : Int.tmod x3 7 = x3 % 7 := Int.tmod_eq_emod_of_nonneg a3.1
  exact fifth_walk x1 x2 x3 _ _ _ a1 a2 a3 e1 e2 e3 (by omega) (by omega) (by omega) w ht
end Go.Proofs.YtaakkfbampgoaaaDoor
