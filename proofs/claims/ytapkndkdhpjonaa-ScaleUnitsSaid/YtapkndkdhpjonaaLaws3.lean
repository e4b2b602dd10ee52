/- Layer 1: the walks of the statements on scaling back, units and sums. -/
import Derived.Test.YtapkndkdhpjonaaLaws
namespace Go.Proofs.Ytapkndkdhpjonaa
open Go.RowKit Go
set_option linter.unusedVariables false


def vB (a n : Int) : Bool := decide (-3000000000000000 ≤ a ∧ a ≤ 3000000000000000 ∧ 1 ≤ n ∧ n ≤ 2000000000)

set_option maxRecDepth 100000 in
set_option maxHeartbeats 1000000 in
theorem units_true (a n k d : Int) (w0 : (Lit.int .i64 a).wf = true) (w1 : (Lit.int .i64 n).wf = true) (w2 : (Lit.int .i64 k).wf = true) (w3 : (Lit.int .i64 d).wf = true) (w : World) :
    Calls Try.prog 8 #[.int .i64 a, .int .i64 n, .int .i64 k, .int .i64 d] w (Gives (.bool true) w) := by
  clear w0 w1 w2 w3
  have H : Hid _ := head_true
  have U1 : Hid (-3000000000000000 ≤ a → a ≤ 3000000000000000 → 1 ≤ n → n ≤ 2000000000 → (floorR a n n = (a, 0) ∧ ceilR' a n n = (a, 0) ∧ nearR' a n n = (a, 0))) :=
    fun h1 h2 h3 h4 => exact_all a a n n ⟨h1, h2, by omega, h4, h3, h4⟩ rfl h1 h2
  have hkd : Hid (0 ≤ n → n ≤ 1000000 → 1 ≤ d → d ≤ 1000000 → -1000000000 ≤ k → k ≤ 1000000000 → ∃ P V, k * d = P ∧ k * n = V ∧ -1000000000000000 ≤ P ∧ P ≤ 1000000000000000 ∧ -1000000000000000 ≤ V ∧ V ≤ 1000000000000000 ∧ floorR P n d = (V, 0) ∧ ceilR' P n d = (V, 0) ∧ nearR' P n d = (V, 0)) := by
    intro h1 h2 h3 h4 h5 h6
    have b : ∀ x, 0 ≤ x → x ≤ 1000000 → -1000000000000000 ≤ k * x ∧ k * x ≤ 1000000000000000 := by
      intro x hx1 hx2
      have m1 : k * x ≤ 1000000000 * x := Int.mul_le_mul_of_nonneg_right h6 hx1
      have m2 : -1000000000 * x ≤ k * x := Int.mul_le_mul_of_nonneg_right h5 hx1
      omega
    obtain ⟨p1, p2⟩ := b d (by omega) h4
    obtain ⟨v1, v2⟩ := b n h1 h2
    exact ⟨_, _, rfl, rfl, p1, p2, v1, v2, exact_all (k * d) (k * n) n d ⟨by omega, by omega, h1, by omega, h3, by omega⟩ (Int.mul_right_comm k d n) (by omega) (by omega)⟩
  go_enter Try.func8, Try.ntmps8
  go_wp2_with fail
  refine (H.out _).mono ?_
  rintro e w1 ⟨rfl, b1⟩
  go_upto_region 2 with fail
  go_cut [36] (fun s36 wx => s36 = .bool (vB a n) ∧ wx = w1)
  case first =>
    go_wp2_with fail
    all_goals
      go_meet
      refine ⟨?_, rfl⟩
      all_goals (refine congrArg Value.bool ?_; unfold vB; first | (symm; apply decide_eq_true; omega) | (symm; apply decide_eq_false; omega) | (apply decide_eq_decide.2; omega))
  case rest =>
  obtain ⟨rfl, rfl⟩ := hcut
  go_upto_if 36 with fail
  go_cut [9, 10, 11, 12, 13, 14, 15] (fun s9 s10 s11 s12 s13 s14 s15 wx => s9 = .bool true ∧ Below w.heap.size w wx)
  case first =>
    cases hv : vB a n with
    | true =>
      have hv2 := of_decide_eq_true hv
      obtain ⟨e1, e2, e3⟩ := U1.out hv2.1 hv2.2.1 hv2.2.2.1 hv2.2.2.2
      have G1 : Hid _ := floor_at _ _ _ _ _ e1
      have G2 : Hid _ := ceil_at _ _ _ _ _ e2
      have G3 : Hid _ := near_at _ _ _ _ _ e3
      clear hv hv2 e1 e2 e3 U1 hkd H
      go_wp2_with fail
      refine (G1.out _).mono ?_
      intro e w2 h
      obtain ⟨rfl, b2⟩ := gives_from b1 h
      clear h b1
      go_wp2_with fail
      refine (G2.out _).mono ?_
      intro e w3 h
      obtain ⟨rfl, b3⟩ := gives_from b2 h
      clear h b2
      go_wp2_with fail
      refine (G3.out _).mono ?_
      intro e w4 h
      obtain ⟨rfl, b4⟩ := gives_from b3 h
      clear h b3
      go_wp2_with fail
      go_meet
      exact ⟨rfl, b4⟩
    | false =>
      clear hv U1 hkd H
      go_wp2_with fail
      go_meet
      exact ⟨rfl, b1⟩
  case rest =>
  obtain ⟨rfl, b2⟩ := hcut
  clear b1 U1 H
  by_cases c : 0 ≤ n ∧ n ≤ 1000000 ∧ 1 ≤ d ∧ d ≤ 1000000 ∧ -1000000000 ≤ k ∧ k ≤ 1000000000
  · obtain ⟨d1, d2, d3, d4, d5, d6⟩ := c
    obtain ⟨P, V, hP, hV, p1, p2, v1, v2, e1, e2, e3⟩ := hkd.out d1 d2 d3 d4 d5 d6
    have G1 : Hid _ := floor_at _ _ _ _ _ e1
    have G2 : Hid _ := ceil_at _ _ _ _ _ e2
    have G3 : Hid _ := near_at _ _ _ _ _ e3
    clear e1 e2 e3 hkd
    go_wp2_with fail
    refine (G1.out _).mono ?_
    intro e w2 h
    obtain ⟨rfl, b3⟩ := gives_from b2 h
    clear h b2
    go_wp2_with fail
    refine (G2.out _).mono ?_
    intro e w3 h
    obtain ⟨rfl, b4⟩ := gives_from b3 h
    clear h b3
    go_wp2_with fail
    refine (G3.out _).mono ?_
    intro e w4 h
    obtain ⟨rfl, b5⟩ := gives_from b4 h
    clear h b4
    go_wp2_with fail
    go_ret
    exact ⟨rfl, b5⟩
  · clear hkd
    go_wp2_with fail
    all_goals (go_ret; exact ⟨rfl, b2⟩)

end Go.Proofs.Ytapkndkdhpjonaa
