/- Layer 1: the walks of the statements on signs, order, scaling back, units and sums. -/
import Derived.Test.YtapkndkdhpjonaaFacts
import Derived.Deep.DeepCutAuto
namespace Go.Proofs.Ytapkndkdhpjonaa
open Go.RowKit Go
set_option linter.unusedVariables false

theorem floor_bound (a n d v e : Int) (h : floorR a n d = (v, e)) : -3000000000000000 ≤ v ∧ v ≤ 3000000000000000 := by
  rcases floor_spec _ _ _ _ _ h with ⟨_, _, _, h1, h2⟩ | ⟨_, h⟩ <;> omega
theorem ceil_bound (a n d v e : Int) (h : ceilR' a n d = (v, e)) : -3000000000000000 ≤ v ∧ v ≤ 3000000000000000 := by
  rcases ceil_spec _ _ _ _ _ h with ⟨_, _, _, h1, h2⟩ | ⟨_, h⟩ <;> omega
theorem near_bound (a n d v e : Int) (h : nearR' a n d = (v, e)) : -3000000000000000 ≤ v ∧ v ≤ 3000000000000000 := by
  rcases near_spec _ _ _ _ _ h with ⟨_, _, _, h1, h2⟩ | ⟨_, h⟩ <;> omega

set_option maxRecDepth 100000 in
set_option maxHeartbeats 1000000 in
theorem signs_true (a n d : Int) (w0 : (Lit.int .i64 a).wf = true) (w1 : (Lit.int .i64 n).wf = true) (w2 : (Lit.int .i64 d).wf = true) (w : World) :
    Calls Try.prog 5 #[.int .i64 a, .int .i64 n, .int .i64 d] w (Gives (.bool true) w) := by
  clear w0 w1 w2
  have H : Hid _ := head_true
  by_cases c1 : 3000000000000000 < a
  · go_enter Try.func5, Try.ntmps5
    go_wp2_with fail
    refine (H.out _).mono ?_
    rintro e w1 ⟨rfl, b1⟩
    go_wp2_with fail
    go_ret
    exact ⟨rfl, b1⟩
  · by_cases c2 : a < -3000000000000000
    · go_enter Try.func5, Try.ntmps5
      go_wp2_with fail
      refine (H.out _).mono ?_
      rintro e w1 ⟨rfl, b1⟩
      go_wp2_with fail
      go_ret
      exact ⟨rfl, b1⟩
    · cases hx : floorR a n d with
      | mk x e =>
        cases hy : ceilR' a n d with
        | mk y f =>
          cases hz : nearR' a n d with
          | mk z g =>
            have G1 : Hid _ := floor_at a n d x e hx
            have G2 : Hid _ := ceil_at (-a) n d (-x) e (ceil_neg _ _ _ _ _ hx)
            have G3 : Hid _ := ceil_at a n d y f hy
            have G4 : Hid _ := floor_at (-a) n d (-y) f (floor_neg _ _ _ _ _ hy)
            have G5 : Hid _ := near_at a n d z g hz
            have G6 : Hid _ := near_at (-a) n d (-z) g (near_neg _ _ _ _ _ hz)
            obtain ⟨x1, x2⟩ := floor_bound _ _ _ _ _ hx
            obtain ⟨y1, y2⟩ := ceil_bound _ _ _ _ _ hy
            obtain ⟨z1, z2⟩ := near_bound _ _ _ _ _ hz
            clear hx hy hz
            go_enter Try.func5, Try.ntmps5
            go_wp2_with fail
            refine (H.out _).mono ?_
            rintro e w1 ⟨rfl, b1⟩
            go_wp2_with fail
            refine (G1.out _).mono ?_
            intro e w2 h
            obtain ⟨rfl, b2⟩ := gives_from b1 h
            clear h b1
            go_wp2_with fail
            refine (G2.out _).mono ?_
            intro e w3 h
            obtain ⟨rfl, b3⟩ := gives_from b2 h
            clear h b2
            go_wp2_with fail
            refine (G3.out _).mono ?_
            intro e w4 h
            obtain ⟨rfl, b4⟩ := gives_from b3 h
            clear h b3
            go_wp2_with fail
            refine (G4.out _).mono ?_
            intro e w5 h
            obtain ⟨rfl, b5⟩ := gives_from b4 h
            clear h b4
            go_wp2_with fail
            refine (G5.out _).mono ?_
            intro e w6 h
            obtain ⟨rfl, b6⟩ := gives_from b5 h
            clear h b5
            go_wp2_with fail
            refine (G6.out _).mono ?_
            intro e w7 h
            obtain ⟨rfl, b7⟩ := gives_from b6 h
            clear h b6
            go_wp2_with fail
            go_ret
            exact ⟨rfl, b7⟩

set_option maxRecDepth 100000 in
set_option maxHeartbeats 1000000 in
theorem order_true (a b n d : Int) (w0 : (Lit.int .i64 a).wf = true) (w1 : (Lit.int .i64 b).wf = true) (w2 : (Lit.int .i64 n).wf = true) (w3 : (Lit.int .i64 d).wf = true) (w : World) :
    Calls Try.prog 6 #[.int .i64 a, .int .i64 b, .int .i64 n, .int .i64 d] w (Gives (.bool true) w) := by
  clear w0 w1 w2 w3
  have H : Hid _ := head_true
  have hle : min a b ≤ max a b := by omega
  cases hx : floorR (min a b) n d with
  | mk x e =>
  cases hy : floorR (max a b) n d with
  | mk y f =>
  cases hp : nearR' (min a b) n d with
  | mk p g =>
  cases hq : nearR' (max a b) n d with
  | mk q h =>
  cases hr : ceilR' (min a b) n d with
  | mk r i =>
  cases hs : ceilR' (max a b) n d with
  | mk s k =>
  have G1 : Hid _ := floor_at _ n d x e hx
  have G2 : Hid _ := floor_at _ n d y f hy
  have G3 : Hid _ := near_at _ n d p g hp
  have G4 : Hid _ := near_at _ n d q h hq
  have G5 : Hid _ := ceil_at _ n d r i hr
  have G6 : Hid _ := ceil_at _ n d s k hs
  have f1 := floor_mono _ _ n d _ _ _ _ hle hx hy
  have f2 := near_mono _ _ n d _ _ _ _ hle hp hq
  have f3 := floor_near _ n d _ _ _ _ hx hp
  have f4 := ceil_mono _ _ n d _ _ _ _ hle hr hs
  have f5 := near_ceil _ n d _ _ _ _ hp hr
  clear hx hy hp hq hr hs hle
  go_enter Try.func6, Try.ntmps6
  go_wp2_with fail
  refine (H.out _).mono ?_
  rintro e w1 ⟨rfl, b1⟩
  go_wp2_with fail
  refine (G1.out _).mono ?_
  intro e w2 h
  obtain ⟨rfl, b2⟩ := gives_from b1 h
  clear h b1
  go_wp2_with fail
  refine (G2.out _).mono ?_
  intro e w3 h
  obtain ⟨rfl, b3⟩ := gives_from b2 h
  clear h b2
  go_upto_region 5 with fail
  go_cut [9, 13, 15] (fun u s13 s15 wx => u = .bool true ∧ s13 = .int .i64 e ∧ s15 = .int .i64 f ∧ wx = w3)
  case first =>
    go_wp2_with fail
    all_goals
      go_meet
      refine ⟨?_, ?_, ?_, rfl⟩
      all_goals (first | rfl | exact congrArg Value.bool (decide_eq_true (by omega)) | exact congrArg (Value.int .i64) (by omega))
  case rest =>
  obtain ⟨rfl, rfl, rfl, rfl⟩ := hcut
  go_wp2_with fail
  refine (G3.out _).mono ?_
  intro e w4 h
  obtain ⟨rfl, b4⟩ := gives_from b3 h
  clear h b3
  go_wp2_with fail
  refine (G4.out _).mono ?_
  intro e w5 h
  obtain ⟨rfl, b5⟩ := gives_from b4 h
  clear h b4
  go_upto_region 8 with fail
  go_cut [9, 13, 17, 19] (fun u s13 s17 s19 wx => u = .bool true ∧ s13 = .int .i64 e ∧ s17 = .int .i64 g ∧ s19 = .int .i64 h ∧ wx = w5)
  case first =>
    go_wp2_with fail
    all_goals
      go_meet
      refine ⟨?_, ?_, ?_, ?_, rfl⟩
      all_goals (first | rfl | exact congrArg Value.bool (decide_eq_true (by omega)) | exact congrArg (Value.int .i64) (by omega))
  case rest =>
  obtain ⟨rfl, rfl, rfl, rfl, rfl⟩ := hcut
  go_wp2_with fail
  refine (G5.out _).mono ?_
  intro e w6 h
  obtain ⟨rfl, b6⟩ := gives_from b5 h
  clear h b5
  go_wp2_with fail
  refine (G6.out _).mono ?_
  intro e w7 h
  obtain ⟨rfl, b7⟩ := gives_from b6 h
  clear h b6
  go_wp2_with fail
  all_goals (go_ret; refine ⟨congrArg Ending.returned ?_, b7⟩; first | rfl | exact congrArg Value.bool (decide_eq_true (by omega)))

end Go.Proofs.Ytapkndkdhpjonaa
