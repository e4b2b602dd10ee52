/- Layer 1: the walks of the statements on scaling back, units and sums. -/
import Derived.Test.YtapkndkdhpjonaaLaws
namespace Go.Proofs.Ytapkndkdhpjonaa
open Go.RowKit Go
set_option linter.unusedVariables false

set_option maxRecDepth 100000 in
set_option maxHeartbeats 1000000 in
theorem back_true (a n d : Int) (w0 : (Lit.int .i64 a).wf = true) (w1 : (Lit.int .i64 n).wf = true) (w2 : (Lit.int .i64 d).wf = true) (w : World) :
    Calls Try.prog 7 #[.int .i64 a, .int .i64 n, .int .i64 d] w (Gives (.bool true) w) := by
  clear w0 w1 w2
  have H : Hid _ := head_true
  by_cases c1 : a < 0
  · go_enter Try.func7, Try.ntmps7
    go_wp2_with fail
    refine (H.out _).mono ?_
    rintro e w1 ⟨rfl, b1⟩
    go_wp2_with fail
    go_ret
    exact ⟨rfl, b1⟩
  · by_cases c2 : n < 1
    · go_enter Try.func7, Try.ntmps7
      go_wp2_with fail
      refine (H.out _).mono ?_
      rintro e w1 ⟨rfl, b1⟩
      go_wp2_with fail
      go_ret
      exact ⟨rfl, b1⟩
    · by_cases c3 : d < 1
      · go_enter Try.func7, Try.ntmps7
        go_wp2_with fail
        refine (H.out _).mono ?_
        rintro e w1 ⟨rfl, b1⟩
        go_wp2_with fail
        go_ret
        exact ⟨rfl, b1⟩
      · cases hx : floorR a n d with
        | mk x e =>
        cases hy : ceilR' a n d with
        | mk y f =>
        cases hz : floorR x d n with
        | mk z g =>
        cases hw : ceilR' (x + 1) d n with
        | mk v h =>
        cases hu : ceilR' y d n with
        | mk u i =>
        have G1 : Hid _ := floor_at a n d x e hx
        have G2 : Hid _ := ceil_at a n d y f hy
        have G3 : Hid _ := floor_at x d n z g hz
        have G4 : Hid _ := ceil_at (x + 1) d n v h hw
        have G5 : Hid _ := ceil_at y d n u i hu
        obtain ⟨x1, x2⟩ := floor_bound _ _ _ _ _ hx
        obtain ⟨y1, y2⟩ := ceil_bound _ _ _ _ _ hy
        by_cases he : e = 0
        · subst he
          have f1 := back_floor a n d x z g (by omega) hx hz
          have f2 := back_step a n d x v h (by omega) hx hw
          by_cases hf : f = 0
          · subst hf
            have f3 := back_ceil a n d y u i (by omega) hy hu
            clear hx hy hz hw hu
            go_enter Try.func7, Try.ntmps7
            go_wp2_with fail
            refine (H.out _).mono ?_
            rintro e w1 ⟨rfl, b1⟩
            go_wp2_with fail
            refine (G1.out _).mono ?_
            intro e w2 h
            obtain ⟨rfl, b2⟩ := gives_from b1 h
            clear h b1
            go_wp2_with fail
            refine (G2.out _).mono ?_
            intro e w3 h
            obtain ⟨rfl, b3⟩ := gives_from b2 h
            clear h b2
            go_wp2_with fail
            refine (G3.out _).mono ?_
            intro e w4 h
            obtain ⟨rfl, b4⟩ := gives_from b3 h
            clear h b3
            go_wp2_with fail
            refine (G4.out _).mono ?_
            intro e w5 h
            obtain ⟨rfl, b5⟩ := gives_from b4 h
            clear h b4
            go_upto_region 9 with fail
            go_cut [7, 13, 15] (fun s7 s13 s15 wx => s7 = .bool true ∧ s13 = .int .i64 g ∧ s15 = .int .i64 h ∧ wx = w5)
            case first =>
              go_wp2_with fail
              all_goals
                go_meet
                refine ⟨?_, ?_, ?_, rfl⟩
                all_goals (first | rfl | exact congrArg Value.bool (decide_eq_true (by omega)) | exact congrArg (Value.int .i64) (by omega))
            case rest =>
            obtain ⟨rfl, rfl, rfl, rfl⟩ := hcut
            go_wp2_with fail
            refine (G5.out _).mono ?_
            intro e w6 h
            obtain ⟨rfl, b6⟩ := gives_from b5 h
            clear h b5
            go_wp2_with fail
            all_goals (go_ret; refine ⟨congrArg Ending.returned ?_, b6⟩; first | rfl | exact congrArg Value.bool (decide_eq_true (by omega)) | exact congrArg (Value.int .i64) (by omega))
          · have hf' : (f == 0) = false := by simpa using hf
            clear hf hx hy hz hw hu G5
            go_enter Try.func7, Try.ntmps7
            go_wp2_with fail
            refine (H.out _).mono ?_
            rintro e w1 ⟨rfl, b1⟩
            go_wp2_with fail
            refine (G1.out _).mono ?_
            intro e w2 h
            obtain ⟨rfl, b2⟩ := gives_from b1 h
            clear h b1
            go_wp2_with fail
            refine (G2.out _).mono ?_
            intro e w3 h
            obtain ⟨rfl, b3⟩ := gives_from b2 h
            clear h b2
            go_wp2_with fail
            refine (G3.out _).mono ?_
            intro e w4 h
            obtain ⟨rfl, b4⟩ := gives_from b3 h
            clear h b3
            go_wp2_with fail
            refine (G4.out _).mono ?_
            intro e w5 h
            obtain ⟨rfl, b5⟩ := gives_from b4 h
            clear h b4
            go_wp2_with fail
            all_goals (go_ret; refine ⟨congrArg Ending.returned ?_, b5⟩; first | rfl | exact congrArg Value.bool (decide_eq_true (by omega)) | exact congrArg (Value.int .i64) (by omega))
        · have he' : (e == 0) = false := by simpa using he
          by_cases hf : f = 0
          · subst hf
            have f3 := back_ceil a n d y u i (by omega) hy hu
            clear he hx hy hz hw hu G3 G4
            go_enter Try.func7, Try.ntmps7
            go_wp2_with fail
            refine (H.out _).mono ?_
            rintro e w1 ⟨rfl, b1⟩
            go_wp2_with fail
            refine (G1.out _).mono ?_
            intro e w2 h
            obtain ⟨rfl, b2⟩ := gives_from b1 h
            clear h b1
            go_wp2_with fail
            refine (G2.out _).mono ?_
            intro e w3 h
            obtain ⟨rfl, b3⟩ := gives_from b2 h
            clear h b2
            go_wp2_with fail
            refine (G5.out _).mono ?_
            intro e w4 h
            obtain ⟨rfl, b4⟩ := gives_from b3 h
            clear h b3
            go_wp2_with fail
            all_goals (go_ret; refine ⟨congrArg Ending.returned ?_, b4⟩; first | rfl | exact congrArg Value.bool (decide_eq_true (by omega)) | exact congrArg (Value.int .i64) (by omega))
          · have hf' : (f == 0) = false := by simpa using hf
            clear he hf hx hy hz hw hu G3 G4 G5
            go_enter Try.func7, Try.ntmps7
            go_wp2_with fail
            refine (H.out _).mono ?_
            rintro e w1 ⟨rfl, b1⟩
            go_wp2_with fail
            refine (G1.out _).mono ?_
            intro e w2 h
            obtain ⟨rfl, b2⟩ := gives_from b1 h
            clear h b1
            go_wp2_with fail
            refine (G2.out _).mono ?_
            intro e w3 h
            obtain ⟨rfl, b3⟩ := gives_from b2 h
            clear h b2
            go_wp2_with fail
            go_ret
            exact ⟨rfl, b3⟩

end Go.Proofs.Ytapkndkdhpjonaa
