/- Layer 2: IntervalMeets. -/
import Derived.Test.YtpooifjieoijjaaHead
namespace Go.Proofs.Ytpooifjieoijjaa
open Go.RowKit Go
set_option linter.unusedVariables false

theorem meetR_comm (x y : Int × Int) : meetR x y = meetR y x := by
  unfold meetR
  rw [Bool.and_comm, Int.max_comm, Int.min_comm]

/-- The boxes that a call with two intervals begins with. -/
theorem boxes_two (w : World) (a b c d : Int) : ∃ W, (w.alloc (.cells #[.int .i64 a, .int .i64 b] 24)).alloc (.cells #[.int .i64 c, .int .i64 d] 24) = W ∧
    Two W w.heap.size 24 (.int .i64 a) (.int .i64 b) ∧ Two W (w.heap.size + 1) 24 (.int .i64 c) (.int .i64 d) ∧ Below w.heap.size w W := by
  refine ⟨_, rfl, (Two.new _ _ _ _).alloc _, ?_, (below_alloc w _).alloc (by simp) _⟩
  have := Two.new (w.alloc (.cells #[.int .i64 a, .int .i64 b] 24)) 24 (.int .i64 c) (.int .i64 d)
  rwa [World.size_alloc] at this

theorem meets_facts (a b c d x : Int) (hv : (validB (a, b) && validB (c, d)) = true) : ∃ lo hi yes, meetR (a, b) (c, d) = ((lo, hi), yes, 0) ∧ (yes && inB (lo, hi) x) = (inB (a, b) x && inB (c, d) x) ∧ (yes = true → validB (lo, hi) = true) := by
  unfold meetR
  rw [if_pos hv]
  rw [Bool.and_eq_true] at hv
  obtain ⟨v1, v2, v3⟩ := validB_yes hv.1
  obtain ⟨u1, u2, u3⟩ := validB_yes hv.2
  simp only at v1 v2 v3 u1 u2 u3 ⊢
  split
  · rename_i h
    refine ⟨_, _, _, rfl, ?_, fun _ => ?_⟩
    · rw [Bool.eq_iff_iff]; simp [inB]; omega
    · simp [validB]; omega
  · rename_i h
    refine ⟨_, _, _, rfl, ?_, fun h => by cases h⟩
    rw [Bool.eq_iff_iff]; simp [inB]; omega

set_option maxHeartbeats 1000000 in
theorem meets_ytt (a b c d x lo hi : Int) (w : World)
    (V1 : Hid (∀ W : World, Calls Try.prog 15 #[.agg #[.int .i64 a, .int .i64 b]] W (Gives (.bool true) W)))
    (V2 : Hid (∀ W : World, Calls Try.prog 15 #[.agg #[.int .i64 c, .int .i64 d]] W (Gives (.bool true) W)))
    (V3 : Hid (∀ W : World, Calls Try.prog 14 #[.agg #[.int .i64 lo, .int .i64 hi]] W (Gives (.bool true) W)))
    (M1 : Hid (∀ W : World, Calls Try.prog 12 #[.agg #[.int .i64 a, .int .i64 b], .agg #[.int .i64 c, .int .i64 d]] W (Gives (.tuple #[.agg #[.int .i64 lo, .int .i64 hi], .bool true, .int .i64 0]) W)))
    (M2 : Hid (∀ W : World, Calls Try.prog 12 #[.agg #[.int .i64 c, .int .i64 d], .agg #[.int .i64 a, .int .i64 b]] W (Gives (.tuple #[.agg #[.int .i64 lo, .int .i64 hi], .bool true, .int .i64 0]) W)))
    (P : Hid (∀ W : World, Calls Try.prog 25 #[.agg #[.int .i64 a, .int .i64 b], .int .i64 x] W (Gives (.bool true) W)))
    (Q : Hid (∀ W : World, Calls Try.prog 25 #[.agg #[.int .i64 c, .int .i64 d], .int .i64 x] W (Gives (.bool true) W)))
    (R : Hid (∀ W : World, Calls Try.prog 25 #[.agg #[.int .i64 lo, .int .i64 hi], .int .i64 x] W (Gives (.bool true) W))) :
    Calls Try.prog 4 #[.agg #[.int .i64 a, .int .i64 b], .agg #[.int .i64 c, .int .i64 d], .int .i64 x] w (Gives (.bool true) w) := by
  have HD := Lib.hid head_true
  have E := fun W => eql_iv (lo, hi) (lo, hi) W
  simp only [decide_true] at E
  obtain ⟨W0, hW0, hT3, hT4, hB⟩ := boxes_two w a b c d
  have T3 := Lib.hid hT3
  have T4 := Lib.hid hT4
  have B := Lib.hid hB
  clear hT3 hT4 hB
  go_enter Try.func4, Try.ntmps4
  go_wp2_with fail
  refine (HD.out _).mono ?_
  rintro e w1 ⟨rfl, bb⟩
  have BB := Lib.hid bb
  have T3 := Lib.hid (T3.out.step BB.out)
  have T4 := Lib.hid (T4.out.step BB.out)
  have B := Lib.hid (below_more B.out BB.out)
  clear bb BB hW0
  have c0 := T3.out.c0
  have c1 := T3.out.c1
  have c2 := T3.out.lt
  go_wp2_with fail
  refine (V1.out _).mono ?_
  rintro e w2 ⟨rfl, bb⟩
  clear c0 c1 c2
  have BB := Lib.hid bb
  have T3 := Lib.hid (T3.out.step BB.out)
  have T4 := Lib.hid (T4.out.step BB.out)
  have B := Lib.hid (below_more B.out BB.out)
  clear bb BB
  have c0 := T4.out.c0
  have c1 := T4.out.c1
  have c2 := T4.out.lt
  go_wp2_with fail
  refine (V2.out _).mono ?_
  rintro e w3 ⟨rfl, bb⟩
  clear c0 c1 c2
  have BB := Lib.hid bb
  have T3 := Lib.hid (T3.out.step BB.out)
  have T4 := Lib.hid (T4.out.step BB.out)
  have B := Lib.hid (below_more B.out BB.out)
  clear bb BB
  have c0 := T3.out.c0
  have c1 := T3.out.c1
  have c2 := T3.out.lt
  have c3 := T4.out.c0
  have c4 := T4.out.c1
  have c5 := T4.out.lt
  go_wp2_with fail
  refine (M1.out _).mono ?_
  rintro e w4 ⟨rfl, bb⟩
  clear c0 c1 c2 c3 c4 c5
  have BB := Lib.hid bb
  have T3 := Lib.hid (T3.out.step BB.out)
  have T4 := Lib.hid (T4.out.step BB.out)
  have B := Lib.hid (below_more B.out BB.out)
  clear bb BB
  have c0 := T3.out.c0
  have c1 := T3.out.c1
  have c2 := T3.out.lt
  have c3 := T4.out.c0
  have c4 := T4.out.c1
  have c5 := T4.out.lt
  go_wp2_with fail
  refine (M2.out _).mono ?_
  rintro e w5 ⟨rfl, bb⟩
  clear c0 c1 c2 c3 c4 c5
  have A_T8 := Lib.hid (below_alloc w4 (.cells #[.int .i64 lo, .int .i64 hi] 24))
  have BB := Lib.hid (below_more A_T8.out bb)
  have T8 := Lib.hid ((Two.new w4 24 (.int .i64 lo) (.int .i64 hi)).step bb)
  have T3 := Lib.hid (T3.out.step BB.out)
  have T4 := Lib.hid (T4.out.step BB.out)
  have B := Lib.hid (below_more B.out BB.out)
  clear bb BB A_T8
  have c0 := T3.out.c0
  have c1 := T3.out.c1
  have c2 := T3.out.lt
  go_wp2_with fail
  refine (P.out _).mono ?_
  rintro e w6 ⟨rfl, bb⟩
  clear c0 c1 c2
  have A_T11 := Lib.hid (below_alloc w5 (.cells #[.int .i64 lo, .int .i64 hi] 24))
  have BB := Lib.hid (below_more A_T11.out bb)
  have T11 := Lib.hid ((Two.new w5 24 (.int .i64 lo) (.int .i64 hi)).step bb)
  have T3 := Lib.hid (T3.out.step BB.out)
  have T4 := Lib.hid (T4.out.step BB.out)
  have T8 := Lib.hid (T8.out.step BB.out)
  have B := Lib.hid (below_more B.out BB.out)
  clear bb BB A_T11
  have c0 := T4.out.c0
  have c1 := T4.out.c1
  have c2 := T4.out.lt
  go_wp2_with fail
  refine (Q.out _).mono ?_
  rintro e w7 ⟨rfl, bb⟩
  clear c0 c1 c2
  have BB := Lib.hid bb
  have T3 := Lib.hid (T3.out.step BB.out)
  have T4 := Lib.hid (T4.out.step BB.out)
  have T8 := Lib.hid (T8.out.step BB.out)
  have T11 := Lib.hid (T11.out.step BB.out)
  have B := Lib.hid (below_more B.out BB.out)
  clear bb BB
  have c0 := T8.out.c0
  have c1 := T8.out.c1
  have c2 := T8.out.lt
  have c3 := T11.out.c0
  have c4 := T11.out.c1
  have c5 := T11.out.lt
  go_wp2_with fail
  refine (R.out _).mono ?_
  rintro e w8 ⟨rfl, bb⟩
  clear c0 c1 c2 c3 c4 c5
  have BB := Lib.hid bb
  have T3 := Lib.hid (T3.out.step BB.out)
  have T4 := Lib.hid (T4.out.step BB.out)
  have T8 := Lib.hid (T8.out.step BB.out)
  have T11 := Lib.hid (T11.out.step BB.out)
  have B := Lib.hid (below_more B.out BB.out)
  clear bb BB
  have c0 := T8.out.c0
  have c1 := T8.out.c1
  have c2 := T8.out.lt
  go_wp2_with fail
  refine (V3.out _).mono ?_
  rintro e w9 ⟨rfl, bb⟩
  clear c0 c1 c2
  have BB := Lib.hid bb
  have T3 := Lib.hid (T3.out.step BB.out)
  have T4 := Lib.hid (T4.out.step BB.out)
  have T8 := Lib.hid (T8.out.step BB.out)
  have T11 := Lib.hid (T11.out.step BB.out)
  have B := Lib.hid (below_more B.out BB.out)
  clear bb BB
  go_wp2_with fail
  go_ret
  exact ⟨rfl, B.out⟩

set_option maxHeartbeats 1000000 in
theorem meets_ytf (a b c d x lo hi : Int) (w : World)
    (V1 : Hid (∀ W : World, Calls Try.prog 15 #[.agg #[.int .i64 a, .int .i64 b]] W (Gives (.bool true) W)))
    (V2 : Hid (∀ W : World, Calls Try.prog 15 #[.agg #[.int .i64 c, .int .i64 d]] W (Gives (.bool true) W)))
    (V3 : Hid (∀ W : World, Calls Try.prog 14 #[.agg #[.int .i64 lo, .int .i64 hi]] W (Gives (.bool true) W)))
    (M1 : Hid (∀ W : World, Calls Try.prog 12 #[.agg #[.int .i64 a, .int .i64 b], .agg #[.int .i64 c, .int .i64 d]] W (Gives (.tuple #[.agg #[.int .i64 lo, .int .i64 hi], .bool true, .int .i64 0]) W)))
    (M2 : Hid (∀ W : World, Calls Try.prog 12 #[.agg #[.int .i64 c, .int .i64 d], .agg #[.int .i64 a, .int .i64 b]] W (Gives (.tuple #[.agg #[.int .i64 lo, .int .i64 hi], .bool true, .int .i64 0]) W)))
    (P : Hid (∀ W : World, Calls Try.prog 25 #[.agg #[.int .i64 a, .int .i64 b], .int .i64 x] W (Gives (.bool true) W)))
    (Q : Hid (∀ W : World, Calls Try.prog 25 #[.agg #[.int .i64 c, .int .i64 d], .int .i64 x] W (Gives (.bool false) W)))
    (R : Hid (∀ W : World, Calls Try.prog 25 #[.agg #[.int .i64 lo, .int .i64 hi], .int .i64 x] W (Gives (.bool false) W))) :
    Calls Try.prog 4 #[.agg #[.int .i64 a, .int .i64 b], .agg #[.int .i64 c, .int .i64 d], .int .i64 x] w (Gives (.bool true) w) := by
  have HD := Lib.hid head_true
  have E := fun W => eql_iv (lo, hi) (lo, hi) W
  simp only [decide_true] at E
  obtain ⟨W0, hW0, hT3, hT4, hB⟩ := boxes_two w a b c d
  have T3 := Lib.hid hT3
  have T4 := Lib.hid hT4
  have B := Lib.hid hB
  clear hT3 hT4 hB
  go_enter Try.func4, Try.ntmps4
  go_wp2_with fail
  refine (HD.out _).mono ?_
  rintro e w1 ⟨rfl, bb⟩
  have BB := Lib.hid bb
  have T3 := Lib.hid (T3.out.step BB.out)
  have T4 := Lib.hid (T4.out.step BB.out)
  have B := Lib.hid (below_more B.out BB.out)
  clear bb BB hW0
  have c0 := T3.out.c0
  have c1 := T3.out.c1
  have c2 := T3.out.lt
  go_wp2_with fail
  refine (V1.out _).mono ?_
  rintro e w2 ⟨rfl, bb⟩
  clear c0 c1 c2
  have BB := Lib.hid bb
  have T3 := Lib.hid (T3.out.step BB.out)
  have T4 := Lib.hid (T4.out.step BB.out)
  have B := Lib.hid (below_more B.out BB.out)
  clear bb BB
  have c0 := T4.out.c0
  have c1 := T4.out.c1
  have c2 := T4.out.lt
  go_wp2_with fail
  refine (V2.out _).mono ?_
  rintro e w3 ⟨rfl, bb⟩
  clear c0 c1 c2
  have BB := Lib.hid bb
  have T3 := Lib.hid (T3.out.step BB.out)
  have T4 := Lib.hid (T4.out.step BB.out)
  have B := Lib.hid (below_more B.out BB.out)
  clear bb BB
  have c0 := T3.out.c0
  have c1 := T3.out.c1
  have c2 := T3.out.lt
  have c3 := T4.out.c0
  have c4 := T4.out.c1
  have c5 := T4.out.lt
  go_wp2_with fail
  refine (M1.out _).mono ?_
  rintro e w4 ⟨rfl, bb⟩
  clear c0 c1 c2 c3 c4 c5
  have BB := Lib.hid bb
  have T3 := Lib.hid (T3.out.step BB.out)
  have T4 := Lib.hid (T4.out.step BB.out)
  have B := Lib.hid (below_more B.out BB.out)
  clear bb BB
  have c0 := T3.out.c0
  have c1 := T3.out.c1
  have c2 := T3.out.lt
  have c3 := T4.out.c0
  have c4 := T4.out.c1
  have c5 := T4.out.lt
  go_wp2_with fail
  refine (M2.out _).mono ?_
  rintro e w5 ⟨rfl, bb⟩
  clear c0 c1 c2 c3 c4 c5
  have A_T8 := Lib.hid (below_alloc w4 (.cells #[.int .i64 lo, .int .i64 hi] 24))
  have BB := Lib.hid (below_more A_T8.out bb)
  have T8 := Lib.hid ((Two.new w4 24 (.int .i64 lo) (.int .i64 hi)).step bb)
  have T3 := Lib.hid (T3.out.step BB.out)
  have T4 := Lib.hid (T4.out.step BB.out)
  have B := Lib.hid (below_more B.out BB.out)
  clear bb BB A_T8
  have c0 := T3.out.c0
  have c1 := T3.out.c1
  have c2 := T3.out.lt
  go_wp2_with fail
  refine (P.out _).mono ?_
  rintro e w6 ⟨rfl, bb⟩
  clear c0 c1 c2
  have A_T11 := Lib.hid (below_alloc w5 (.cells #[.int .i64 lo, .int .i64 hi] 24))
  have BB := Lib.hid (below_more A_T11.out bb)
  have T11 := Lib.hid ((Two.new w5 24 (.int .i64 lo) (.int .i64 hi)).step bb)
  have T3 := Lib.hid (T3.out.step BB.out)
  have T4 := Lib.hid (T4.out.step BB.out)
  have T8 := Lib.hid (T8.out.step BB.out)
  have B := Lib.hid (below_more B.out BB.out)
  clear bb BB A_T11
  have c0 := T4.out.c0
  have c1 := T4.out.c1
  have c2 := T4.out.lt
  go_wp2_with fail
  refine (Q.out _).mono ?_
  rintro e w7 ⟨rfl, bb⟩
  clear c0 c1 c2
  have BB := Lib.hid bb
  have T3 := Lib.hid (T3.out.step BB.out)
  have T4 := Lib.hid (T4.out.step BB.out)
  have T8 := Lib.hid (T8.out.step BB.out)
  have T11 := Lib.hid (T11.out.step BB.out)
  have B := Lib.hid (below_more B.out BB.out)
  clear bb BB
  have c0 := T8.out.c0
  have c1 := T8.out.c1
  have c2 := T8.out.lt
  have c3 := T11.out.c0
  have c4 := T11.out.c1
  have c5 := T11.out.lt
  go_wp2_with fail
  refine (R.out _).mono ?_
  rintro e w8 ⟨rfl, bb⟩
  clear c0 c1 c2 c3 c4 c5
  have BB := Lib.hid bb
  have T3 := Lib.hid (T3.out.step BB.out)
  have T4 := Lib.hid (T4.out.step BB.out)
  have T8 := Lib.hid (T8.out.step BB.out)
  have T11 := Lib.hid (T11.out.step BB.out)
  have B := Lib.hid (below_more B.out BB.out)
  clear bb BB
  have c0 := T8.out.c0
  have c1 := T8.out.c1
  have c2 := T8.out.lt
  go_wp2_with fail
  refine (V3.out _).mono ?_
  rintro e w9 ⟨rfl, bb⟩
  clear c0 c1 c2
  have BB := Lib.hid bb
  have T3 := Lib.hid (T3.out.step BB.out)
  have T4 := Lib.hid (T4.out.step BB.out)
  have T8 := Lib.hid (T8.out.step BB.out)
  have T11 := Lib.hid (T11.out.step BB.out)
  have B := Lib.hid (below_more B.out BB.out)
  clear bb BB
  go_wp2_with fail
  go_ret
  exact ⟨rfl, B.out⟩

set_option maxHeartbeats 1000000 in
theorem meets_yft (a b c d x lo hi : Int) (w : World)
    (V1 : Hid (∀ W : World, Calls Try.prog 15 #[.agg #[.int .i64 a, .int .i64 b]] W (Gives (.bool true) W)))
    (V2 : Hid (∀ W : World, Calls Try.prog 15 #[.agg #[.int .i64 c, .int .i64 d]] W (Gives (.bool true) W)))
    (V3 : Hid (∀ W : World, Calls Try.prog 14 #[.agg #[.int .i64 lo, .int .i64 hi]] W (Gives (.bool true) W)))
    (M1 : Hid (∀ W : World, Calls Try.prog 12 #[.agg #[.int .i64 a, .int .i64 b], .agg #[.int .i64 c, .int .i64 d]] W (Gives (.tuple #[.agg #[.int .i64 lo, .int .i64 hi], .bool true, .int .i64 0]) W)))
    (M2 : Hid (∀ W : World, Calls Try.prog 12 #[.agg #[.int .i64 c, .int .i64 d], .agg #[.int .i64 a, .int .i64 b]] W (Gives (.tuple #[.agg #[.int .i64 lo, .int .i64 hi], .bool true, .int .i64 0]) W)))
    (P : Hid (∀ W : World, Calls Try.prog 25 #[.agg #[.int .i64 a, .int .i64 b], .int .i64 x] W (Gives (.bool false) W)))
    (Q : Hid (∀ W : World, Calls Try.prog 25 #[.agg #[.int .i64 c, .int .i64 d], .int .i64 x] W (Gives (.bool true) W)))
    (R : Hid (∀ W : World, Calls Try.prog 25 #[.agg #[.int .i64 lo, .int .i64 hi], .int .i64 x] W (Gives (.bool false) W))) :
    Calls Try.prog 4 #[.agg #[.int .i64 a, .int .i64 b], .agg #[.int .i64 c, .int .i64 d], .int .i64 x] w (Gives (.bool true) w) := by
  have HD := Lib.hid head_true
  have E := fun W => eql_iv (lo, hi) (lo, hi) W
  simp only [decide_true] at E
  obtain ⟨W0, hW0, hT3, hT4, hB⟩ := boxes_two w a b c d
  have T3 := Lib.hid hT3
  have T4 := Lib.hid hT4
  have B := Lib.hid hB
  clear hT3 hT4 hB
  go_enter Try.func4, Try.ntmps4
  go_wp2_with fail
  refine (HD.out _).mono ?_
  rintro e w1 ⟨rfl, bb⟩
  have BB := Lib.hid bb
  have T3 := Lib.hid (T3.out.step BB.out)
  have T4 := Lib.hid (T4.out.step BB.out)
  have B := Lib.hid (below_more B.out BB.out)
  clear bb BB hW0
  have c0 := T3.out.c0
  have c1 := T3.out.c1
  have c2 := T3.out.lt
  go_wp2_with fail
  refine (V1.out _).mono ?_
  rintro e w2 ⟨rfl, bb⟩
  clear c0 c1 c2
  have BB := Lib.hid bb
  have T3 := Lib.hid (T3.out.step BB.out)
  have T4 := Lib.hid (T4.out.step BB.out)
  have B := Lib.hid (below_more B.out BB.out)
  clear bb BB
  have c0 := T4.out.c0
  have c1 := T4.out.c1
  have c2 := T4.out.lt
  go_wp2_with fail
  refine (V2.out _).mono ?_
  rintro e w3 ⟨rfl, bb⟩
  clear c0 c1 c2
  have BB := Lib.hid bb
  have T3 := Lib.hid (T3.out.step BB.out)
  have T4 := Lib.hid (T4.out.step BB.out)
  have B := Lib.hid (below_more B.out BB.out)
  clear bb BB
  have c0 := T3.out.c0
  have c1 := T3.out.c1
  have c2 := T3.out.lt
  have c3 := T4.out.c0
  have c4 := T4.out.c1
  have c5 := T4.out.lt
  go_wp2_with fail
  refine (M1.out _).mono ?_
  rintro e w4 ⟨rfl, bb⟩
  clear c0 c1 c2 c3 c4 c5
  have BB := Lib.hid bb
  have T3 := Lib.hid (T3.out.step BB.out)
  have T4 := Lib.hid (T4.out.step BB.out)
  have B := Lib.hid (below_more B.out BB.out)
  clear bb BB
  have c0 := T3.out.c0
  have c1 := T3.out.c1
  have c2 := T3.out.lt
  have c3 := T4.out.c0
  have c4 := T4.out.c1
  have c5 := T4.out.lt
  go_wp2_with fail
  refine (M2.out _).mono ?_
  rintro e w5 ⟨rfl, bb⟩
  clear c0 c1 c2 c3 c4 c5
  have A_T8 := Lib.hid (below_alloc w4 (.cells #[.int .i64 lo, .int .i64 hi] 24))
  have BB := Lib.hid (below_more A_T8.out bb)
  have T8 := Lib.hid ((Two.new w4 24 (.int .i64 lo) (.int .i64 hi)).step bb)
  have T3 := Lib.hid (T3.out.step BB.out)
  have T4 := Lib.hid (T4.out.step BB.out)
  have B := Lib.hid (below_more B.out BB.out)
  clear bb BB A_T8
  have c0 := T3.out.c0
  have c1 := T3.out.c1
  have c2 := T3.out.lt
  go_wp2_with fail
  refine (P.out _).mono ?_
  rintro e w6 ⟨rfl, bb⟩
  clear c0 c1 c2
  have A_T11 := Lib.hid (below_alloc w5 (.cells #[.int .i64 lo, .int .i64 hi] 24))
  have BB := Lib.hid (below_more A_T11.out bb)
  have T11 := Lib.hid ((Two.new w5 24 (.int .i64 lo) (.int .i64 hi)).step bb)
  have T3 := Lib.hid (T3.out.step BB.out)
  have T4 := Lib.hid (T4.out.step BB.out)
  have T8 := Lib.hid (T8.out.step BB.out)
  have B := Lib.hid (below_more B.out BB.out)
  clear bb BB A_T11
  have c0 := T8.out.c0
  have c1 := T8.out.c1
  have c2 := T8.out.lt
  have c3 := T11.out.c0
  have c4 := T11.out.c1
  have c5 := T11.out.lt
  go_wp2_with fail
  refine (R.out _).mono ?_
  rintro e w7 ⟨rfl, bb⟩
  clear c0 c1 c2 c3 c4 c5
  have BB := Lib.hid bb
  have T3 := Lib.hid (T3.out.step BB.out)
  have T4 := Lib.hid (T4.out.step BB.out)
  have T8 := Lib.hid (T8.out.step BB.out)
  have T11 := Lib.hid (T11.out.step BB.out)
  have B := Lib.hid (below_more B.out BB.out)
  clear bb BB
  have c0 := T8.out.c0
  have c1 := T8.out.c1
  have c2 := T8.out.lt
  go_wp2_with fail
  refine (V3.out _).mono ?_
  rintro e w8 ⟨rfl, bb⟩
  clear c0 c1 c2
  have BB := Lib.hid bb
  have T3 := Lib.hid (T3.out.step BB.out)
  have T4 := Lib.hid (T4.out.step BB.out)
  have T8 := Lib.hid (T8.out.step BB.out)
  have T11 := Lib.hid (T11.out.step BB.out)
  have B := Lib.hid (below_more B.out BB.out)
  clear bb BB
  go_wp2_with fail
  go_ret
  exact ⟨rfl, B.out⟩

set_option maxHeartbeats 1000000 in
theorem meets_yff (a b c d x lo hi : Int) (w : World)
    (V1 : Hid (∀ W : World, Calls Try.prog 15 #[.agg #[.int .i64 a, .int .i64 b]] W (Gives (.bool true) W)))
    (V2 : Hid (∀ W : World, Calls Try.prog 15 #[.agg #[.int .i64 c, .int .i64 d]] W (Gives (.bool true) W)))
    (V3 : Hid (∀ W : World, Calls Try.prog 14 #[.agg #[.int .i64 lo, .int .i64 hi]] W (Gives (.bool true) W)))
    (M1 : Hid (∀ W : World, Calls Try.prog 12 #[.agg #[.int .i64 a, .int .i64 b], .agg #[.int .i64 c, .int .i64 d]] W (Gives (.tuple #[.agg #[.int .i64 lo, .int .i64 hi], .bool true, .int .i64 0]) W)))
    (M2 : Hid (∀ W : World, Calls Try.prog 12 #[.agg #[.int .i64 c, .int .i64 d], .agg #[.int .i64 a, .int .i64 b]] W (Gives (.tuple #[.agg #[.int .i64 lo, .int .i64 hi], .bool true, .int .i64 0]) W)))
    (P : Hid (∀ W : World, Calls Try.prog 25 #[.agg #[.int .i64 a, .int .i64 b], .int .i64 x] W (Gives (.bool false) W)))
    (Q : Hid (∀ W : World, Calls Try.prog 25 #[.agg #[.int .i64 c, .int .i64 d], .int .i64 x] W (Gives (.bool false) W)))
    (R : Hid (∀ W : World, Calls Try.prog 25 #[.agg #[.int .i64 lo, .int .i64 hi], .int .i64 x] W (Gives (.bool false) W))) :
    Calls Try.prog 4 #[.agg #[.int .i64 a, .int .i64 b], .agg #[.int .i64 c, .int .i64 d], .int .i64 x] w (Gives (.bool true) w) := by
  have HD := Lib.hid head_true
  have E := fun W => eql_iv (lo, hi) (lo, hi) W
  simp only [decide_true] at E
  obtain ⟨W0, hW0, hT3, hT4, hB⟩ := boxes_two w a b c d
  have T3 := Lib.hid hT3
  have T4 := Lib.hid hT4
  have B := Lib.hid hB
  clear hT3 hT4 hB
  go_enter Try.func4, Try.ntmps4
  go_wp2_with fail
  refine (HD.out _).mono ?_
  rintro e w1 ⟨rfl, bb⟩
  have BB := Lib.hid bb
  have T3 := Lib.hid (T3.out.step BB.out)
  have T4 := Lib.hid (T4.out.step BB.out)
  have B := Lib.hid (below_more B.out BB.out)
  clear bb BB hW0
  have c0 := T3.out.c0
  have c1 := T3.out.c1
  have c2 := T3.out.lt
  go_wp2_with fail
  refine (V1.out _).mono ?_
  rintro e w2 ⟨rfl, bb⟩
  clear c0 c1 c2
  have BB := Lib.hid bb
  have T3 := Lib.hid (T3.out.step BB.out)
  have T4 := Lib.hid (T4.out.step BB.out)
  have B := Lib.hid (below_more B.out BB.out)
  clear bb BB
  have c0 := T4.out.c0
  have c1 := T4.out.c1
  have c2 := T4.out.lt
  go_wp2_with fail
  refine (V2.out _).mono ?_
  rintro e w3 ⟨rfl, bb⟩
  clear c0 c1 c2
  have BB := Lib.hid bb
  have T3 := Lib.hid (T3.out.step BB.out)
  have T4 := Lib.hid (T4.out.step BB.out)
  have B := Lib.hid (below_more B.out BB.out)
  clear bb BB
  have c0 := T3.out.c0
  have c1 := T3.out.c1
  have c2 := T3.out.lt
  have c3 := T4.out.c0
  have c4 := T4.out.c1
  have c5 := T4.out.lt
  go_wp2_with fail
  refine (M1.out _).mono ?_
  rintro e w4 ⟨rfl, bb⟩
  clear c0 c1 c2 c3 c4 c5
  have BB := Lib.hid bb
  have T3 := Lib.hid (T3.out.step BB.out)
  have T4 := Lib.hid (T4.out.step BB.out)
  have B := Lib.hid (below_more B.out BB.out)
  clear bb BB
  have c0 := T3.out.c0
  have c1 := T3.out.c1
  have c2 := T3.out.lt
  have c3 := T4.out.c0
  have c4 := T4.out.c1
  have c5 := T4.out.lt
  go_wp2_with fail
  refine (M2.out _).mono ?_
  rintro e w5 ⟨rfl, bb⟩
  clear c0 c1 c2 c3 c4 c5
  have A_T8 := Lib.hid (below_alloc w4 (.cells #[.int .i64 lo, .int .i64 hi] 24))
  have BB := Lib.hid (below_more A_T8.out bb)
  have T8 := Lib.hid ((Two.new w4 24 (.int .i64 lo) (.int .i64 hi)).step bb)
  have T3 := Lib.hid (T3.out.step BB.out)
  have T4 := Lib.hid (T4.out.step BB.out)
  have B := Lib.hid (below_more B.out BB.out)
  clear bb BB A_T8
  have c0 := T3.out.c0
  have c1 := T3.out.c1
  have c2 := T3.out.lt
  go_wp2_with fail
  refine (P.out _).mono ?_
  rintro e w6 ⟨rfl, bb⟩
  clear c0 c1 c2
  have A_T11 := Lib.hid (below_alloc w5 (.cells #[.int .i64 lo, .int .i64 hi] 24))
  have BB := Lib.hid (below_more A_T11.out bb)
  have T11 := Lib.hid ((Two.new w5 24 (.int .i64 lo) (.int .i64 hi)).step bb)
  have T3 := Lib.hid (T3.out.step BB.out)
  have T4 := Lib.hid (T4.out.step BB.out)
  have T8 := Lib.hid (T8.out.step BB.out)
  have B := Lib.hid (below_more B.out BB.out)
  clear bb BB A_T11
  have c0 := T8.out.c0
  have c1 := T8.out.c1
  have c2 := T8.out.lt
  have c3 := T11.out.c0
  have c4 := T11.out.c1
  have c5 := T11.out.lt
  go_wp2_with fail
  refine (R.out _).mono ?_
  rintro e w7 ⟨rfl, bb⟩
  clear c0 c1 c2 c3 c4 c5
  have BB := Lib.hid bb
  have T3 := Lib.hid (T3.out.step BB.out)
  have T4 := Lib.hid (T4.out.step BB.out)
  have T8 := Lib.hid (T8.out.step BB.out)
  have T11 := Lib.hid (T11.out.step BB.out)
  have B := Lib.hid (below_more B.out BB.out)
  clear bb BB
  have c0 := T8.out.c0
  have c1 := T8.out.c1
  have c2 := T8.out.lt
  go_wp2_with fail
  refine (V3.out _).mono ?_
  rintro e w8 ⟨rfl, bb⟩
  clear c0 c1 c2
  have BB := Lib.hid bb
  have T3 := Lib.hid (T3.out.step BB.out)
  have T4 := Lib.hid (T4.out.step BB.out)
  have T8 := Lib.hid (T8.out.step BB.out)
  have T11 := Lib.hid (T11.out.step BB.out)
  have B := Lib.hid (below_more B.out BB.out)
  clear bb BB
  go_wp2_with fail
  go_ret
  exact ⟨rfl, B.out⟩

set_option maxHeartbeats 1000000 in
theorem meets_ntf (a b c d x lo hi : Int) (w : World)
    (V1 : Hid (∀ W : World, Calls Try.prog 15 #[.agg #[.int .i64 a, .int .i64 b]] W (Gives (.bool true) W)))
    (V2 : Hid (∀ W : World, Calls Try.prog 15 #[.agg #[.int .i64 c, .int .i64 d]] W (Gives (.bool true) W)))
    (M1 : Hid (∀ W : World, Calls Try.prog 12 #[.agg #[.int .i64 a, .int .i64 b], .agg #[.int .i64 c, .int .i64 d]] W (Gives (.tuple #[.agg #[.int .i64 lo, .int .i64 hi], .bool false, .int .i64 0]) W)))
    (M2 : Hid (∀ W : World, Calls Try.prog 12 #[.agg #[.int .i64 c, .int .i64 d], .agg #[.int .i64 a, .int .i64 b]] W (Gives (.tuple #[.agg #[.int .i64 lo, .int .i64 hi], .bool false, .int .i64 0]) W)))
    (P : Hid (∀ W : World, Calls Try.prog 25 #[.agg #[.int .i64 a, .int .i64 b], .int .i64 x] W (Gives (.bool true) W)))
    (Q : Hid (∀ W : World, Calls Try.prog 25 #[.agg #[.int .i64 c, .int .i64 d], .int .i64 x] W (Gives (.bool false) W))) :
    Calls Try.prog 4 #[.agg #[.int .i64 a, .int .i64 b], .agg #[.int .i64 c, .int .i64 d], .int .i64 x] w (Gives (.bool true) w) := by
  have HD := Lib.hid head_true
  have E := fun W => eql_iv (lo, hi) (lo, hi) W
  simp only [decide_true] at E
  obtain ⟨W0, hW0, hT3, hT4, hB⟩ := boxes_two w a b c d
  have T3 := Lib.hid hT3
  have T4 := Lib.hid hT4
  have B := Lib.hid hB
  clear hT3 hT4 hB
  go_enter Try.func4, Try.ntmps4
  go_wp2_with fail
  refine (HD.out _).mono ?_
  rintro e w1 ⟨rfl, bb⟩
  have BB := Lib.hid bb
  have T3 := Lib.hid (T3.out.step BB.out)
  have T4 := Lib.hid (T4.out.step BB.out)
  have B := Lib.hid (below_more B.out BB.out)
  clear bb BB hW0
  have c0 := T3.out.c0
  have c1 := T3.out.c1
  have c2 := T3.out.lt
  go_wp2_with fail
  refine (V1.out _).mono ?_
  rintro e w2 ⟨rfl, bb⟩
  clear c0 c1 c2
  have BB := Lib.hid bb
  have T3 := Lib.hid (T3.out.step BB.out)
  have T4 := Lib.hid (T4.out.step BB.out)
  have B := Lib.hid (below_more B.out BB.out)
  clear bb BB
  have c0 := T4.out.c0
  have c1 := T4.out.c1
  have c2 := T4.out.lt
  go_wp2_with fail
  refine (V2.out _).mono ?_
  rintro e w3 ⟨rfl, bb⟩
  clear c0 c1 c2
  have BB := Lib.hid bb
  have T3 := Lib.hid (T3.out.step BB.out)
  have T4 := Lib.hid (T4.out.step BB.out)
  have B := Lib.hid (below_more B.out BB.out)
  clear bb BB
  have c0 := T3.out.c0
  have c1 := T3.out.c1
  have c2 := T3.out.lt
  have c3 := T4.out.c0
  have c4 := T4.out.c1
  have c5 := T4.out.lt
  go_wp2_with fail
  refine (M1.out _).mono ?_
  rintro e w4 ⟨rfl, bb⟩
  clear c0 c1 c2 c3 c4 c5
  have BB := Lib.hid bb
  have T3 := Lib.hid (T3.out.step BB.out)
  have T4 := Lib.hid (T4.out.step BB.out)
  have B := Lib.hid (below_more B.out BB.out)
  clear bb BB
  have c0 := T3.out.c0
  have c1 := T3.out.c1
  have c2 := T3.out.lt
  have c3 := T4.out.c0
  have c4 := T4.out.c1
  have c5 := T4.out.lt
  go_wp2_with fail
  refine (M2.out _).mono ?_
  rintro e w5 ⟨rfl, bb⟩
  clear c0 c1 c2 c3 c4 c5
  have A_T8 := Lib.hid (below_alloc w4 (.cells #[.int .i64 lo, .int .i64 hi] 24))
  have BB := Lib.hid (below_more A_T8.out bb)
  have T8 := Lib.hid ((Two.new w4 24 (.int .i64 lo) (.int .i64 hi)).step bb)
  have T3 := Lib.hid (T3.out.step BB.out)
  have T4 := Lib.hid (T4.out.step BB.out)
  have B := Lib.hid (below_more B.out BB.out)
  clear bb BB A_T8
  have c0 := T3.out.c0
  have c1 := T3.out.c1
  have c2 := T3.out.lt
  go_wp2_with fail
  refine (P.out _).mono ?_
  rintro e w6 ⟨rfl, bb⟩
  clear c0 c1 c2
  have A_T11 := Lib.hid (below_alloc w5 (.cells #[.int .i64 lo, .int .i64 hi] 24))
  have BB := Lib.hid (below_more A_T11.out bb)
  have T11 := Lib.hid ((Two.new w5 24 (.int .i64 lo) (.int .i64 hi)).step bb)
  have T3 := Lib.hid (T3.out.step BB.out)
  have T4 := Lib.hid (T4.out.step BB.out)
  have T8 := Lib.hid (T8.out.step BB.out)
  have B := Lib.hid (below_more B.out BB.out)
  clear bb BB A_T11
  have c0 := T4.out.c0
  have c1 := T4.out.c1
  have c2 := T4.out.lt
  go_wp2_with fail
  refine (Q.out _).mono ?_
  rintro e w7 ⟨rfl, bb⟩
  clear c0 c1 c2
  have BB := Lib.hid bb
  have T3 := Lib.hid (T3.out.step BB.out)
  have T4 := Lib.hid (T4.out.step BB.out)
  have T8 := Lib.hid (T8.out.step BB.out)
  have T11 := Lib.hid (T11.out.step BB.out)
  have B := Lib.hid (below_more B.out BB.out)
  clear bb BB
  have c0 := T8.out.c0
  have c1 := T8.out.c1
  have c2 := T8.out.lt
  have c3 := T11.out.c0
  have c4 := T11.out.c1
  have c5 := T11.out.lt
  go_wp2_with fail
  go_ret
  exact ⟨rfl, B.out⟩

set_option maxHeartbeats 1000000 in
theorem meets_nft (a b c d x lo hi : Int) (w : World)
    (V1 : Hid (∀ W : World, Calls Try.prog 15 #[.agg #[.int .i64 a, .int .i64 b]] W (Gives (.bool true) W)))
    (V2 : Hid (∀ W : World, Calls Try.prog 15 #[.agg #[.int .i64 c, .int .i64 d]] W (Gives (.bool true) W)))
    (M1 : Hid (∀ W : World, Calls Try.prog 12 #[.agg #[.int .i64 a, .int .i64 b], .agg #[.int .i64 c, .int .i64 d]] W (Gives (.tuple #[.agg #[.int .i64 lo, .int .i64 hi], .bool false, .int .i64 0]) W)))
    (M2 : Hid (∀ W : World, Calls Try.prog 12 #[.agg #[.int .i64 c, .int .i64 d], .agg #[.int .i64 a, .int .i64 b]] W (Gives (.tuple #[.agg #[.int .i64 lo, .int .i64 hi], .bool false, .int .i64 0]) W)))
    (P : Hid (∀ W : World, Calls Try.prog 25 #[.agg #[.int .i64 a, .int .i64 b], .int .i64 x] W (Gives (.bool false) W)))
    (Q : Hid (∀ W : World, Calls Try.prog 25 #[.agg #[.int .i64 c, .int .i64 d], .int .i64 x] W (Gives (.bool true) W))) :
    Calls Try.prog 4 #[.agg #[.int .i64 a, .int .i64 b], .agg #[.int .i64 c, .int .i64 d], .int .i64 x] w (Gives (.bool true) w) := by
  have HD := Lib.hid head_true
  have E := fun W => eql_iv (lo, hi) (lo, hi) W
  simp only [decide_true] at E
  obtain ⟨W0, hW0, hT3, hT4, hB⟩ := boxes_two w a b c d
  have T3 := Lib.hid hT3
  have T4 := Lib.hid hT4
  have B := Lib.hid hB
  clear hT3 hT4 hB
  go_enter Try.func4, Try.ntmps4
  go_wp2_with fail
  refine (HD.out _).mono ?_
  rintro e w1 ⟨rfl, bb⟩
  have BB := Lib.hid bb
  have T3 := Lib.hid (T3.out.step BB.out)
  have T4 := Lib.hid (T4.out.step BB.out)
  have B := Lib.hid (below_more B.out BB.out)
  clear bb BB hW0
  have c0 := T3.out.c0
  have c1 := T3.out.c1
  have c2 := T3.out.lt
  go_wp2_with fail
  refine (V1.out _).mono ?_
  rintro e w2 ⟨rfl, bb⟩
  clear c0 c1 c2
  have BB := Lib.hid bb
  have T3 := Lib.hid (T3.out.step BB.out)
  have T4 := Lib.hid (T4.out.step BB.out)
  have B := Lib.hid (below_more B.out BB.out)
  clear bb BB
  have c0 := T4.out.c0
  have c1 := T4.out.c1
  have c2 := T4.out.lt
  go_wp2_with fail
  refine (V2.out _).mono ?_
  rintro e w3 ⟨rfl, bb⟩
  clear c0 c1 c2
  have BB := Lib.hid bb
  have T3 := Lib.hid (T3.out.step BB.out)
  have T4 := Lib.hid (T4.out.step BB.out)
  have B := Lib.hid (below_more B.out BB.out)
  clear bb BB
  have c0 := T3.out.c0
  have c1 := T3.out.c1
  have c2 := T3.out.lt
  have c3 := T4.out.c0
  have c4 := T4.out.c1
  have c5 := T4.out.lt
  go_wp2_with fail
  refine (M1.out _).mono ?_
  rintro e w4 ⟨rfl, bb⟩
  clear c0 c1 c2 c3 c4 c5
  have BB := Lib.hid bb
  have T3 := Lib.hid (T3.out.step BB.out)
  have T4 := Lib.hid (T4.out.step BB.out)
  have B := Lib.hid (below_more B.out BB.out)
  clear bb BB
  have c0 := T3.out.c0
  have c1 := T3.out.c1
  have c2 := T3.out.lt
  have c3 := T4.out.c0
  have c4 := T4.out.c1
  have c5 := T4.out.lt
  go_wp2_with fail
  refine (M2.out _).mono ?_
  rintro e w5 ⟨rfl, bb⟩
  clear c0 c1 c2 c3 c4 c5
  have A_T8 := Lib.hid (below_alloc w4 (.cells #[.int .i64 lo, .int .i64 hi] 24))
  have BB := Lib.hid (below_more A_T8.out bb)
  have T8 := Lib.hid ((Two.new w4 24 (.int .i64 lo) (.int .i64 hi)).step bb)
  have T3 := Lib.hid (T3.out.step BB.out)
  have T4 := Lib.hid (T4.out.step BB.out)
  have B := Lib.hid (below_more B.out BB.out)
  clear bb BB A_T8
  have c0 := T3.out.c0
  have c1 := T3.out.c1
  have c2 := T3.out.lt
  go_wp2_with fail
  refine (P.out _).mono ?_
  rintro e w6 ⟨rfl, bb⟩
  clear c0 c1 c2
  have A_T11 := Lib.hid (below_alloc w5 (.cells #[.int .i64 lo, .int .i64 hi] 24))
  have BB := Lib.hid (below_more A_T11.out bb)
  have T11 := Lib.hid ((Two.new w5 24 (.int .i64 lo) (.int .i64 hi)).step bb)
  have T3 := Lib.hid (T3.out.step BB.out)
  have T4 := Lib.hid (T4.out.step BB.out)
  have T8 := Lib.hid (T8.out.step BB.out)
  have B := Lib.hid (below_more B.out BB.out)
  clear bb BB A_T11
  have c0 := T8.out.c0
  have c1 := T8.out.c1
  have c2 := T8.out.lt
  have c3 := T11.out.c0
  have c4 := T11.out.c1
  have c5 := T11.out.lt
  go_wp2_with fail
  go_ret
  exact ⟨rfl, B.out⟩

set_option maxHeartbeats 1000000 in
theorem meets_nff (a b c d x lo hi : Int) (w : World)
    (V1 : Hid (∀ W : World, Calls Try.prog 15 #[.agg #[.int .i64 a, .int .i64 b]] W (Gives (.bool true) W)))
    (V2 : Hid (∀ W : World, Calls Try.prog 15 #[.agg #[.int .i64 c, .int .i64 d]] W (Gives (.bool true) W)))
    (M1 : Hid (∀ W : World, Calls Try.prog 12 #[.agg #[.int .i64 a, .int .i64 b], .agg #[.int .i64 c, .int .i64 d]] W (Gives (.tuple #[.agg #[.int .i64 lo, .int .i64 hi], .bool false, .int .i64 0]) W)))
    (M2 : Hid (∀ W : World, Calls Try.prog 12 #[.agg #[.int .i64 c, .int .i64 d], .agg #[.int .i64 a, .int .i64 b]] W (Gives (.tuple #[.agg #[.int .i64 lo, .int .i64 hi], .bool false, .int .i64 0]) W)))
    (P : Hid (∀ W : World, Calls Try.prog 25 #[.agg #[.int .i64 a, .int .i64 b], .int .i64 x] W (Gives (.bool false) W)))
    (Q : Hid (∀ W : World, Calls Try.prog 25 #[.agg #[.int .i64 c, .int .i64 d], .int .i64 x] W (Gives (.bool false) W))) :
    Calls Try.prog 4 #[.agg #[.int .i64 a, .int .i64 b], .agg #[.int .i64 c, .int .i64 d], .int .i64 x] w (Gives (.bool true) w) := by
  have HD := Lib.hid head_true
  have E := fun W => eql_iv (lo, hi) (lo, hi) W
  simp only [decide_true] at E
  obtain ⟨W0, hW0, hT3, hT4, hB⟩ := boxes_two w a b c d
  have T3 := Lib.hid hT3
  have T4 := Lib.hid hT4
  have B := Lib.hid hB
  clear hT3 hT4 hB
  go_enter Try.func4, Try.ntmps4
  go_wp2_with fail
  refine (HD.out _).mono ?_
  rintro e w1 ⟨rfl, bb⟩
  have BB := Lib.hid bb
  have T3 := Lib.hid (T3.out.step BB.out)
  have T4 := Lib.hid (T4.out.step BB.out)
  have B := Lib.hid (below_more B.out BB.out)
  clear bb BB hW0
  have c0 := T3.out.c0
  have c1 := T3.out.c1
  have c2 := T3.out.lt
  go_wp2_with fail
  refine (V1.out _).mono ?_
  rintro e w2 ⟨rfl, bb⟩
  clear c0 c1 c2
  have BB := Lib.hid bb
  have T3 := Lib.hid (T3.out.step BB.out)
  have T4 := Lib.hid (T4.out.step BB.out)
  have B := Lib.hid (below_more B.out BB.out)
  clear bb BB
  have c0 := T4.out.c0
  have c1 := T4.out.c1
  have c2 := T4.out.lt
  go_wp2_with fail
  refine (V2.out _).mono ?_
  rintro e w3 ⟨rfl, bb⟩
  clear c0 c1 c2
  have BB := Lib.hid bb
  have T3 := Lib.hid (T3.out.step BB.out)
  have T4 := Lib.hid (T4.out.step BB.out)
  have B := Lib.hid (below_more B.out BB.out)
  clear bb BB
  have c0 := T3.out.c0
  have c1 := T3.out.c1
  have c2 := T3.out.lt
  have c3 := T4.out.c0
  have c4 := T4.out.c1
  have c5 := T4.out.lt
  go_wp2_with fail
  refine (M1.out _).mono ?_
  rintro e w4 ⟨rfl, bb⟩
  clear c0 c1 c2 c3 c4 c5
  have BB := Lib.hid bb
  have T3 := Lib.hid (T3.out.step BB.out)
  have T4 := Lib.hid (T4.out.step BB.out)
  have B := Lib.hid (below_more B.out BB.out)
  clear bb BB
  have c0 := T3.out.c0
  have c1 := T3.out.c1
  have c2 := T3.out.lt
  have c3 := T4.out.c0
  have c4 := T4.out.c1
  have c5 := T4.out.lt
  go_wp2_with fail
  refine (M2.out _).mono ?_
  rintro e w5 ⟨rfl, bb⟩
  clear c0 c1 c2 c3 c4 c5
  have A_T8 := Lib.hid (below_alloc w4 (.cells #[.int .i64 lo, .int .i64 hi] 24))
  have BB := Lib.hid (below_more A_T8.out bb)
  have T8 := Lib.hid ((Two.new w4 24 (.int .i64 lo) (.int .i64 hi)).step bb)
  have T3 := Lib.hid (T3.out.step BB.out)
  have T4 := Lib.hid (T4.out.step BB.out)
  have B := Lib.hid (below_more B.out BB.out)
  clear bb BB A_T8
  have c0 := T3.out.c0
  have c1 := T3.out.c1
  have c2 := T3.out.lt
  go_wp2_with fail
  refine (P.out _).mono ?_
  rintro e w6 ⟨rfl, bb⟩
  clear c0 c1 c2
  have A_T11 := Lib.hid (below_alloc w5 (.cells #[.int .i64 lo, .int .i64 hi] 24))
  have BB := Lib.hid (below_more A_T11.out bb)
  have T11 := Lib.hid ((Two.new w5 24 (.int .i64 lo) (.int .i64 hi)).step bb)
  have T3 := Lib.hid (T3.out.step BB.out)
  have T4 := Lib.hid (T4.out.step BB.out)
  have T8 := Lib.hid (T8.out.step BB.out)
  have B := Lib.hid (below_more B.out BB.out)
  clear bb BB A_T11
  have c0 := T8.out.c0
  have c1 := T8.out.c1
  have c2 := T8.out.lt
  have c3 := T11.out.c0
  have c4 := T11.out.c1
  have c5 := T11.out.lt
  go_wp2_with fail
  go_ret
  exact ⟨rfl, B.out⟩

theorem meets_no1 (a b c d x : Int) (w : World)
    (V1 : Hid (∀ W : World, Calls Try.prog 15 #[.agg #[.int .i64 a, .int .i64 b]] W (Gives (.bool false) W))) :
    Calls Try.prog 4 #[.agg #[.int .i64 a, .int .i64 b], .agg #[.int .i64 c, .int .i64 d], .int .i64 x] w (Gives (.bool true) w) := by
  have HD := Lib.hid head_true
  obtain ⟨W0, hW0, hT3, hT4, hB⟩ := boxes_two w a b c d
  have T3 := Lib.hid hT3
  have T4 := Lib.hid hT4
  have B := Lib.hid hB
  clear hT3 hT4 hB
  go_enter Try.func4, Try.ntmps4
  go_wp2_with fail
  refine (HD.out _).mono ?_
  rintro e w1 ⟨rfl, bb⟩
  have BB := Lib.hid bb
  have T3 := Lib.hid (T3.out.step BB.out)
  have T4 := Lib.hid (T4.out.step BB.out)
  have B := Lib.hid (below_more B.out BB.out)
  clear bb BB hW0
  have c0 := T3.out.c0
  have c1 := T3.out.c1
  have c2 := T3.out.lt
  go_wp2_with fail
  refine (V1.out _).mono ?_
  rintro e w2 ⟨rfl, bb⟩
  clear c0 c1 c2
  have BB := Lib.hid bb
  have T3 := Lib.hid (T3.out.step BB.out)
  have T4 := Lib.hid (T4.out.step BB.out)
  have B := Lib.hid (below_more B.out BB.out)
  clear bb BB
  go_wp2_with fail
  go_ret
  exact ⟨rfl, B.out⟩

theorem meets_no2 (a b c d x : Int) (w : World)
    (V1 : Hid (∀ W : World, Calls Try.prog 15 #[.agg #[.int .i64 a, .int .i64 b]] W (Gives (.bool true) W)))
    (V2 : Hid (∀ W : World, Calls Try.prog 15 #[.agg #[.int .i64 c, .int .i64 d]] W (Gives (.bool false) W))) :
    Calls Try.prog 4 #[.agg #[.int .i64 a, .int .i64 b], .agg #[.int .i64 c, .int .i64 d], .int .i64 x] w (Gives (.bool true) w) := by
  have HD := Lib.hid head_true
  obtain ⟨W0, hW0, hT3, hT4, hB⟩ := boxes_two w a b c d
  have T3 := Lib.hid hT3
  have T4 := Lib.hid hT4
  have B := Lib.hid hB
  clear hT3 hT4 hB
  go_enter Try.func4, Try.ntmps4
  go_wp2_with fail
  refine (HD.out _).mono ?_
  rintro e w1 ⟨rfl, bb⟩
  have BB := Lib.hid bb
  have T3 := Lib.hid (T3.out.step BB.out)
  have T4 := Lib.hid (T4.out.step BB.out)
  have B := Lib.hid (below_more B.out BB.out)
  clear bb BB hW0
  have c0 := T3.out.c0
  have c1 := T3.out.c1
  have c2 := T3.out.lt
  go_wp2_with fail
  refine (V1.out _).mono ?_
  rintro e w2 ⟨rfl, bb⟩
  clear c0 c1 c2
  have BB := Lib.hid bb
  have T3 := Lib.hid (T3.out.step BB.out)
  have T4 := Lib.hid (T4.out.step BB.out)
  have B := Lib.hid (below_more B.out BB.out)
  clear bb BB
  have c0 := T4.out.c0
  have c1 := T4.out.c1
  have c2 := T4.out.lt
  go_wp2_with fail
  refine (V2.out _).mono ?_
  rintro e w3 ⟨rfl, bb⟩
  clear c0 c1 c2
  have BB := Lib.hid bb
  have T3 := Lib.hid (T3.out.step BB.out)
  have T4 := Lib.hid (T4.out.step BB.out)
  have B := Lib.hid (below_more B.out BB.out)
  clear bb BB
  go_wp2_with fail
  go_ret
  exact ⟨rfl, B.out⟩

theorem meets_true (a b c d x : Int) (w : World) : Calls Try.prog 4 #[.agg #[.int .i64 a, .int .i64 b], .agg #[.int .i64 c, .int .i64 d], .int .i64 x] w (Gives (.bool true) w) := by
  have V1 := rvalid_any a b
  have V2 := rvalid_any c d
  cases h1 : validB (a, b) with
  | false => rw [h1] at V1; exact meets_no1 a b c d x w V1
  | true =>
    rw [h1] at V1
    cases h2 : validB (c, d) with
    | false => rw [h2] at V2; exact meets_no2 a b c d x w V1 V2
    | true =>
      rw [h2] at V2
      obtain ⟨lo, hi, yes, hm, hx, hvv⟩ := meets_facts a b c d x (by rw [h1, h2]; rfl)
      have M1 := fun W => meet_any a b c d W
      have M2 := fun W => meet_any c d a b W
      rw [meetR_comm] at M2
      simp only [hm, ivV] at M1 M2
      have P := rhas_any a b x
      have Q := rhas_any c d x
      have R := rhas_any lo hi x
      have V3 := valid_any lo hi
      cases yes with
      | true =>
        rw [hvv rfl] at V3
        cases hp : inB (a, b) x with
        | true =>
          cases hq : inB (c, d) x with
          | true =>
            have hr : inB (lo, hi) x = true := by simpa [hp, hq] using hx
            rw [hp] at P; rw [hq] at Q; rw [hr] at R
            exact meets_ytt a b c d x lo hi w V1 V2 V3 M1 M2 P Q R
          | false =>
            have hr : inB (lo, hi) x = false := by simpa [hp, hq] using hx
            rw [hp] at P; rw [hq] at Q; rw [hr] at R
            exact meets_ytf a b c d x lo hi w V1 V2 V3 M1 M2 P Q R
        | false =>
          have hr : inB (lo, hi) x = false := by simpa [hp] using hx
          rw [hp] at P; rw [hr] at R
          cases hq : inB (c, d) x with
          | true => rw [hq] at Q; exact meets_yft a b c d x lo hi w V1 V2 V3 M1 M2 P Q R
          | false => rw [hq] at Q; exact meets_yff a b c d x lo hi w V1 V2 V3 M1 M2 P Q R
      | false =>
        have hpq : (inB (a, b) x && inB (c, d) x) = false := by simpa using hx.symm
        clear V3 R
        cases hp : inB (a, b) x with
        | true =>
          have hq : inB (c, d) x = false := by simpa [hp] using hpq
          rw [hp] at P; rw [hq] at Q
          exact meets_ntf a b c d x lo hi w V1 V2 M1 M2 P Q
        | false =>
          rw [hp] at P
          cases hq : inB (c, d) x with
          | true => rw [hq] at Q; exact meets_nft a b c d x lo hi w V1 V2 M1 M2 P Q
          | false => rw [hq] at Q; exact meets_nff a b c d x lo hi w V1 V2 M1 M2 P Q

theorem meets_law (a b c d x : Int) (w : World) (_ : (Lit.int .i64 x).wf = true) : Calls Try.prog 4 #[.agg #[.int .i64 a, .int .i64 b], .agg #[.int .i64 c, .int .i64 d], .int .i64 x] w (Gives (.bool true) w) := meets_true a b c d x w
end Go.Proofs.Ytpooifjieoijjaa

