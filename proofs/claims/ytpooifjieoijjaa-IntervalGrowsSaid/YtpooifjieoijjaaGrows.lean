/- Layer 2: IntervalGrows. -/
import Derived.Test.YtpooifjieoijjaaHead
namespace Go.Proofs.Ytpooifjieoijjaa
open Go.RowKit Go
set_option linter.unusedVariables false

theorem u64_wf {x : Int} (h : (Lit.int .u64 x).wf = true) : 0 ≤ x ∧ x ≤ 18446744073709551615 := by
  have e1 : IntKind.u64.min = 0 := by decide
  have e2 : IntKind.u64.max = 18446744073709551615 := by decide
  simp [Lit.wf, e1, e2] at h; omega

theorem box_one (w : World) (a b : Int) : ∃ W, w.alloc (.cells #[.int .i64 a, .int .i64 b] 24) = W ∧ Two W w.heap.size 24 (.int .i64 a) (.int .i64 b) ∧ Below w.heap.size w W :=
  ⟨_, rfl, Two.new _ _ _ _, below_alloc w _⟩

set_option maxHeartbeats 2000000 in
set_option maxRecDepth 100000 in
theorem grows_t (a b l r m n x A B C D lo hi lo2 hi2 : Int) (w : World)
    (b1 : 0 ≤ l ∧ l ≤ 18446744073709551615) (b2 : 0 ≤ r ∧ r ≤ 18446744073709551615) (b3 : 0 ≤ m ∧ m ≤ 18446744073709551615) (b4 : 0 ≤ n ∧ n ≤ 18446744073709551615)
    (b5 : -9223372036854775808 ≤ x ∧ x ≤ 9223372036854775807)
    (hA : l % 1500000000000000 = A) (hB : r % 1500000000000000 = B) (hC : m % 1500000000000000 = C) (hD : n % 1500000000000000 = D)
    (d1 : 0 ≤ A ∧ A < 1500000000000000) (d2 : 0 ≤ B ∧ B < 1500000000000000) (d3 : 0 ≤ C ∧ C < 1500000000000000) (d4 : 0 ≤ D ∧ D < 1500000000000000)
    (v1 : 0 ≤ a) (v2 : a ≤ b) (v3 : b ≤ 3000000000000000)
    (V1 : Hid (∀ W : World, Calls Try.prog 15 #[.agg #[.int .i64 a, .int .i64 b]] W (Gives (.bool true) W)))
    (V2 : Hid (∀ W : World, Calls Try.prog 14 #[.agg #[.int .i64 lo, .int .i64 hi]] W (Gives (.bool true) W)))
    (G1 : Hid (∀ W : World, Calls Try.prog 18 #[.agg #[.int .i64 a, .int .i64 b], .int .i64 A, .int .i64 B] W (Gives (.tuple #[.agg #[.int .i64 lo, .int .i64 hi], .int .i64 0]) W)))
    (G2 : Hid (∀ W : World, Calls Try.prog 18 #[.agg #[.int .i64 lo, .int .i64 hi], .int .i64 C, .int .i64 D] W (Gives (.tuple #[.agg #[.int .i64 lo2, .int .i64 hi2], .int .i64 0]) W)))
    (G3 : Hid (∀ W : World, Calls Try.prog 18 #[.agg #[.int .i64 a, .int .i64 b], .int .i64 (A + C), .int .i64 (B + D)] W (Gives (.tuple #[.agg #[.int .i64 lo2, .int .i64 hi2], .int .i64 0]) W)))
    (q1 : lo ≤ a) (q2 : b ≤ hi)
    (h0 : 0 ≤ x) (h1 : x ≤ 3000000000000000) (h2 : a - A ≤ x) (h3 : x ≤ b + B)
    (H : Hid (∀ W : World, Calls Try.prog 25 #[.agg #[.int .i64 lo, .int .i64 hi], .int .i64 x] W (Gives (.bool true) W))) :
    Calls Try.prog 6 #[.agg #[.int .i64 a, .int .i64 b], .int .u64 l, .int .u64 r, .int .u64 m, .int .u64 n, .int .i64 x] w (Gives (.bool true) w) := by
  have HD := Lib.hid head_true
  obtain ⟨W0, hW0, hT6, hB0⟩ := box_one w a b
  have T6 := Lib.hid hT6
  have B0 := Lib.hid hB0
  clear hT6 hB0
  have NE := fun W => neq_iv (lo2, hi2) (lo2, hi2) W
  simp only [decide_true, Bool.not_true] at NE
  obtain ⟨b1, b1'⟩ := b1
  obtain ⟨b2, b2'⟩ := b2
  obtain ⟨b3, b3'⟩ := b3
  obtain ⟨b4, b4'⟩ := b4
  obtain ⟨b5, b5'⟩ := b5
  obtain ⟨d1, d1'⟩ := d1
  obtain ⟨d2, d2'⟩ := d2
  obtain ⟨d3, d3'⟩ := d3
  obtain ⟨d4, d4'⟩ := d4
  go_enter Try.func6, Try.ntmps6
  go_wp2_with fail
  refine (HD.out _).mono ?_
  rintro e w1 ⟨rfl, bb⟩
  have BB := Lib.hid bb
  have T6 := Lib.hid (T6.out.step BB.out)
  have B := Lib.hid (below_more B0.out BB.out)
  clear bb BB hW0 B0
  have c0 := T6.out.c0
  have c1 := T6.out.c1
  have c2 := T6.out.lt
  go_wp2_with fail
  refine (V1.out _).mono ?_
  rintro e w2 ⟨rfl, bb⟩
  clear c0 c1 c2
  have BB := Lib.hid bb
  have T6 := Lib.hid (T6.out.step BB.out)
  have B := Lib.hid (below_more B.out BB.out)
  clear bb BB
  have c0 := T6.out.c0
  have c1 := T6.out.c1
  have c2 := T6.out.lt
  go_wp2_with fail
  refine (G1.out _).mono ?_
  rintro e w3 ⟨rfl, bb⟩
  clear c0 c1 c2
  have BB := Lib.hid bb
  have T6 := Lib.hid (T6.out.step BB.out)
  have B := Lib.hid (below_more B.out BB.out)
  clear bb BB
  have c0 := T6.out.c0
  have c1 := T6.out.c1
  have c2 := T6.out.lt
  go_wp2_with fail
  refine (G2.out _).mono ?_
  rintro e w4 ⟨rfl, bb⟩
  clear c0 c1 c2
  have A_T18 := Lib.hid (below_alloc w3 (.cells #[.int .i64 lo, .int .i64 hi] 24))
  have BB := Lib.hid (below_more A_T18.out bb)
  have T18 := Lib.hid ((Two.new w3 24 (.int .i64 lo) (.int .i64 hi)).step bb)
  have T6 := Lib.hid (T6.out.step BB.out)
  have B := Lib.hid (below_more B.out BB.out)
  clear bb BB A_T18
  have c0 := T6.out.c0
  have c1 := T6.out.c1
  have c2 := T6.out.lt
  have c3 := T18.out.c0
  have c4 := T18.out.c1
  have c5 := T18.out.lt
  go_wp2_with fail
  refine (G3.out _).mono ?_
  rintro e w5 ⟨rfl, bb⟩
  clear c0 c1 c2 c3 c4 c5
  have A_T20 := Lib.hid (below_alloc w4 (.cells #[.int .i64 lo2, .int .i64 hi2] 24))
  have BB := Lib.hid (below_more A_T20.out bb)
  have T20 := Lib.hid ((Two.new w4 24 (.int .i64 lo2) (.int .i64 hi2)).step bb)
  have T6 := Lib.hid (T6.out.step BB.out)
  have T18 := Lib.hid (T18.out.step BB.out)
  have B := Lib.hid (below_more B.out BB.out)
  clear bb BB A_T20
  have c0 := T6.out.c0
  have c1 := T6.out.c1
  have c2 := T6.out.lt
  have c3 := T18.out.c0
  have c4 := T18.out.c1
  have c5 := T18.out.lt
  have c6 := T20.out.c0
  have c7 := T20.out.c1
  have c8 := T20.out.lt
  go_wp2_with fail
  refine (V2.out _).mono ?_
  rintro e w6 ⟨rfl, bb⟩
  clear c0 c1 c2 c3 c4 c5 c6 c7 c8
  have A_T22 := Lib.hid (below_alloc w5 (.cells #[.int .i64 lo2, .int .i64 hi2] 24))
  have BB := Lib.hid (below_more A_T22.out bb)
  have T22 := Lib.hid ((Two.new w5 24 (.int .i64 lo2) (.int .i64 hi2)).step bb)
  have T6 := Lib.hid (T6.out.step BB.out)
  have T18 := Lib.hid (T18.out.step BB.out)
  have T20 := Lib.hid (T20.out.step BB.out)
  have B := Lib.hid (below_more B.out BB.out)
  clear bb BB A_T22
  have c0 := T6.out.c0
  have c1 := T6.out.c1
  have c2 := T6.out.lt
  have c3 := T18.out.c0
  have c4 := T18.out.c1
  have c5 := T18.out.lt
  have c6 := T20.out.c0
  have c7 := T20.out.c1
  have c8 := T20.out.lt
  have c9 := T22.out.c0
  have c10 := T22.out.c1
  have c11 := T22.out.lt
  go_wp2_with fail
  refine (H.out _).mono ?_
  rintro e w7 ⟨rfl, bb⟩
  clear c0 c1 c2 c3 c4 c5 c6 c7 c8 c9 c10 c11
  have BB := Lib.hid bb
  have T6 := Lib.hid (T6.out.step BB.out)
  have T18 := Lib.hid (T18.out.step BB.out)
  have T20 := Lib.hid (T20.out.step BB.out)
  have T22 := Lib.hid (T22.out.step BB.out)
  have B := Lib.hid (below_more B.out BB.out)
  clear bb BB
  go_wp2_with fail
  go_ret
  exact ⟨rfl, B.out⟩

set_option maxHeartbeats 2000000 in
set_option maxRecDepth 100000 in
theorem grows_f1 (a b l r m n x A B C D lo hi lo2 hi2 : Int) (w : World)
    (b1 : 0 ≤ l ∧ l ≤ 18446744073709551615) (b2 : 0 ≤ r ∧ r ≤ 18446744073709551615) (b3 : 0 ≤ m ∧ m ≤ 18446744073709551615) (b4 : 0 ≤ n ∧ n ≤ 18446744073709551615)
    (b5 : -9223372036854775808 ≤ x ∧ x ≤ 9223372036854775807)
    (hA : l % 1500000000000000 = A) (hB : r % 1500000000000000 = B) (hC : m % 1500000000000000 = C) (hD : n % 1500000000000000 = D)
    (d1 : 0 ≤ A ∧ A < 1500000000000000) (d2 : 0 ≤ B ∧ B < 1500000000000000) (d3 : 0 ≤ C ∧ C < 1500000000000000) (d4 : 0 ≤ D ∧ D < 1500000000000000)
    (v1 : 0 ≤ a) (v2 : a ≤ b) (v3 : b ≤ 3000000000000000)
    (V1 : Hid (∀ W : World, Calls Try.prog 15 #[.agg #[.int .i64 a, .int .i64 b]] W (Gives (.bool true) W)))
    (V2 : Hid (∀ W : World, Calls Try.prog 14 #[.agg #[.int .i64 lo, .int .i64 hi]] W (Gives (.bool true) W)))
    (G1 : Hid (∀ W : World, Calls Try.prog 18 #[.agg #[.int .i64 a, .int .i64 b], .int .i64 A, .int .i64 B] W (Gives (.tuple #[.agg #[.int .i64 lo, .int .i64 hi], .int .i64 0]) W)))
    (G2 : Hid (∀ W : World, Calls Try.prog 18 #[.agg #[.int .i64 lo, .int .i64 hi], .int .i64 C, .int .i64 D] W (Gives (.tuple #[.agg #[.int .i64 lo2, .int .i64 hi2], .int .i64 0]) W)))
    (G3 : Hid (∀ W : World, Calls Try.prog 18 #[.agg #[.int .i64 a, .int .i64 b], .int .i64 (A + C), .int .i64 (B + D)] W (Gives (.tuple #[.agg #[.int .i64 lo2, .int .i64 hi2], .int .i64 0]) W)))
    (q1 : lo ≤ a) (q2 : b ≤ hi)
    (h0 : x < 0)
    (H : Hid (∀ W : World, Calls Try.prog 25 #[.agg #[.int .i64 lo, .int .i64 hi], .int .i64 x] W (Gives (.bool false) W))) :
    Calls Try.prog 6 #[.agg #[.int .i64 a, .int .i64 b], .int .u64 l, .int .u64 r, .int .u64 m, .int .u64 n, .int .i64 x] w (Gives (.bool true) w) := by
  have HD := Lib.hid head_true
  obtain ⟨W0, hW0, hT6, hB0⟩ := box_one w a b
  have T6 := Lib.hid hT6
  have B0 := Lib.hid hB0
  clear hT6 hB0
  have NE := fun W => neq_iv (lo2, hi2) (lo2, hi2) W
  simp only [decide_true, Bool.not_true] at NE
  obtain ⟨b1, b1'⟩ := b1
  obtain ⟨b2, b2'⟩ := b2
  obtain ⟨b3, b3'⟩ := b3
  obtain ⟨b4, b4'⟩ := b4
  obtain ⟨b5, b5'⟩ := b5
  obtain ⟨d1, d1'⟩ := d1
  obtain ⟨d2, d2'⟩ := d2
  obtain ⟨d3, d3'⟩ := d3
  obtain ⟨d4, d4'⟩ := d4
  go_enter Try.func6, Try.ntmps6
  go_wp2_with fail
  refine (HD.out _).mono ?_
  rintro e w1 ⟨rfl, bb⟩
  have BB := Lib.hid bb
  have T6 := Lib.hid (T6.out.step BB.out)
  have B := Lib.hid (below_more B0.out BB.out)
  clear bb BB hW0 B0
  have c0 := T6.out.c0
  have c1 := T6.out.c1
  have c2 := T6.out.lt
  go_wp2_with fail
  refine (V1.out _).mono ?_
  rintro e w2 ⟨rfl, bb⟩
  clear c0 c1 c2
  have BB := Lib.hid bb
  have T6 := Lib.hid (T6.out.step BB.out)
  have B := Lib.hid (below_more B.out BB.out)
  clear bb BB
  have c0 := T6.out.c0
  have c1 := T6.out.c1
  have c2 := T6.out.lt
  go_wp2_with fail
  refine (G1.out _).mono ?_
  rintro e w3 ⟨rfl, bb⟩
  clear c0 c1 c2
  have BB := Lib.hid bb
  have T6 := Lib.hid (T6.out.step BB.out)
  have B := Lib.hid (below_more B.out BB.out)
  clear bb BB
  have c0 := T6.out.c0
  have c1 := T6.out.c1
  have c2 := T6.out.lt
  go_wp2_with fail
  refine (G2.out _).mono ?_
  rintro e w4 ⟨rfl, bb⟩
  clear c0 c1 c2
  have A_T18 := Lib.hid (below_alloc w3 (.cells #[.int .i64 lo, .int .i64 hi] 24))
  have BB := Lib.hid (below_more A_T18.out bb)
  have T18 := Lib.hid ((Two.new w3 24 (.int .i64 lo) (.int .i64 hi)).step bb)
  have T6 := Lib.hid (T6.out.step BB.out)
  have B := Lib.hid (below_more B.out BB.out)
  clear bb BB A_T18
  have c0 := T6.out.c0
  have c1 := T6.out.c1
  have c2 := T6.out.lt
  have c3 := T18.out.c0
  have c4 := T18.out.c1
  have c5 := T18.out.lt
  go_wp2_with fail
  refine (G3.out _).mono ?_
  rintro e w5 ⟨rfl, bb⟩
  clear c0 c1 c2 c3 c4 c5
  have A_T20 := Lib.hid (below_alloc w4 (.cells #[.int .i64 lo2, .int .i64 hi2] 24))
  have BB := Lib.hid (below_more A_T20.out bb)
  have T20 := Lib.hid ((Two.new w4 24 (.int .i64 lo2) (.int .i64 hi2)).step bb)
  have T6 := Lib.hid (T6.out.step BB.out)
  have T18 := Lib.hid (T18.out.step BB.out)
  have B := Lib.hid (below_more B.out BB.out)
  clear bb BB A_T20
  have c0 := T6.out.c0
  have c1 := T6.out.c1
  have c2 := T6.out.lt
  have c3 := T18.out.c0
  have c4 := T18.out.c1
  have c5 := T18.out.lt
  have c6 := T20.out.c0
  have c7 := T20.out.c1
  have c8 := T20.out.lt
  go_wp2_with fail
  refine (V2.out _).mono ?_
  rintro e w6 ⟨rfl, bb⟩
  clear c0 c1 c2 c3 c4 c5 c6 c7 c8
  have A_T22 := Lib.hid (below_alloc w5 (.cells #[.int .i64 lo2, .int .i64 hi2] 24))
  have BB := Lib.hid (below_more A_T22.out bb)
  have T22 := Lib.hid ((Two.new w5 24 (.int .i64 lo2) (.int .i64 hi2)).step bb)
  have T6 := Lib.hid (T6.out.step BB.out)
  have T18 := Lib.hid (T18.out.step BB.out)
  have T20 := Lib.hid (T20.out.step BB.out)
  have B := Lib.hid (below_more B.out BB.out)
  clear bb BB A_T22
  have c0 := T6.out.c0
  have c1 := T6.out.c1
  have c2 := T6.out.lt
  have c3 := T18.out.c0
  have c4 := T18.out.c1
  have c5 := T18.out.lt
  have c6 := T20.out.c0
  have c7 := T20.out.c1
  have c8 := T20.out.lt
  have c9 := T22.out.c0
  have c10 := T22.out.c1
  have c11 := T22.out.lt
  go_wp2_with fail
  refine (H.out _).mono ?_
  rintro e w7 ⟨rfl, bb⟩
  clear c0 c1 c2 c3 c4 c5 c6 c7 c8 c9 c10 c11
  have BB := Lib.hid bb
  have T6 := Lib.hid (T6.out.step BB.out)
  have T18 := Lib.hid (T18.out.step BB.out)
  have T20 := Lib.hid (T20.out.step BB.out)
  have T22 := Lib.hid (T22.out.step BB.out)
  have B := Lib.hid (below_more B.out BB.out)
  clear bb BB
  go_wp2_with fail
  go_ret
  exact ⟨rfl, B.out⟩

set_option maxHeartbeats 2000000 in
set_option maxRecDepth 100000 in
theorem grows_f2 (a b l r m n x A B C D lo hi lo2 hi2 : Int) (w : World)
    (b1 : 0 ≤ l ∧ l ≤ 18446744073709551615) (b2 : 0 ≤ r ∧ r ≤ 18446744073709551615) (b3 : 0 ≤ m ∧ m ≤ 18446744073709551615) (b4 : 0 ≤ n ∧ n ≤ 18446744073709551615)
    (b5 : -9223372036854775808 ≤ x ∧ x ≤ 9223372036854775807)
    (hA : l % 1500000000000000 = A) (hB : r % 1500000000000000 = B) (hC : m % 1500000000000000 = C) (hD : n % 1500000000000000 = D)
    (d1 : 0 ≤ A ∧ A < 1500000000000000) (d2 : 0 ≤ B ∧ B < 1500000000000000) (d3 : 0 ≤ C ∧ C < 1500000000000000) (d4 : 0 ≤ D ∧ D < 1500000000000000)
    (v1 : 0 ≤ a) (v2 : a ≤ b) (v3 : b ≤ 3000000000000000)
    (V1 : Hid (∀ W : World, Calls Try.prog 15 #[.agg #[.int .i64 a, .int .i64 b]] W (Gives (.bool true) W)))
    (V2 : Hid (∀ W : World, Calls Try.prog 14 #[.agg #[.int .i64 lo, .int .i64 hi]] W (Gives (.bool true) W)))
    (G1 : Hid (∀ W : World, Calls Try.prog 18 #[.agg #[.int .i64 a, .int .i64 b], .int .i64 A, .int .i64 B] W (Gives (.tuple #[.agg #[.int .i64 lo, .int .i64 hi], .int .i64 0]) W)))
    (G2 : Hid (∀ W : World, Calls Try.prog 18 #[.agg #[.int .i64 lo, .int .i64 hi], .int .i64 C, .int .i64 D] W (Gives (.tuple #[.agg #[.int .i64 lo2, .int .i64 hi2], .int .i64 0]) W)))
    (G3 : Hid (∀ W : World, Calls Try.prog 18 #[.agg #[.int .i64 a, .int .i64 b], .int .i64 (A + C), .int .i64 (B + D)] W (Gives (.tuple #[.agg #[.int .i64 lo2, .int .i64 hi2], .int .i64 0]) W)))
    (q1 : lo ≤ a) (q2 : b ≤ hi)
    (h0 : 0 ≤ x) (h1 : 3000000000000000 < x)
    (H : Hid (∀ W : World, Calls Try.prog 25 #[.agg #[.int .i64 lo, .int .i64 hi], .int .i64 x] W (Gives (.bool false) W))) :
    Calls Try.prog 6 #[.agg #[.int .i64 a, .int .i64 b], .int .u64 l, .int .u64 r, .int .u64 m, .int .u64 n, .int .i64 x] w (Gives (.bool true) w) := by
  have HD := Lib.hid head_true
  obtain ⟨W0, hW0, hT6, hB0⟩ := box_one w a b
  have T6 := Lib.hid hT6
  have B0 := Lib.hid hB0
  clear hT6 hB0
  have NE := fun W => neq_iv (lo2, hi2) (lo2, hi2) W
  simp only [decide_true, Bool.not_true] at NE
  obtain ⟨b1, b1'⟩ := b1
  obtain ⟨b2, b2'⟩ := b2
  obtain ⟨b3, b3'⟩ := b3
  obtain ⟨b4, b4'⟩ := b4
  obtain ⟨b5, b5'⟩ := b5
  obtain ⟨d1, d1'⟩ := d1
  obtain ⟨d2, d2'⟩ := d2
  obtain ⟨d3, d3'⟩ := d3
  obtain ⟨d4, d4'⟩ := d4
  go_enter Try.func6, Try.ntmps6
  go_wp2_with fail
  refine (HD.out _).mono ?_
  rintro e w1 ⟨rfl, bb⟩
  have BB := Lib.hid bb
  have T6 := Lib.hid (T6.out.step BB.out)
  have B := Lib.hid (below_more B0.out BB.out)
  clear bb BB hW0 B0
  have c0 := T6.out.c0
  have c1 := T6.out.c1
  have c2 := T6.out.lt
  go_wp2_with fail
  refine (V1.out _).mono ?_
  rintro e w2 ⟨rfl, bb⟩
  clear c0 c1 c2
  have BB := Lib.hid bb
  have T6 := Lib.hid (T6.out.step BB.out)
  have B := Lib.hid (below_more B.out BB.out)
  clear bb BB
  have c0 := T6.out.c0
  have c1 := T6.out.c1
  have c2 := T6.out.lt
  go_wp2_with fail
  refine (G1.out _).mono ?_
  rintro e w3 ⟨rfl, bb⟩
  clear c0 c1 c2
  have BB := Lib.hid bb
  have T6 := Lib.hid (T6.out.step BB.out)
  have B := Lib.hid (below_more B.out BB.out)
  clear bb BB
  have c0 := T6.out.c0
  have c1 := T6.out.c1
  have c2 := T6.out.lt
  go_wp2_with fail
  refine (G2.out _).mono ?_
  rintro e w4 ⟨rfl, bb⟩
  clear c0 c1 c2
  have A_T18 := Lib.hid (below_alloc w3 (.cells #[.int .i64 lo, .int .i64 hi] 24))
  have BB := Lib.hid (below_more A_T18.out bb)
  have T18 := Lib.hid ((Two.new w3 24 (.int .i64 lo) (.int .i64 hi)).step bb)
  have T6 := Lib.hid (T6.out.step BB.out)
  have B := Lib.hid (below_more B.out BB.out)
  clear bb BB A_T18
  have c0 := T6.out.c0
  have c1 := T6.out.c1
  have c2 := T6.out.lt
  have c3 := T18.out.c0
  have c4 := T18.out.c1
  have c5 := T18.out.lt
  go_wp2_with fail
  refine (G3.out _).mono ?_
  rintro e w5 ⟨rfl, bb⟩
  clear c0 c1 c2 c3 c4 c5
  have A_T20 := Lib.hid (below_alloc w4 (.cells #[.int .i64 lo2, .int .i64 hi2] 24))
  have BB := Lib.hid (below_more A_T20.out bb)
  have T20 := Lib.hid ((Two.new w4 24 (.int .i64 lo2) (.int .i64 hi2)).step bb)
  have T6 := Lib.hid (T6.out.step BB.out)
  have T18 := Lib.hid (T18.out.step BB.out)
  have B := Lib.hid (below_more B.out BB.out)
  clear bb BB A_T20
  have c0 := T6.out.c0
  have c1 := T6.out.c1
  have c2 := T6.out.lt
  have c3 := T18.out.c0
  have c4 := T18.out.c1
  have c5 := T18.out.lt
  have c6 := T20.out.c0
  have c7 := T20.out.c1
  have c8 := T20.out.lt
  go_wp2_with fail
  refine (V2.out _).mono ?_
  rintro e w6 ⟨rfl, bb⟩
  clear c0 c1 c2 c3 c4 c5 c6 c7 c8
  have A_T22 := Lib.hid (below_alloc w5 (.cells #[.int .i64 lo2, .int .i64 hi2] 24))
  have BB := Lib.hid (below_more A_T22.out bb)
  have T22 := Lib.hid ((Two.new w5 24 (.int .i64 lo2) (.int .i64 hi2)).step bb)
  have T6 := Lib.hid (T6.out.step BB.out)
  have T18 := Lib.hid (T18.out.step BB.out)
  have T20 := Lib.hid (T20.out.step BB.out)
  have B := Lib.hid (below_more B.out BB.out)
  clear bb BB A_T22
  have c0 := T6.out.c0
  have c1 := T6.out.c1
  have c2 := T6.out.lt
  have c3 := T18.out.c0
  have c4 := T18.out.c1
  have c5 := T18.out.lt
  have c6 := T20.out.c0
  have c7 := T20.out.c1
  have c8 := T20.out.lt
  have c9 := T22.out.c0
  have c10 := T22.out.c1
  have c11 := T22.out.lt
  go_wp2_with fail
  refine (H.out _).mono ?_
  rintro e w7 ⟨rfl, bb⟩
  clear c0 c1 c2 c3 c4 c5 c6 c7 c8 c9 c10 c11
  have BB := Lib.hid bb
  have T6 := Lib.hid (T6.out.step BB.out)
  have T18 := Lib.hid (T18.out.step BB.out)
  have T20 := Lib.hid (T20.out.step BB.out)
  have T22 := Lib.hid (T22.out.step BB.out)
  have B := Lib.hid (below_more B.out BB.out)
  clear bb BB
  go_wp2_with fail
  go_ret
  exact ⟨rfl, B.out⟩

set_option maxHeartbeats 2000000 in
set_option maxRecDepth 100000 in
theorem grows_f3 (a b l r m n x A B C D lo hi lo2 hi2 : Int) (w : World)
    (b1 : 0 ≤ l ∧ l ≤ 18446744073709551615) (b2 : 0 ≤ r ∧ r ≤ 18446744073709551615) (b3 : 0 ≤ m ∧ m ≤ 18446744073709551615) (b4 : 0 ≤ n ∧ n ≤ 18446744073709551615)
    (b5 : -9223372036854775808 ≤ x ∧ x ≤ 9223372036854775807)
    (hA : l % 1500000000000000 = A) (hB : r % 1500000000000000 = B) (hC : m % 1500000000000000 = C) (hD : n % 1500000000000000 = D)
    (d1 : 0 ≤ A ∧ A < 1500000000000000) (d2 : 0 ≤ B ∧ B < 1500000000000000) (d3 : 0 ≤ C ∧ C < 1500000000000000) (d4 : 0 ≤ D ∧ D < 1500000000000000)
    (v1 : 0 ≤ a) (v2 : a ≤ b) (v3 : b ≤ 3000000000000000)
    (V1 : Hid (∀ W : World, Calls Try.prog 15 #[.agg #[.int .i64 a, .int .i64 b]] W (Gives (.bool true) W)))
    (V2 : Hid (∀ W : World, Calls Try.prog 14 #[.agg #[.int .i64 lo, .int .i64 hi]] W (Gives (.bool true) W)))
    (G1 : Hid (∀ W : World, Calls Try.prog 18 #[.agg #[.int .i64 a, .int .i64 b], .int .i64 A, .int .i64 B] W (Gives (.tuple #[.agg #[.int .i64 lo, .int .i64 hi], .int .i64 0]) W)))
    (G2 : Hid (∀ W : World, Calls Try.prog 18 #[.agg #[.int .i64 lo, .int .i64 hi], .int .i64 C, .int .i64 D] W (Gives (.tuple #[.agg #[.int .i64 lo2, .int .i64 hi2], .int .i64 0]) W)))
    (G3 : Hid (∀ W : World, Calls Try.prog 18 #[.agg #[.int .i64 a, .int .i64 b], .int .i64 (A + C), .int .i64 (B + D)] W (Gives (.tuple #[.agg #[.int .i64 lo2, .int .i64 hi2], .int .i64 0]) W)))
    (q1 : lo ≤ a) (q2 : b ≤ hi)
    (h0 : 0 ≤ x) (h1 : x ≤ 3000000000000000) (h2 : x < a - A)
    (H : Hid (∀ W : World, Calls Try.prog 25 #[.agg #[.int .i64 lo, .int .i64 hi], .int .i64 x] W (Gives (.bool false) W))) :
    Calls Try.prog 6 #[.agg #[.int .i64 a, .int .i64 b], .int .u64 l, .int .u64 r, .int .u64 m, .int .u64 n, .int .i64 x] w (Gives (.bool true) w) := by
  have HD := Lib.hid head_true
  obtain ⟨W0, hW0, hT6, hB0⟩ := box_one w a b
  have T6 := Lib.hid hT6
  have B0 := Lib.hid hB0
  clear hT6 hB0
  have NE := fun W => neq_iv (lo2, hi2) (lo2, hi2) W
  simp only [decide_true, Bool.not_true] at NE
  obtain ⟨b1, b1'⟩ := b1
  obtain ⟨b2, b2'⟩ := b2
  obtain ⟨b3, b3'⟩ := b3
  obtain ⟨b4, b4'⟩ := b4
  obtain ⟨b5, b5'⟩ := b5
  obtain ⟨d1, d1'⟩ := d1
  obtain ⟨d2, d2'⟩ := d2
  obtain ⟨d3, d3'⟩ := d3
  obtain ⟨d4, d4'⟩ := d4
  go_enter Try.func6, Try.ntmps6
  go_wp2_with fail
  refine (HD.out _).mono ?_
  rintro e w1 ⟨rfl, bb⟩
  have BB := Lib.hid bb
  have T6 := Lib.hid (T6.out.step BB.out)
  have B := Lib.hid (below_more B0.out BB.out)
  clear bb BB hW0 B0
  have c0 := T6.out.c0
  have c1 := T6.out.c1
  have c2 := T6.out.lt
  go_wp2_with fail
  refine (V1.out _).mono ?_
  rintro e w2 ⟨rfl, bb⟩
  clear c0 c1 c2
  have BB := Lib.hid bb
  have T6 := Lib.hid (T6.out.step BB.out)
  have B := Lib.hid (below_more B.out BB.out)
  clear bb BB
  have c0 := T6.out.c0
  have c1 := T6.out.c1
  have c2 := T6.out.lt
  go_wp2_with fail
  refine (G1.out _).mono ?_
  rintro e w3 ⟨rfl, bb⟩
  clear c0 c1 c2
  have BB := Lib.hid bb
  have T6 := Lib.hid (T6.out.step BB.out)
  have B := Lib.hid (below_more B.out BB.out)
  clear bb BB
  have c0 := T6.out.c0
  have c1 := T6.out.c1
  have c2 := T6.out.lt
  go_wp2_with fail
  refine (G2.out _).mono ?_
  rintro e w4 ⟨rfl, bb⟩
  clear c0 c1 c2
  have A_T18 := Lib.hid (below_alloc w3 (.cells #[.int .i64 lo, .int .i64 hi] 24))
  have BB := Lib.hid (below_more A_T18.out bb)
  have T18 := Lib.hid ((Two.new w3 24 (.int .i64 lo) (.int .i64 hi)).step bb)
  have T6 := Lib.hid (T6.out.step BB.out)
  have B := Lib.hid (below_more B.out BB.out)
  clear bb BB A_T18
  have c0 := T6.out.c0
  have c1 := T6.out.c1
  have c2 := T6.out.lt
  have c3 := T18.out.c0
  have c4 := T18.out.c1
  have c5 := T18.out.lt
  go_wp2_with fail
  refine (G3.out _).mono ?_
  rintro e w5 ⟨rfl, bb⟩
  clear c0 c1 c2 c3 c4 c5
  have A_T20 := Lib.hid (below_alloc w4 (.cells #[.int .i64 lo2, .int .i64 hi2] 24))
  have BB := Lib.hid (below_more A_T20.out bb)
  have T20 := Lib.hid ((Two.new w4 24 (.int .i64 lo2) (.int .i64 hi2)).step bb)
  have T6 := Lib.hid (T6.out.step BB.out)
  have T18 := Lib.hid (T18.out.step BB.out)
  have B := Lib.hid (below_more B.out BB.out)
  clear bb BB A_T20
  have c0 := T6.out.c0
  have c1 := T6.out.c1
  have c2 := T6.out.lt
  have c3 := T18.out.c0
  have c4 := T18.out.c1
  have c5 := T18.out.lt
  have c6 := T20.out.c0
  have c7 := T20.out.c1
  have c8 := T20.out.lt
  go_wp2_with fail
  refine (V2.out _).mono ?_
  rintro e w6 ⟨rfl, bb⟩
  clear c0 c1 c2 c3 c4 c5 c6 c7 c8
  have A_T22 := Lib.hid (below_alloc w5 (.cells #[.int .i64 lo2, .int .i64 hi2] 24))
  have BB := Lib.hid (below_more A_T22.out bb)
  have T22 := Lib.hid ((Two.new w5 24 (.int .i64 lo2) (.int .i64 hi2)).step bb)
  have T6 := Lib.hid (T6.out.step BB.out)
  have T18 := Lib.hid (T18.out.step BB.out)
  have T20 := Lib.hid (T20.out.step BB.out)
  have B := Lib.hid (below_more B.out BB.out)
  clear bb BB A_T22
  have c0 := T6.out.c0
  have c1 := T6.out.c1
  have c2 := T6.out.lt
  have c3 := T18.out.c0
  have c4 := T18.out.c1
  have c5 := T18.out.lt
  have c6 := T20.out.c0
  have c7 := T20.out.c1
  have c8 := T20.out.lt
  have c9 := T22.out.c0
  have c10 := T22.out.c1
  have c11 := T22.out.lt
  go_wp2_with fail
  refine (H.out _).mono ?_
  rintro e w7 ⟨rfl, bb⟩
  clear c0 c1 c2 c3 c4 c5 c6 c7 c8 c9 c10 c11
  have BB := Lib.hid bb
  have T6 := Lib.hid (T6.out.step BB.out)
  have T18 := Lib.hid (T18.out.step BB.out)
  have T20 := Lib.hid (T20.out.step BB.out)
  have T22 := Lib.hid (T22.out.step BB.out)
  have B := Lib.hid (below_more B.out BB.out)
  clear bb BB
  go_wp2_with fail
  go_ret
  exact ⟨rfl, B.out⟩

set_option maxHeartbeats 2000000 in
set_option maxRecDepth 100000 in
theorem grows_f4 (a b l r m n x A B C D lo hi lo2 hi2 : Int) (w : World)
    (b1 : 0 ≤ l ∧ l ≤ 18446744073709551615) (b2 : 0 ≤ r ∧ r ≤ 18446744073709551615) (b3 : 0 ≤ m ∧ m ≤ 18446744073709551615) (b4 : 0 ≤ n ∧ n ≤ 18446744073709551615)
    (b5 : -9223372036854775808 ≤ x ∧ x ≤ 9223372036854775807)
    (hA : l % 1500000000000000 = A) (hB : r % 1500000000000000 = B) (hC : m % 1500000000000000 = C) (hD : n % 1500000000000000 = D)
    (d1 : 0 ≤ A ∧ A < 1500000000000000) (d2 : 0 ≤ B ∧ B < 1500000000000000) (d3 : 0 ≤ C ∧ C < 1500000000000000) (d4 : 0 ≤ D ∧ D < 1500000000000000)
    (v1 : 0 ≤ a) (v2 : a ≤ b) (v3 : b ≤ 3000000000000000)
    (V1 : Hid (∀ W : World, Calls Try.prog 15 #[.agg #[.int .i64 a, .int .i64 b]] W (Gives (.bool true) W)))
    (V2 : Hid (∀ W : World, Calls Try.prog 14 #[.agg #[.int .i64 lo, .int .i64 hi]] W (Gives (.bool true) W)))
    (G1 : Hid (∀ W : World, Calls Try.prog 18 #[.agg #[.int .i64 a, .int .i64 b], .int .i64 A, .int .i64 B] W (Gives (.tuple #[.agg #[.int .i64 lo, .int .i64 hi], .int .i64 0]) W)))
    (G2 : Hid (∀ W : World, Calls Try.prog 18 #[.agg #[.int .i64 lo, .int .i64 hi], .int .i64 C, .int .i64 D] W (Gives (.tuple #[.agg #[.int .i64 lo2, .int .i64 hi2], .int .i64 0]) W)))
    (G3 : Hid (∀ W : World, Calls Try.prog 18 #[.agg #[.int .i64 a, .int .i64 b], .int .i64 (A + C), .int .i64 (B + D)] W (Gives (.tuple #[.agg #[.int .i64 lo2, .int .i64 hi2], .int .i64 0]) W)))
    (q1 : lo ≤ a) (q2 : b ≤ hi)
    (h0 : 0 ≤ x) (h1 : x ≤ 3000000000000000) (h2 : a - A ≤ x) (h3 : b + B < x)
    (H : Hid (∀ W : World, Calls Try.prog 25 #[.agg #[.int .i64 lo, .int .i64 hi], .int .i64 x] W (Gives (.bool false) W))) :
    Calls Try.prog 6 #[.agg #[.int .i64 a, .int .i64 b], .int .u64 l, .int .u64 r, .int .u64 m, .int .u64 n, .int .i64 x] w (Gives (.bool true) w) := by
  have HD := Lib.hid head_true
  obtain ⟨W0, hW0, hT6, hB0⟩ := box_one w a b
  have T6 := Lib.hid hT6
  have B0 := Lib.hid hB0
  clear hT6 hB0
  have NE := fun W => neq_iv (lo2, hi2) (lo2, hi2) W
  simp only [decide_true, Bool.not_true] at NE
  obtain ⟨b1, b1'⟩ := b1
  obtain ⟨b2, b2'⟩ := b2
  obtain ⟨b3, b3'⟩ := b3
  obtain ⟨b4, b4'⟩ := b4
  obtain ⟨b5, b5'⟩ := b5
  obtain ⟨d1, d1'⟩ := d1
  obtain ⟨d2, d2'⟩ := d2
  obtain ⟨d3, d3'⟩ := d3
  obtain ⟨d4, d4'⟩ := d4
  go_enter Try.func6, Try.ntmps6
  go_wp2_with fail
  refine (HD.out _).mono ?_
  rintro e w1 ⟨rfl, bb⟩
  have BB := Lib.hid bb
  have T6 := Lib.hid (T6.out.step BB.out)
  have B := Lib.hid (below_more B0.out BB.out)
  clear bb BB hW0 B0
  have c0 := T6.out.c0
  have c1 := T6.out.c1
  have c2 := T6.out.lt
  go_wp2_with fail
  refine (V1.out _).mono ?_
  rintro e w2 ⟨rfl, bb⟩
  clear c0 c1 c2
  have BB := Lib.hid bb
  have T6 := Lib.hid (T6.out.step BB.out)
  have B := Lib.hid (below_more B.out BB.out)
  clear bb BB
  have c0 := T6.out.c0
  have c1 := T6.out.c1
  have c2 := T6.out.lt
  go_wp2_with fail
  refine (G1.out _).mono ?_
  rintro e w3 ⟨rfl, bb⟩
  clear c0 c1 c2
  have BB := Lib.hid bb
  have T6 := Lib.hid (T6.out.step BB.out)
  have B := Lib.hid (below_more B.out BB.out)
  clear bb BB
  have c0 := T6.out.c0
  have c1 := T6.out.c1
  have c2 := T6.out.lt
  go_wp2_with fail
  refine (G2.out _).mono ?_
  rintro e w4 ⟨rfl, bb⟩
  clear c0 c1 c2
  have A_T18 := Lib.hid (below_alloc w3 (.cells #[.int .i64 lo, .int .i64 hi] 24))
  have BB := Lib.hid (below_more A_T18.out bb)
  have T18 := Lib.hid ((Two.new w3 24 (.int .i64 lo) (.int .i64 hi)).step bb)
  have T6 := Lib.hid (T6.out.step BB.out)
  have B := Lib.hid (below_more B.out BB.out)
  clear bb BB A_T18
  have c0 := T6.out.c0
  have c1 := T6.out.c1
  have c2 := T6.out.lt
  have c3 := T18.out.c0
  have c4 := T18.out.c1
  have c5 := T18.out.lt
  go_wp2_with fail
  refine (G3.out _).mono ?_
  rintro e w5 ⟨rfl, bb⟩
  clear c0 c1 c2 c3 c4 c5
  have A_T20 := Lib.hid (below_alloc w4 (.cells #[.int .i64 lo2, .int .i64 hi2] 24))
  have BB := Lib.hid (below_more A_T20.out bb)
  have T20 := Lib.hid ((Two.new w4 24 (.int .i64 lo2) (.int .i64 hi2)).step bb)
  have T6 := Lib.hid (T6.out.step BB.out)
  have T18 := Lib.hid (T18.out.step BB.out)
  have B := Lib.hid (below_more B.out BB.out)
  clear bb BB A_T20
  have c0 := T6.out.c0
  have c1 := T6.out.c1
  have c2 := T6.out.lt
  have c3 := T18.out.c0
  have c4 := T18.out.c1
  have c5 := T18.out.lt
  have c6 := T20.out.c0
  have c7 := T20.out.c1
  have c8 := T20.out.lt
  go_wp2_with fail
  refine (V2.out _).mono ?_
  rintro e w6 ⟨rfl, bb⟩
  clear c0 c1 c2 c3 c4 c5 c6 c7 c8
  have A_T22 := Lib.hid (below_alloc w5 (.cells #[.int .i64 lo2, .int .i64 hi2] 24))
  have BB := Lib.hid (below_more A_T22.out bb)
  have T22 := Lib.hid ((Two.new w5 24 (.int .i64 lo2) (.int .i64 hi2)).step bb)
  have T6 := Lib.hid (T6.out.step BB.out)
  have T18 := Lib.hid (T18.out.step BB.out)
  have T20 := Lib.hid (T20.out.step BB.out)
  have B := Lib.hid (below_more B.out BB.out)
  clear bb BB A_T22
  have c0 := T6.out.c0
  have c1 := T6.out.c1
  have c2 := T6.out.lt
  have c3 := T18.out.c0
  have c4 := T18.out.c1
  have c5 := T18.out.lt
  have c6 := T20.out.c0
  have c7 := T20.out.c1
  have c8 := T20.out.lt
  have c9 := T22.out.c0
  have c10 := T22.out.c1
  have c11 := T22.out.lt
  go_wp2_with fail
  refine (H.out _).mono ?_
  rintro e w7 ⟨rfl, bb⟩
  clear c0 c1 c2 c3 c4 c5 c6 c7 c8 c9 c10 c11
  have BB := Lib.hid bb
  have T6 := Lib.hid (T6.out.step BB.out)
  have T18 := Lib.hid (T18.out.step BB.out)
  have T20 := Lib.hid (T20.out.step BB.out)
  have T22 := Lib.hid (T22.out.step BB.out)
  have B := Lib.hid (below_more B.out BB.out)
  clear bb BB
  go_wp2_with fail
  go_ret
  exact ⟨ret_bool (by simp; omega), B.out⟩


theorem grows_no (a b l r m n x : Int) (w : World) (V1 : Hid (∀ W : World, Calls Try.prog 15 #[.agg #[.int .i64 a, .int .i64 b]] W (Gives (.bool false) W))) :
    Calls Try.prog 6 #[.agg #[.int .i64 a, .int .i64 b], .int .u64 l, .int .u64 r, .int .u64 m, .int .u64 n, .int .i64 x] w (Gives (.bool true) w) := by
  have HD := Lib.hid head_true
  obtain ⟨W0, hW0, hT6, hB0⟩ := box_one w a b
  have T6 := Lib.hid hT6
  have B0 := Lib.hid hB0
  clear hT6 hB0
  go_enter Try.func6, Try.ntmps6
  go_wp2_with fail
  refine (HD.out _).mono ?_
  rintro e w1 ⟨rfl, bb⟩
  have BB := Lib.hid bb
  have T6 := Lib.hid (T6.out.step BB.out)
  have B := Lib.hid (below_more B0.out BB.out)
  clear bb BB hW0 B0
  have c0 := T6.out.c0
  have c1 := T6.out.c1
  have c2 := T6.out.lt
  go_wp2_with fail
  refine (V1.out _).mono ?_
  rintro e w2 ⟨rfl, bb⟩
  clear c0 c1 c2
  have BB := Lib.hid bb
  have T6 := Lib.hid (T6.out.step BB.out)
  have B := Lib.hid (below_more B.out BB.out)
  clear bb BB
  go_wp2_with fail
  go_ret
  exact ⟨rfl, B.out⟩

theorem grows_facts (a b A B C D x : Int) (v1 : 0 ≤ a) (v2 : a ≤ b) (v3 : b ≤ 3000000000000000) (d1 : 0 ≤ A ∧ A < 1500000000000000) (d2 : 0 ≤ B ∧ B < 1500000000000000) (d3 : 0 ≤ C ∧ C < 1500000000000000) (d4 : 0 ≤ D ∧ D < 1500000000000000) :
    ∃ lo hi lo2 hi2, growR (a, b) A B = ((lo, hi), 0) ∧ growR (lo, hi) C D = ((lo2, hi2), 0) ∧ growR (a, b) (A + C) (B + D) = ((lo2, hi2), 0) ∧ lo ≤ a ∧ b ≤ hi ∧ validB (lo, hi) = true ∧ lo = max (a - A) 0 ∧ hi = min (b + B) 3000000000000000 := by
  have hv : validB (a, b) = true := by simp [validB]; omega
  have hv2 : validB (max (a - A) 0, min (b + B) 3000000000000000) = true := by simp [validB]; omega
  have tA : timeB A = true := by simp [timeB]; omega
  have tB : timeB B = true := by simp [timeB]; omega
  have tC : timeB C = true := by simp [timeB]; omega
  have tD : timeB D = true := by simp [timeB]; omega
  have tAC : timeB (A + C) = true := by simp [timeB]; omega
  have tBD : timeB (B + D) = true := by simp [timeB]; omega
  refine ⟨max (a - A) 0, min (b + B) 3000000000000000, _, _, by rw [growR, if_pos ⟨hv, tA, tB⟩], by rw [growR, if_pos ⟨hv2, tC, tD⟩], ?_, by omega, by omega, hv2, rfl, rfl⟩
  rw [growR, if_pos ⟨hv, tAC, tBD⟩]
  simp only [Prod.mk.injEq, and_true]
  omega

theorem grows_true (a b l r m n x : Int) (w : World) (w1 : (Lit.int .u64 l).wf = true) (w2 : (Lit.int .u64 r).wf = true) (w3 : (Lit.int .u64 m).wf = true) (w4 : (Lit.int .u64 n).wf = true) (w5 : -9223372036854775808 ≤ x ∧ x ≤ 9223372036854775807) :
    Calls Try.prog 6 #[.agg #[.int .i64 a, .int .i64 b], .int .u64 l, .int .u64 r, .int .u64 m, .int .u64 n, .int .i64 x] w (Gives (.bool true) w) := by
  have V1 := rvalid_any a b
  cases hv : validB (a, b) with
  | false => rw [hv] at V1; exact grows_no a b l r m n x w V1
  | true =>
    rw [hv] at V1
    obtain ⟨v1, v2, v3⟩ := validB_yes hv
    simp only at v1 v2 v3
    have d1 : 0 ≤ l % 1500000000000000 ∧ l % 1500000000000000 < 1500000000000000 := by omega
    have d2 : 0 ≤ r % 1500000000000000 ∧ r % 1500000000000000 < 1500000000000000 := by omega
    have d3 : 0 ≤ m % 1500000000000000 ∧ m % 1500000000000000 < 1500000000000000 := by omega
    have d4 : 0 ≤ n % 1500000000000000 ∧ n % 1500000000000000 < 1500000000000000 := by omega
    obtain ⟨lo, hi, lo2, hi2, g1, g2, g3, q1, q2, hv2, e1, e2⟩ := grows_facts a b (l % 1500000000000000) (r % 1500000000000000) (m % 1500000000000000) (n % 1500000000000000) x v1 v2 v3 d1 d2 d3 d4
    have G1 := fun W => grow_any a b (l % 1500000000000000) (r % 1500000000000000) W
    have G2 := fun W => grow_any lo hi (m % 1500000000000000) (n % 1500000000000000) W
    have G3 := fun W => grow_any a b (l % 1500000000000000 + m % 1500000000000000) (r % 1500000000000000 + n % 1500000000000000) W
    simp only [g1, g2, g3, ivV] at G1 G2 G3
    have V2 := valid_any lo hi
    rw [hv2] at V2
    have H := rhas_any lo hi x
    by_cases h0 : 0 ≤ x
    · by_cases h1 : x ≤ 3000000000000000
      · by_cases h2 : a - l % 1500000000000000 ≤ x
        · by_cases h3 : x ≤ b + r % 1500000000000000
          · have hr : inB (lo, hi) x = true := by simp [inB]; omega
            rw [hr] at H
            exact grows_t a b l r m n x _ _ _ _ lo hi lo2 hi2 w (u64_wf w1) (u64_wf w2) (u64_wf w3) (u64_wf w4) w5 rfl rfl rfl rfl d1 d2 d3 d4 v1 v2 v3 V1 V2 G1 G2 G3 q1 q2 h0 h1 h2 h3 H
          · have hr : inB (lo, hi) x = false := by simp [inB]; omega
            rw [hr] at H
            exact grows_f4 a b l r m n x _ _ _ _ lo hi lo2 hi2 w (u64_wf w1) (u64_wf w2) (u64_wf w3) (u64_wf w4) w5 rfl rfl rfl rfl d1 d2 d3 d4 v1 v2 v3 V1 V2 G1 G2 G3 q1 q2 h0 h1 h2 (by omega) H
        · have hr : inB (lo, hi) x = false := by simp [inB]; omega
          rw [hr] at H
          exact grows_f3 a b l r m n x _ _ _ _ lo hi lo2 hi2 w (u64_wf w1) (u64_wf w2) (u64_wf w3) (u64_wf w4) w5 rfl rfl rfl rfl d1 d2 d3 d4 v1 v2 v3 V1 V2 G1 G2 G3 q1 q2 h0 h1 (by omega) H
      · have hr : inB (lo, hi) x = false := by simp [inB]; omega
        rw [hr] at H
        exact grows_f2 a b l r m n x _ _ _ _ lo hi lo2 hi2 w (u64_wf w1) (u64_wf w2) (u64_wf w3) (u64_wf w4) w5 rfl rfl rfl rfl d1 d2 d3 d4 v1 v2 v3 V1 V2 G1 G2 G3 q1 q2 h0 (by omega) H
    · have hr : inB (lo, hi) x = false := by simp [inB]; omega
      rw [hr] at H
      exact grows_f1 a b l r m n x _ _ _ _ lo hi lo2 hi2 w (u64_wf w1) (u64_wf w2) (u64_wf w3) (u64_wf w4) w5 rfl rfl rfl rfl d1 d2 d3 d4 v1 v2 v3 V1 V2 G1 G2 G3 q1 q2 (by omega) H

theorem i64_wf {x : Int} (h : (Lit.int .i64 x).wf = true) : -9223372036854775808 ≤ x ∧ x ≤ 9223372036854775807 := by
  have e1 : IntKind.i64.min = -9223372036854775808 := by decide
  have e2 : IntKind.i64.max = 9223372036854775807 := by decide
  simp [Lit.wf, e1, e2] at h; omega
theorem grows_law (a b l r m n x : Int) (w : World) (w1 : (Lit.int .u64 l).wf = true) (w2 : (Lit.int .u64 r).wf = true) (w3 : (Lit.int .u64 m).wf = true) (w4 : (Lit.int .u64 n).wf = true) (w5 : (Lit.int .i64 x).wf = true) :
    Calls Try.prog 6 #[.agg #[.int .i64 a, .int .i64 b], .int .u64 l, .int .u64 r, .int .u64 m, .int .u64 n, .int .i64 x] w (Gives (.bool true) w) := grows_true a b l r m n x w w1 w2 w3 w4 (i64_wf w5)
end Go.Proofs.Ytpooifjieoijjaa

