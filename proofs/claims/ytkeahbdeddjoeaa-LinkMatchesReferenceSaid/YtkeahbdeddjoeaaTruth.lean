/- Layer 10: LinkTruth (gen/gen_laws.py writes this). -/
import Derived.Test.YtkeahbdeddjoeaaNMath
namespace Go.Proofs.Ytkeahbdeddjoeaa
open Go.RowKit Go
set_option linter.unusedVariables false
set_option linter.unusedSimpArgs false

set_option maxRecDepth 100000 in
set_option maxHeartbeats 16000000 in
theorem truth_walk (G : Lnk) (t a b c d s o k x y u v : Int) (hs : (Ch.mk t a b c d).Int64) (is : I64 s) (io : I64 o) (ik : I64 k) (ix : I64 x) (iy : I64 y) (iu : I64 u) (iv : I64 v) (w : World) :
    Calls Try.prog 4 #[chV ⟨t, a, b, c, d⟩, .int .i64 s, .int .i64 o, .int .i64 k, .int .i64 x, .int .i64 y, .int .i64 u, .int .i64 v] w (Gives (.bool true) w) := by
  have HD := Lib.hid (head_true G)
  by_cases q1 : (Ch.mk t a b c d).Form
  case neg =>
    have FO := Lib.hid (rform_any ⟨t, a, b, c, d⟩ false ⟨fun h => (by cases h), fun h => absurd h q1⟩)
    clear q1 G hs is io ik ix iy iu iv
    unfold chV at FO
    dsimp only at FO
    unfold chV
    dsimp only
    obtain ⟨W, hW⟩ : ∃ W, (w.alloc (.cells #[.int .i64 t, .int .i64 a, .int .i64 b, .int .i64 c, .int .i64 d] 24)) = W := ⟨_, rfl⟩
    have C : Hid (Five W (w.heap.size) 24 (.int .i64 t) (.int .i64 a) (.int .i64 b) (.int .i64 c) (.int .i64 d)) := by
      rw [← hW]
      have k := Five.new w 24 (.int .i64 t) (.int .i64 a) (.int .i64 b) (.int .i64 c) (.int .i64 d)
      exact k
    have BB : Hid (Below w.heap.size w W) := by rw [← hW]; exact below_alloc w _
    have c_0 := C.out.c0
    have c_1 := C.out.c1
    have c_2 := C.out.c2
    have c_3 := C.out.c3
    have c_4 := C.out.c4
    have c_l := C.out.lt
    go_enter Try.func4, Try.ntmps4
    go_wp2_with (first
      | (go_at_call 9; (with_reducible refine (HD.out _).mono ?_); rintro e w1 ⟨rfl, b1⟩; replace C := Lib.hid (C.out.below b1 C.out.lt); replace BB := Lib.hid (below_more BB.out b1); replace c_0 := C.out.c0; replace c_1 := C.out.c1; replace c_2 := C.out.c2; replace c_3 := C.out.c3; replace c_4 := C.out.c4; replace c_l := C.out.lt; clear b1 HD)
      | (go_at_call 21; (with_reducible refine (FO.out _).mono ?_); rintro e w2 ⟨rfl, b2⟩; replace C := Lib.hid (C.out.below b2 C.out.lt); replace BB := Lib.hid (below_more BB.out b2); replace c_0 := C.out.c0; replace c_1 := C.out.c1; replace c_2 := C.out.c2; replace c_3 := C.out.c3; replace c_4 := C.out.c4; replace c_l := C.out.lt; clear b2 FO))
    go_ret
    exact ⟨by simp, BB.out⟩
  have FO := Lib.hid (rform_any ⟨t, a, b, c, d⟩ true ⟨fun _ => q1, fun _ => rfl⟩)
  have Q1 := Lib.hid q1
  obtain ⟨⟨a1, a2, a3⟩, c1, c2, c3⟩ := q1
  dsimp only at a1 a2 a3 c1 c2 c3
  unfold chV at FO
  dsimp only at FO
  by_cases g1 : o < a
  · have dg1 : decide (o < a) = true := by simp; omega
    clear G hs is io ik ix iy iu iv Q1
    unfold chV
    dsimp only
    obtain ⟨W, hW⟩ : ∃ W, (w.alloc (.cells #[.int .i64 t, .int .i64 a, .int .i64 b, .int .i64 c, .int .i64 d] 24)) = W := ⟨_, rfl⟩
    have C : Hid (Five W (w.heap.size) 24 (.int .i64 t) (.int .i64 a) (.int .i64 b) (.int .i64 c) (.int .i64 d)) := by
      rw [← hW]
      have k := Five.new w 24 (.int .i64 t) (.int .i64 a) (.int .i64 b) (.int .i64 c) (.int .i64 d)
      exact k
    have BB : Hid (Below w.heap.size w W) := by rw [← hW]; exact below_alloc w _
    have c_0 := C.out.c0
    have c_1 := C.out.c1
    have c_2 := C.out.c2
    have c_3 := C.out.c3
    have c_4 := C.out.c4
    have c_l := C.out.lt
    go_enter Try.func4, Try.ntmps4
    go_wp2_with (first
      | (go_at_call 9; (with_reducible refine (HD.out _).mono ?_); rintro e w1 ⟨rfl, b1⟩; replace C := Lib.hid (C.out.below b1 C.out.lt); replace BB := Lib.hid (below_more BB.out b1); replace c_0 := C.out.c0; replace c_1 := C.out.c1; replace c_2 := C.out.c2; replace c_3 := C.out.c3; replace c_4 := C.out.c4; replace c_l := C.out.lt; clear b1 HD)
      | (go_at_call 21; (with_reducible refine (FO.out _).mono ?_); rintro e w2 ⟨rfl, b2⟩; replace C := Lib.hid (C.out.below b2 C.out.lt); replace BB := Lib.hid (below_more BB.out b2); replace c_0 := C.out.c0; replace c_1 := C.out.c1; replace c_2 := C.out.c2; replace c_3 := C.out.c3; replace c_4 := C.out.c4; replace c_l := C.out.lt; clear b2 FO))
    go_ret
    exact ⟨by simp, BB.out⟩
  have dg1 : decide (o < a) = false := by simp; omega
  by_cases g2 : b < o
  · have dg2 : decide (b < o) = true := by simp; omega
    clear G hs is io ik ix iy iu iv Q1
    unfold chV
    dsimp only
    obtain ⟨W, hW⟩ : ∃ W, (w.alloc (.cells #[.int .i64 t, .int .i64 a, .int .i64 b, .int .i64 c, .int .i64 d] 24)) = W := ⟨_, rfl⟩
    have C : Hid (Five W (w.heap.size) 24 (.int .i64 t) (.int .i64 a) (.int .i64 b) (.int .i64 c) (.int .i64 d)) := by
      rw [← hW]
      have k := Five.new w 24 (.int .i64 t) (.int .i64 a) (.int .i64 b) (.int .i64 c) (.int .i64 d)
      exact k
    have BB : Hid (Below w.heap.size w W) := by rw [← hW]; exact below_alloc w _
    have c_0 := C.out.c0
    have c_1 := C.out.c1
    have c_2 := C.out.c2
    have c_3 := C.out.c3
    have c_4 := C.out.c4
    have c_l := C.out.lt
    go_enter Try.func4, Try.ntmps4
    go_wp2_with (first
      | (go_at_call 9; (with_reducible refine (HD.out _).mono ?_); rintro e w1 ⟨rfl, b1⟩; replace C := Lib.hid (C.out.below b1 C.out.lt); replace BB := Lib.hid (below_more BB.out b1); replace c_0 := C.out.c0; replace c_1 := C.out.c1; replace c_2 := C.out.c2; replace c_3 := C.out.c3; replace c_4 := C.out.c4; replace c_l := C.out.lt; clear b1 HD)
      | (go_at_call 21; (with_reducible refine (FO.out _).mono ?_); rintro e w2 ⟨rfl, b2⟩; replace C := Lib.hid (C.out.below b2 C.out.lt); replace BB := Lib.hid (below_more BB.out b2); replace c_0 := C.out.c0; replace c_1 := C.out.c1; replace c_2 := C.out.c2; replace c_3 := C.out.c3; replace c_4 := C.out.c4; replace c_l := C.out.lt; clear b2 FO))
    go_ret
    exact ⟨by simp, BB.out⟩
  have dg2 : decide (b < o) = false := by simp; omega
  by_cases g3 : k < c
  · have dg3 : decide (k < c) = true := by simp; omega
    clear G hs is io ik ix iy iu iv Q1
    unfold chV
    dsimp only
    obtain ⟨W, hW⟩ : ∃ W, (w.alloc (.cells #[.int .i64 t, .int .i64 a, .int .i64 b, .int .i64 c, .int .i64 d] 24)) = W := ⟨_, rfl⟩
    have C : Hid (Five W (w.heap.size) 24 (.int .i64 t) (.int .i64 a) (.int .i64 b) (.int .i64 c) (.int .i64 d)) := by
      rw [← hW]
      have k := Five.new w 24 (.int .i64 t) (.int .i64 a) (.int .i64 b) (.int .i64 c) (.int .i64 d)
      exact k
    have BB : Hid (Below w.heap.size w W) := by rw [← hW]; exact below_alloc w _
    have c_0 := C.out.c0
    have c_1 := C.out.c1
    have c_2 := C.out.c2
    have c_3 := C.out.c3
    have c_4 := C.out.c4
    have c_l := C.out.lt
    go_enter Try.func4, Try.ntmps4
    go_wp2_with (first
      | (go_at_call 9; (with_reducible refine (HD.out _).mono ?_); rintro e w1 ⟨rfl, b1⟩; replace C := Lib.hid (C.out.below b1 C.out.lt); replace BB := Lib.hid (below_more BB.out b1); replace c_0 := C.out.c0; replace c_1 := C.out.c1; replace c_2 := C.out.c2; replace c_3 := C.out.c3; replace c_4 := C.out.c4; replace c_l := C.out.lt; clear b1 HD)
      | (go_at_call 21; (with_reducible refine (FO.out _).mono ?_); rintro e w2 ⟨rfl, b2⟩; replace C := Lib.hid (C.out.below b2 C.out.lt); replace BB := Lib.hid (below_more BB.out b2); replace c_0 := C.out.c0; replace c_1 := C.out.c1; replace c_2 := C.out.c2; replace c_3 := C.out.c3; replace c_4 := C.out.c4; replace c_l := C.out.lt; clear b2 FO))
    go_ret
    exact ⟨by simp, BB.out⟩
  have dg3 : decide (k < c) = false := by simp; omega
  by_cases g4 : d < k
  · have dg4 : decide (d < k) = true := by simp; omega
    clear G hs is io ik ix iy iu iv Q1
    unfold chV
    dsimp only
    obtain ⟨W, hW⟩ : ∃ W, (w.alloc (.cells #[.int .i64 t, .int .i64 a, .int .i64 b, .int .i64 c, .int .i64 d] 24)) = W := ⟨_, rfl⟩
    have C : Hid (Five W (w.heap.size) 24 (.int .i64 t) (.int .i64 a) (.int .i64 b) (.int .i64 c) (.int .i64 d)) := by
      rw [← hW]
      have k := Five.new w 24 (.int .i64 t) (.int .i64 a) (.int .i64 b) (.int .i64 c) (.int .i64 d)
      exact k
    have BB : Hid (Below w.heap.size w W) := by rw [← hW]; exact below_alloc w _
    have c_0 := C.out.c0
    have c_1 := C.out.c1
    have c_2 := C.out.c2
    have c_3 := C.out.c3
    have c_4 := C.out.c4
    have c_l := C.out.lt
    go_enter Try.func4, Try.ntmps4
    go_wp2_with (first
      | (go_at_call 9; (with_reducible refine (HD.out _).mono ?_); rintro e w1 ⟨rfl, b1⟩; replace C := Lib.hid (C.out.below b1 C.out.lt); replace BB := Lib.hid (below_more BB.out b1); replace c_0 := C.out.c0; replace c_1 := C.out.c1; replace c_2 := C.out.c2; replace c_3 := C.out.c3; replace c_4 := C.out.c4; replace c_l := C.out.lt; clear b1 HD)
      | (go_at_call 21; (with_reducible refine (FO.out _).mono ?_); rintro e w2 ⟨rfl, b2⟩; replace C := Lib.hid (C.out.below b2 C.out.lt); replace BB := Lib.hid (below_more BB.out b2); replace c_0 := C.out.c0; replace c_1 := C.out.c1; replace c_2 := C.out.c2; replace c_3 := C.out.c3; replace c_4 := C.out.c4; replace c_l := C.out.lt; clear b2 FO))
    go_ret
    exact ⟨by simp, BB.out⟩
  have dg4 : decide (d < k) = false := by simp; omega
  by_cases g5 : s < 0
  · have dg5 : decide (s < 0) = true := by simp; omega
    clear G hs is io ik ix iy iu iv Q1
    unfold chV
    dsimp only
    obtain ⟨W, hW⟩ : ∃ W, (w.alloc (.cells #[.int .i64 t, .int .i64 a, .int .i64 b, .int .i64 c, .int .i64 d] 24)) = W := ⟨_, rfl⟩
    have C : Hid (Five W (w.heap.size) 24 (.int .i64 t) (.int .i64 a) (.int .i64 b) (.int .i64 c) (.int .i64 d)) := by
      rw [← hW]
      have k := Five.new w 24 (.int .i64 t) (.int .i64 a) (.int .i64 b) (.int .i64 c) (.int .i64 d)
      exact k
    have BB : Hid (Below w.heap.size w W) := by rw [← hW]; exact below_alloc w _
    have c_0 := C.out.c0
    have c_1 := C.out.c1
    have c_2 := C.out.c2
    have c_3 := C.out.c3
    have c_4 := C.out.c4
    have c_l := C.out.lt
    go_enter Try.func4, Try.ntmps4
    go_wp2_with (first
      | (go_at_call 9; (with_reducible refine (HD.out _).mono ?_); rintro e w1 ⟨rfl, b1⟩; replace C := Lib.hid (C.out.below b1 C.out.lt); replace BB := Lib.hid (below_more BB.out b1); replace c_0 := C.out.c0; replace c_1 := C.out.c1; replace c_2 := C.out.c2; replace c_3 := C.out.c3; replace c_4 := C.out.c4; replace c_l := C.out.lt; clear b1 HD)
      | (go_at_call 21; (with_reducible refine (FO.out _).mono ?_); rintro e w2 ⟨rfl, b2⟩; replace C := Lib.hid (C.out.below b2 C.out.lt); replace BB := Lib.hid (below_more BB.out b2); replace c_0 := C.out.c0; replace c_1 := C.out.c1; replace c_2 := C.out.c2; replace c_3 := C.out.c3; replace c_4 := C.out.c4; replace c_l := C.out.lt; clear b2 FO))
    go_ret
    exact ⟨by simp, BB.out⟩
  have dg5 : decide (s < 0) = false := by simp; omega
  by_cases g6 : 2999999998000000 < s
  · have dg6 : decide (2999999998000000 < s) = true := by simp; omega
    clear G hs is io ik ix iy iu iv Q1
    unfold chV
    dsimp only
    obtain ⟨W, hW⟩ : ∃ W, (w.alloc (.cells #[.int .i64 t, .int .i64 a, .int .i64 b, .int .i64 c, .int .i64 d] 24)) = W := ⟨_, rfl⟩
    have C : Hid (Five W (w.heap.size) 24 (.int .i64 t) (.int .i64 a) (.int .i64 b) (.int .i64 c) (.int .i64 d)) := by
      rw [← hW]
      have k := Five.new w 24 (.int .i64 t) (.int .i64 a) (.int .i64 b) (.int .i64 c) (.int .i64 d)
      exact k
    have BB : Hid (Below w.heap.size w W) := by rw [← hW]; exact below_alloc w _
    have c_0 := C.out.c0
    have c_1 := C.out.c1
    have c_2 := C.out.c2
    have c_3 := C.out.c3
    have c_4 := C.out.c4
    have c_l := C.out.lt
    go_enter Try.func4, Try.ntmps4
    go_wp2_with (first
      | (go_at_call 9; (with_reducible refine (HD.out _).mono ?_); rintro e w1 ⟨rfl, b1⟩; replace C := Lib.hid (C.out.below b1 C.out.lt); replace BB := Lib.hid (below_more BB.out b1); replace c_0 := C.out.c0; replace c_1 := C.out.c1; replace c_2 := C.out.c2; replace c_3 := C.out.c3; replace c_4 := C.out.c4; replace c_l := C.out.lt; clear b1 HD)
      | (go_at_call 21; (with_reducible refine (FO.out _).mono ?_); rintro e w2 ⟨rfl, b2⟩; replace C := Lib.hid (C.out.below b2 C.out.lt); replace BB := Lib.hid (below_more BB.out b2); replace c_0 := C.out.c0; replace c_1 := C.out.c1; replace c_2 := C.out.c2; replace c_3 := C.out.c3; replace c_4 := C.out.c4; replace c_l := C.out.lt; clear b2 FO))
    go_ret
    exact ⟨by simp, BB.out⟩
  have dg6 : decide (2999999998000000 < s) = false := by simp; omega
  by_cases g7 : x < 0
  · have dg7 : decide (x < 0) = true := by simp; omega
    clear G hs is io ik ix iy iu iv Q1
    unfold chV
    dsimp only
    obtain ⟨W, hW⟩ : ∃ W, (w.alloc (.cells #[.int .i64 t, .int .i64 a, .int .i64 b, .int .i64 c, .int .i64 d] 24)) = W := ⟨_, rfl⟩
    have C : Hid (Five W (w.heap.size) 24 (.int .i64 t) (.int .i64 a) (.int .i64 b) (.int .i64 c) (.int .i64 d)) := by
      rw [← hW]
      have k := Five.new w 24 (.int .i64 t) (.int .i64 a) (.int .i64 b) (.int .i64 c) (.int .i64 d)
      exact k
    have BB : Hid (Below w.heap.size w W) := by rw [← hW]; exact below_alloc w _
    have c_0 := C.out.c0
    have c_1 := C.out.c1
    have c_2 := C.out.c2
    have c_3 := C.out.c3
    have c_4 := C.out.c4
    have c_l := C.out.lt
    go_enter Try.func4, Try.ntmps4
    go_wp2_with (first
      | (go_at_call 9; (with_reducible refine (HD.out _).mono ?_); rintro e w1 ⟨rfl, b1⟩; replace C := Lib.hid (C.out.below b1 C.out.lt); replace BB := Lib.hid (below_more BB.out b1); replace c_0 := C.out.c0; replace c_1 := C.out.c1; replace c_2 := C.out.c2; replace c_3 := C.out.c3; replace c_4 := C.out.c4; replace c_l := C.out.lt; clear b1 HD)
      | (go_at_call 21; (with_reducible refine (FO.out _).mono ?_); rintro e w2 ⟨rfl, b2⟩; replace C := Lib.hid (C.out.below b2 C.out.lt); replace BB := Lib.hid (below_more BB.out b2); replace c_0 := C.out.c0; replace c_1 := C.out.c1; replace c_2 := C.out.c2; replace c_3 := C.out.c3; replace c_4 := C.out.c4; replace c_l := C.out.lt; clear b2 FO))
    go_ret
    exact ⟨by simp, BB.out⟩
  have dg7 : decide (x < 0) = false := by simp; omega
  by_cases g8 : s < x
  · have dg8 : decide (s < x) = true := by simp; omega
    clear G hs is io ik ix iy iu iv Q1
    unfold chV
    dsimp only
    obtain ⟨W, hW⟩ : ∃ W, (w.alloc (.cells #[.int .i64 t, .int .i64 a, .int .i64 b, .int .i64 c, .int .i64 d] 24)) = W := ⟨_, rfl⟩
    have C : Hid (Five W (w.heap.size) 24 (.int .i64 t) (.int .i64 a) (.int .i64 b) (.int .i64 c) (.int .i64 d)) := by
      rw [← hW]
      have k := Five.new w 24 (.int .i64 t) (.int .i64 a) (.int .i64 b) (.int .i64 c) (.int .i64 d)
      exact k
    have BB : Hid (Below w.heap.size w W) := by rw [← hW]; exact below_alloc w _
    have c_0 := C.out.c0
    have c_1 := C.out.c1
    have c_2 := C.out.c2
    have c_3 := C.out.c3
    have c_4 := C.out.c4
    have c_l := C.out.lt
    go_enter Try.func4, Try.ntmps4
    go_wp2_with (first
      | (go_at_call 9; (with_reducible refine (HD.out _).mono ?_); rintro e w1 ⟨rfl, b1⟩; replace C := Lib.hid (C.out.below b1 C.out.lt); replace BB := Lib.hid (below_more BB.out b1); replace c_0 := C.out.c0; replace c_1 := C.out.c1; replace c_2 := C.out.c2; replace c_3 := C.out.c3; replace c_4 := C.out.c4; replace c_l := C.out.lt; clear b1 HD)
      | (go_at_call 21; (with_reducible refine (FO.out _).mono ?_); rintro e w2 ⟨rfl, b2⟩; replace C := Lib.hid (C.out.below b2 C.out.lt); replace BB := Lib.hid (below_more BB.out b2); replace c_0 := C.out.c0; replace c_1 := C.out.c1; replace c_2 := C.out.c2; replace c_3 := C.out.c3; replace c_4 := C.out.c4; replace c_l := C.out.lt; clear b2 FO))
    go_ret
    exact ⟨by simp, BB.out⟩
  have dg8 : decide (s < x) = false := by simp; omega
  by_cases g9 : y < 0
  · have dg9 : decide (y < 0) = true := by simp; omega
    clear G hs is io ik ix iy iu iv Q1
    unfold chV
    dsimp only
    obtain ⟨W, hW⟩ : ∃ W, (w.alloc (.cells #[.int .i64 t, .int .i64 a, .int .i64 b, .int .i64 c, .int .i64 d] 24)) = W := ⟨_, rfl⟩
    have C : Hid (Five W (w.heap.size) 24 (.int .i64 t) (.int .i64 a) (.int .i64 b) (.int .i64 c) (.int .i64 d)) := by
      rw [← hW]
      have k := Five.new w 24 (.int .i64 t) (.int .i64 a) (.int .i64 b) (.int .i64 c) (.int .i64 d)
      exact k
    have BB : Hid (Below w.heap.size w W) := by rw [← hW]; exact below_alloc w _
    have c_0 := C.out.c0
    have c_1 := C.out.c1
    have c_2 := C.out.c2
    have c_3 := C.out.c3
    have c_4 := C.out.c4
    have c_l := C.out.lt
    go_enter Try.func4, Try.ntmps4
    go_wp2_with (first
      | (go_at_call 9; (with_reducible refine (HD.out _).mono ?_); rintro e w1 ⟨rfl, b1⟩; replace C := Lib.hid (C.out.below b1 C.out.lt); replace BB := Lib.hid (below_more BB.out b1); replace c_0 := C.out.c0; replace c_1 := C.out.c1; replace c_2 := C.out.c2; replace c_3 := C.out.c3; replace c_4 := C.out.c4; replace c_l := C.out.lt; clear b1 HD)
      | (go_at_call 21; (with_reducible refine (FO.out _).mono ?_); rintro e w2 ⟨rfl, b2⟩; replace C := Lib.hid (C.out.below b2 C.out.lt); replace BB := Lib.hid (below_more BB.out b2); replace c_0 := C.out.c0; replace c_1 := C.out.c1; replace c_2 := C.out.c2; replace c_3 := C.out.c3; replace c_4 := C.out.c4; replace c_l := C.out.lt; clear b2 FO))
    go_ret
    exact ⟨by simp, BB.out⟩
  have dg9 : decide (y < 0) = false := by simp; omega
  by_cases g10 : 1000000000 < y
  · have dg10 : decide (1000000000 < y) = true := by simp; omega
    clear G hs is io ik ix iy iu iv Q1
    unfold chV
    dsimp only
    obtain ⟨W, hW⟩ : ∃ W, (w.alloc (.cells #[.int .i64 t, .int .i64 a, .int .i64 b, .int .i64 c, .int .i64 d] 24)) = W := ⟨_, rfl⟩
    have C : Hid (Five W (w.heap.size) 24 (.int .i64 t) (.int .i64 a) (.int .i64 b) (.int .i64 c) (.int .i64 d)) := by
      rw [← hW]
      have k := Five.new w 24 (.int .i64 t) (.int .i64 a) (.int .i64 b) (.int .i64 c) (.int .i64 d)
      exact k
    have BB : Hid (Below w.heap.size w W) := by rw [← hW]; exact below_alloc w _
    have c_0 := C.out.c0
    have c_1 := C.out.c1
    have c_2 := C.out.c2
    have c_3 := C.out.c3
    have c_4 := C.out.c4
    have c_l := C.out.lt
    go_enter Try.func4, Try.ntmps4
    go_wp2_with (first
      | (go_at_call 9; (with_reducible refine (HD.out _).mono ?_); rintro e w1 ⟨rfl, b1⟩; replace C := Lib.hid (C.out.below b1 C.out.lt); replace BB := Lib.hid (below_more BB.out b1); replace c_0 := C.out.c0; replace c_1 := C.out.c1; replace c_2 := C.out.c2; replace c_3 := C.out.c3; replace c_4 := C.out.c4; replace c_l := C.out.lt; clear b1 HD)
      | (go_at_call 21; (with_reducible refine (FO.out _).mono ?_); rintro e w2 ⟨rfl, b2⟩; replace C := Lib.hid (C.out.below b2 C.out.lt); replace BB := Lib.hid (below_more BB.out b2); replace c_0 := C.out.c0; replace c_1 := C.out.c1; replace c_2 := C.out.c2; replace c_3 := C.out.c3; replace c_4 := C.out.c4; replace c_l := C.out.lt; clear b2 FO))
    go_ret
    exact ⟨by simp, BB.out⟩
  have dg10 : decide (1000000000 < y) = false := by simp; omega
  by_cases g11 : u < 0
  · have dg11 : decide (u < 0) = true := by simp; omega
    clear G hs is io ik ix iy iu iv Q1
    unfold chV
    dsimp only
    obtain ⟨W, hW⟩ : ∃ W, (w.alloc (.cells #[.int .i64 t, .int .i64 a, .int .i64 b, .int .i64 c, .int .i64 d] 24)) = W := ⟨_, rfl⟩
    have C : Hid (Five W (w.heap.size) 24 (.int .i64 t) (.int .i64 a) (.int .i64 b) (.int .i64 c) (.int .i64 d)) := by
      rw [← hW]
      have k := Five.new w 24 (.int .i64 t) (.int .i64 a) (.int .i64 b) (.int .i64 c) (.int .i64 d)
      exact k
    have BB : Hid (Below w.heap.size w W) := by rw [← hW]; exact below_alloc w _
    have c_0 := C.out.c0
    have c_1 := C.out.c1
    have c_2 := C.out.c2
    have c_3 := C.out.c3
    have c_4 := C.out.c4
    have c_l := C.out.lt
    go_enter Try.func4, Try.ntmps4
    go_wp2_with (first
      | (go_at_call 9; (with_reducible refine (HD.out _).mono ?_); rintro e w1 ⟨rfl, b1⟩; replace C := Lib.hid (C.out.below b1 C.out.lt); replace BB := Lib.hid (below_more BB.out b1); replace c_0 := C.out.c0; replace c_1 := C.out.c1; replace c_2 := C.out.c2; replace c_3 := C.out.c3; replace c_4 := C.out.c4; replace c_l := C.out.lt; clear b1 HD)
      | (go_at_call 21; (with_reducible refine (FO.out _).mono ?_); rintro e w2 ⟨rfl, b2⟩; replace C := Lib.hid (C.out.below b2 C.out.lt); replace BB := Lib.hid (below_more BB.out b2); replace c_0 := C.out.c0; replace c_1 := C.out.c1; replace c_2 := C.out.c2; replace c_3 := C.out.c3; replace c_4 := C.out.c4; replace c_l := C.out.lt; clear b2 FO))
    go_ret
    exact ⟨by simp, BB.out⟩
  have dg11 : decide (u < 0) = false := by simp; omega
  by_cases g12 : v < 0
  · have dg12 : decide (v < 0) = true := by simp; omega
    clear G hs is io ik ix iy iu iv Q1
    unfold chV
    dsimp only
    obtain ⟨W, hW⟩ : ∃ W, (w.alloc (.cells #[.int .i64 t, .int .i64 a, .int .i64 b, .int .i64 c, .int .i64 d] 24)) = W := ⟨_, rfl⟩
    have C : Hid (Five W (w.heap.size) 24 (.int .i64 t) (.int .i64 a) (.int .i64 b) (.int .i64 c) (.int .i64 d)) := by
      rw [← hW]
      have k := Five.new w 24 (.int .i64 t) (.int .i64 a) (.int .i64 b) (.int .i64 c) (.int .i64 d)
      exact k
    have BB : Hid (Below w.heap.size w W) := by rw [← hW]; exact below_alloc w _
    have c_0 := C.out.c0
    have c_1 := C.out.c1
    have c_2 := C.out.c2
    have c_3 := C.out.c3
    have c_4 := C.out.c4
    have c_l := C.out.lt
    go_enter Try.func4, Try.ntmps4
    go_wp2_with (first
      | (go_at_call 9; (with_reducible refine (HD.out _).mono ?_); rintro e w1 ⟨rfl, b1⟩; replace C := Lib.hid (C.out.below b1 C.out.lt); replace BB := Lib.hid (below_more BB.out b1); replace c_0 := C.out.c0; replace c_1 := C.out.c1; replace c_2 := C.out.c2; replace c_3 := C.out.c3; replace c_4 := C.out.c4; replace c_l := C.out.lt; clear b1 HD)
      | (go_at_call 21; (with_reducible refine (FO.out _).mono ?_); rintro e w2 ⟨rfl, b2⟩; replace C := Lib.hid (C.out.below b2 C.out.lt); replace BB := Lib.hid (below_more BB.out b2); replace c_0 := C.out.c0; replace c_1 := C.out.c1; replace c_2 := C.out.c2; replace c_3 := C.out.c3; replace c_4 := C.out.c4; replace c_l := C.out.lt; clear b2 FO))
    go_ret
    exact ⟨by simp, BB.out⟩
  have dg12 : decide (v < 0) = false := by simp; omega
  by_cases g13 : 1000000 < v
  · have dg13 : decide (1000000 < v) = true := by simp; omega
    clear G hs is io ik ix iy iu iv Q1
    unfold chV
    dsimp only
    obtain ⟨W, hW⟩ : ∃ W, (w.alloc (.cells #[.int .i64 t, .int .i64 a, .int .i64 b, .int .i64 c, .int .i64 d] 24)) = W := ⟨_, rfl⟩
    have C : Hid (Five W (w.heap.size) 24 (.int .i64 t) (.int .i64 a) (.int .i64 b) (.int .i64 c) (.int .i64 d)) := by
      rw [← hW]
      have k := Five.new w 24 (.int .i64 t) (.int .i64 a) (.int .i64 b) (.int .i64 c) (.int .i64 d)
      exact k
    have BB : Hid (Below w.heap.size w W) := by rw [← hW]; exact below_alloc w _
    have c_0 := C.out.c0
    have c_1 := C.out.c1
    have c_2 := C.out.c2
    have c_3 := C.out.c3
    have c_4 := C.out.c4
    have c_l := C.out.lt
    go_enter Try.func4, Try.ntmps4
    go_wp2_with (first
      | (go_at_call 9; (with_reducible refine (HD.out _).mono ?_); rintro e w1 ⟨rfl, b1⟩; replace C := Lib.hid (C.out.below b1 C.out.lt); replace BB := Lib.hid (below_more BB.out b1); replace c_0 := C.out.c0; replace c_1 := C.out.c1; replace c_2 := C.out.c2; replace c_3 := C.out.c3; replace c_4 := C.out.c4; replace c_l := C.out.lt; clear b1 HD)
      | (go_at_call 21; (with_reducible refine (FO.out _).mono ?_); rintro e w2 ⟨rfl, b2⟩; replace C := Lib.hid (C.out.below b2 C.out.lt); replace BB := Lib.hid (below_more BB.out b2); replace c_0 := C.out.c0; replace c_1 := C.out.c1; replace c_2 := C.out.c2; replace c_3 := C.out.c3; replace c_4 := C.out.c4; replace c_l := C.out.lt; clear b2 FO))
    go_ret
    exact ⟨by simp, BB.out⟩
  have dg13 : decide (1000000 < v) = false := by simp; omega
  obtain ⟨m, hm⟩ : ∃ m, s + o = m := ⟨_, rfl⟩
  obtain ⟨n, hn⟩ : ∃ n, m + k = n := ⟨_, rfl⟩
  obtain ⟨p, hp⟩ : ∃ p, m - x = p := ⟨_, rfl⟩
  obtain ⟨q, hq⟩ : ∃ q, min (m + y) 3000000000000000 = q := ⟨_, rfl⟩
  obtain ⟨r, hr⟩ : ∃ r, n - s = r := ⟨_, rfl⟩
  obtain ⟨x1, hx1⟩ : ∃ x1, max 0 (r - u) = x1 := ⟨_, rfl⟩
  obtain ⟨x2, hx2⟩ : ∃ x2, r + v = x2 := ⟨_, rfl⟩
  have iq : IvOk p q := ⟨by omega, by omega, by omega⟩
  have ie : IvOk x1 x2 := ⟨by omega, by omega, by omega⟩
  have ip : I64 p := ⟨by omega, by omega⟩
  have iq2 : I64 q := ⟨by omega, by omega⟩
  have S0 := sent_is (s := ⟨t, a, b, c, d⟩) (l := p) (h := q) Q1.out iq (by dsimp only; omega)
  have R0 := round_is (s := ⟨t, a, b, c, d⟩) (l := p) (h := q) (x := x1) (y := x2) Q1.out iq ie (by dsimp only; omega) (by dsimp only; omega)
  dsimp only at S0 R0
  obtain ⟨l1, hl1⟩ : ∃ l1, max 0 (p - b) = l1 := ⟨_, rfl⟩
  obtain ⟨l2, hl2⟩ : ∃ l2, q - a = l2 := ⟨_, rfl⟩
  obtain ⟨l3, hl3⟩ : ∃ l3, max 0 (p - min b (x2 - c)) = l3 := ⟨_, rfl⟩
  obtain ⟨l4, hl4⟩ : ∃ l4, q - max a (x1 - d) = l4 := ⟨_, rfl⟩
  rw [hl1, hl2] at S0
  rw [hl3, hl4] at R0
  have A1 := Lib.hid (G.sent ⟨t, a, b, c, d⟩ p q hs ip iq2)
  have A2 := Lib.hid (G.got ⟨t, a, b, c, d⟩ p q hs ip iq2)
  have A3 := Lib.hid (G.round ⟨t, a, b, c, d⟩ p q x1 x2 hs ip iq2 ⟨by omega, by omega⟩ ⟨by omega, by omega⟩)
  rw [S0] at A1
  rw [R0] at A3
  have N1 := Lib.hid (in_any l1 l2 s true ⟨fun _ => by omega, fun _ => rfl⟩)
  have N3 := Lib.hid (in_any l3 l4 s true ⟨fun _ => by omega, fun _ => rfl⟩)
  have b1' : -1000000 ≤ p ∧ p ≤ 3000000000000000 := by omega
  have b2' : 0 ≤ q ∧ q ≤ 3000000000000000 := by omega
  have b3' : 0 ≤ m ∧ m ≤ 2999999999000000 := by omega
  have b4' : 0 ≤ n ∧ n ≤ 3000000000000000 := by omega
  have b5' : 0 ≤ r ∧ r ≤ 2000000 := by omega
  have b6' : -9223372036854775807 ≤ r - u ∧ r - u ≤ 2000000 := by have := iu.2; omega
  have b7' : u ≤ 9223372036854775807 := iu.2
  by_cases cq : q + d ≤ 3000000000000000
  · have G0 := got_is (s := ⟨t, a, b, c, d⟩) (l := p) (h := q) Q1.out iq (by dsimp only; omega)
    dsimp only at G0
    obtain ⟨l5, hl5⟩ : ∃ l5, p + c = l5 := ⟨_, rfl⟩
    obtain ⟨l6, hl6⟩ : ∃ l6, q + d = l6 := ⟨_, rfl⟩
    rw [hl5, hl6] at G0
    rw [G0] at A2
    have N2 := Lib.hid (in_any l5 l6 n true ⟨fun _ => by omega, fun _ => rfl⟩)
    clear G hs is io ik ix iy iu iv Q1 S0 R0 G0 iq ie ip iq2 hl1 hl2 hl3 hl4 hl5 hl6 cq
    unfold chV rgV at A1 A2 A3
    unfold rgV at N1 N2 N3
    dsimp only at A1 A2 A3
    unfold chV
    dsimp only
    obtain ⟨W, hW⟩ : ∃ W, (w.alloc (.cells #[.int .i64 t, .int .i64 a, .int .i64 b, .int .i64 c, .int .i64 d] 24)) = W := ⟨_, rfl⟩
    have C : Hid (Five W (w.heap.size) 24 (.int .i64 t) (.int .i64 a) (.int .i64 b) (.int .i64 c) (.int .i64 d)) := by
      rw [← hW]
      have k := Five.new w 24 (.int .i64 t) (.int .i64 a) (.int .i64 b) (.int .i64 c) (.int .i64 d)
      exact k
    have BB : Hid (Below w.heap.size w W) := by rw [← hW]; exact below_alloc w _
    have c_0 := C.out.c0
    have c_1 := C.out.c1
    have c_2 := C.out.c2
    have c_3 := C.out.c3
    have c_4 := C.out.c4
    have c_l := C.out.lt
    go_enter Try.func4, Try.ntmps4
    go_wp2_with (first
      | (go_at_call 9; (with_reducible refine (HD.out _).mono ?_); rintro e w1 ⟨rfl, b1⟩; replace C := Lib.hid (C.out.below b1 C.out.lt); replace BB := Lib.hid (below_more BB.out b1); replace c_0 := C.out.c0; replace c_1 := C.out.c1; replace c_2 := C.out.c2; replace c_3 := C.out.c3; replace c_4 := C.out.c4; replace c_l := C.out.lt; clear b1 HD)
      | (go_at_call 21; (with_reducible refine (FO.out _).mono ?_); rintro e w2 ⟨rfl, b2⟩; replace C := Lib.hid (C.out.below b2 C.out.lt); replace BB := Lib.hid (below_more BB.out b2); replace c_0 := C.out.c0; replace c_1 := C.out.c1; replace c_2 := C.out.c2; replace c_3 := C.out.c3; replace c_4 := C.out.c4; replace c_l := C.out.lt; have Gs := Lib.hid BB.out.size; have Ca := Lib.hid (C.out.alloc (.cells #[.int .i64 p, .int .i64 q] 26)); have Sa := Lib.hid (Two.new w2 26 (.int .i64 p) (.int .i64 q)); have ca_0 := Ca.out.c0; have ca_1 := Ca.out.c1; have ca_2 := Ca.out.c2; have ca_3 := Ca.out.c3; have ca_4 := Ca.out.c4; have ca_l := Ca.out.lt; have sa_0 := Sa.out.c0; have sa_1 := Sa.out.c1; have sa_l := Sa.out.lt; replace BB := Lib.hid (BB.out.alloc BB.out.size (.cells #[.int .i64 p, .int .i64 q] 26)); replace C := Ca; have S := Sa; clear Ca Sa; clear b2 FO)
      | (go_at_call 15; (with_reducible refine (A1.out _).mono ?_); rintro e w3 ⟨rfl, b3⟩; replace C := Lib.hid ((C.out.below b3 C.out.lt).alloc (.cells #[.int .i64 l1, .int .i64 l2] 26)); replace S := Lib.hid ((S.out.below b3 S.out.lt).alloc (.cells #[.int .i64 l1, .int .i64 l2] 26)); have A := Lib.hid (Two.new w3 26 (.int .i64 l1) (.int .i64 l2)); replace BB := Lib.hid (below_more BB.out b3); have Ga := Lib.hid BB.out.size; replace BB := Lib.hid (BB.out.alloc BB.out.size (.cells #[.int .i64 l1, .int .i64 l2] 26)); replace c_0 := C.out.c0; replace c_1 := C.out.c1; replace c_2 := C.out.c2; replace c_3 := C.out.c3; replace c_4 := C.out.c4; replace c_l := C.out.lt; replace s_0 := S.out.c0; replace s_1 := S.out.c1; replace s_l := S.out.lt; replace a_0 := A.out.c0; replace a_1 := A.out.c1; replace a_l := A.out.lt; clear b3 A1)
      | (go_at_call 17; (with_reducible refine (A2.out _).mono ?_); rintro e w4 ⟨rfl, b4⟩; replace C := Lib.hid ((C.out.below b4 C.out.lt).alloc (.cells #[.int .i64 l5, .int .i64 l6] 26)); replace S := Lib.hid ((S.out.below b4 S.out.lt).alloc (.cells #[.int .i64 l5, .int .i64 l6] 26)); replace A := Lib.hid ((A.out.below b4 A.out.lt).alloc (.cells #[.int .i64 l5, .int .i64 l6] 26)); have B := Lib.hid (Two.new w4 26 (.int .i64 l5) (.int .i64 l6)); replace BB := Lib.hid (below_more BB.out b4); have Gb := Lib.hid BB.out.size; replace BB := Lib.hid (BB.out.alloc BB.out.size (.cells #[.int .i64 l5, .int .i64 l6] 26)); replace c_0 := C.out.c0; replace c_1 := C.out.c1; replace c_2 := C.out.c2; replace c_3 := C.out.c3; replace c_4 := C.out.c4; replace c_l := C.out.lt; replace s_0 := S.out.c0; replace s_1 := S.out.c1; replace s_l := S.out.lt; replace a_0 := A.out.c0; replace a_1 := A.out.c1; replace a_l := A.out.lt; replace b_0 := B.out.c0; replace b_1 := B.out.c1; replace b_l := B.out.lt; clear b4 A2)
      | (go_at_call 19; (with_reducible refine (A3.out _).mono ?_); rintro e w5 ⟨rfl, b5⟩; replace C := Lib.hid ((C.out.below b5 C.out.lt).alloc (.cells #[.int .i64 l3, .int .i64 l4] 26)); replace S := Lib.hid ((S.out.below b5 S.out.lt).alloc (.cells #[.int .i64 l3, .int .i64 l4] 26)); replace A := Lib.hid ((A.out.below b5 A.out.lt).alloc (.cells #[.int .i64 l3, .int .i64 l4] 26)); replace B := Lib.hid ((B.out.below b5 B.out.lt).alloc (.cells #[.int .i64 l3, .int .i64 l4] 26)); have D := Lib.hid (Two.new w5 26 (.int .i64 l3) (.int .i64 l4)); replace BB := Lib.hid (below_more BB.out b5); have Gd := Lib.hid BB.out.size; replace BB := Lib.hid (BB.out.alloc BB.out.size (.cells #[.int .i64 l3, .int .i64 l4] 26)); replace c_0 := C.out.c0; replace c_1 := C.out.c1; replace c_2 := C.out.c2; replace c_3 := C.out.c3; replace c_4 := C.out.c4; replace c_l := C.out.lt; replace s_0 := S.out.c0; replace s_1 := S.out.c1; replace s_l := S.out.lt; replace a_0 := A.out.c0; replace a_1 := A.out.c1; replace a_l := A.out.lt; replace b_0 := B.out.c0; replace b_1 := B.out.c1; replace b_l := B.out.lt; replace d_0 := D.out.c0; replace d_1 := D.out.c1; replace d_l := D.out.lt; clear b5 A3)
      | (go_at_call 22; (with_reducible refine (N1.out _).mono ?_); rintro e w6 ⟨rfl, b6⟩; replace C := Lib.hid (C.out.below b6 C.out.lt); replace S := Lib.hid (S.out.below b6 S.out.lt); replace A := Lib.hid (A.out.below b6 A.out.lt); replace B := Lib.hid (B.out.below b6 B.out.lt); replace D := Lib.hid (D.out.below b6 D.out.lt); replace BB := Lib.hid (below_more BB.out b6); replace c_0 := C.out.c0; replace c_1 := C.out.c1; replace c_2 := C.out.c2; replace c_3 := C.out.c3; replace c_4 := C.out.c4; replace c_l := C.out.lt; replace s_0 := S.out.c0; replace s_1 := S.out.c1; replace s_l := S.out.lt; replace a_0 := A.out.c0; replace a_1 := A.out.c1; replace a_l := A.out.lt; replace b_0 := B.out.c0; replace b_1 := B.out.c1; replace b_l := B.out.lt; replace d_0 := D.out.c0; replace d_1 := D.out.c1; replace d_l := D.out.lt; clear b6 N1)
      | (go_at_call 22; (with_reducible refine (N3.out _).mono ?_); rintro e w7 ⟨rfl, b7⟩; replace C := Lib.hid (C.out.below b7 C.out.lt); replace S := Lib.hid (S.out.below b7 S.out.lt); replace A := Lib.hid (A.out.below b7 A.out.lt); replace B := Lib.hid (B.out.below b7 B.out.lt); replace D := Lib.hid (D.out.below b7 D.out.lt); replace BB := Lib.hid (below_more BB.out b7); replace c_0 := C.out.c0; replace c_1 := C.out.c1; replace c_2 := C.out.c2; replace c_3 := C.out.c3; replace c_4 := C.out.c4; replace c_l := C.out.lt; replace s_0 := S.out.c0; replace s_1 := S.out.c1; replace s_l := S.out.lt; replace a_0 := A.out.c0; replace a_1 := A.out.c1; replace a_l := A.out.lt; replace b_0 := B.out.c0; replace b_1 := B.out.c1; replace b_l := B.out.lt; replace d_0 := D.out.c0; replace d_1 := D.out.c1; replace d_l := D.out.lt; clear b7 N3)
      | (go_at_call 22; (with_reducible refine (N2.out _).mono ?_); rintro e w8 ⟨rfl, b8⟩; replace C := Lib.hid (C.out.below b8 C.out.lt); replace S := Lib.hid (S.out.below b8 S.out.lt); replace A := Lib.hid (A.out.below b8 A.out.lt); replace B := Lib.hid (B.out.below b8 B.out.lt); replace D := Lib.hid (D.out.below b8 D.out.lt); replace BB := Lib.hid (below_more BB.out b8); replace c_0 := C.out.c0; replace c_1 := C.out.c1; replace c_2 := C.out.c2; replace c_3 := C.out.c3; replace c_4 := C.out.c4; replace c_l := C.out.lt; replace s_0 := S.out.c0; replace s_1 := S.out.c1; replace s_l := S.out.lt; replace a_0 := A.out.c0; replace a_1 := A.out.c1; replace a_l := A.out.lt; replace b_0 := B.out.c0; replace b_1 := B.out.c1; replace b_l := B.out.lt; replace d_0 := D.out.c0; replace d_1 := D.out.c1; replace d_l := D.out.lt; clear b8 N2))
    go_ret
    exact ⟨by simp, BB.out⟩
  · have G0 := got_err (s := ⟨t, a, b, c, d⟩) (l := p) (h := q) Q1.out iq (by dsimp only; omega)
    rw [G0] at A2
    have dq : decide (3000000000000000 < q + d) = true := by simp; omega
    clear G hs is io ik ix iy iu iv Q1 S0 R0 G0 iq ie ip iq2 hl1 hl2 hl3 hl4 cq
    unfold chV rgV at A1 A2 A3
    unfold rgV at N1 N3
    dsimp only at A1 A2 A3
    unfold chV
    dsimp only
    obtain ⟨W, hW⟩ : ∃ W, (w.alloc (.cells #[.int .i64 t, .int .i64 a, .int .i64 b, .int .i64 c, .int .i64 d] 24)) = W := ⟨_, rfl⟩
    have C : Hid (Five W (w.heap.size) 24 (.int .i64 t) (.int .i64 a) (.int .i64 b) (.int .i64 c) (.int .i64 d)) := by
      rw [← hW]
      have k := Five.new w 24 (.int .i64 t) (.int .i64 a) (.int .i64 b) (.int .i64 c) (.int .i64 d)
      exact k
    have BB : Hid (Below w.heap.size w W) := by rw [← hW]; exact below_alloc w _
    have c_0 := C.out.c0
    have c_1 := C.out.c1
    have c_2 := C.out.c2
    have c_3 := C.out.c3
    have c_4 := C.out.c4
    have c_l := C.out.lt
    go_enter Try.func4, Try.ntmps4
    go_wp2_with (first
      | (go_at_call 9; (with_reducible refine (HD.out _).mono ?_); rintro e w1 ⟨rfl, b1⟩; replace C := Lib.hid (C.out.below b1 C.out.lt); replace BB := Lib.hid (below_more BB.out b1); replace c_0 := C.out.c0; replace c_1 := C.out.c1; replace c_2 := C.out.c2; replace c_3 := C.out.c3; replace c_4 := C.out.c4; replace c_l := C.out.lt; clear b1 HD)
      | (go_at_call 21; (with_reducible refine (FO.out _).mono ?_); rintro e w2 ⟨rfl, b2⟩; replace C := Lib.hid (C.out.below b2 C.out.lt); replace BB := Lib.hid (below_more BB.out b2); replace c_0 := C.out.c0; replace c_1 := C.out.c1; replace c_2 := C.out.c2; replace c_3 := C.out.c3; replace c_4 := C.out.c4; replace c_l := C.out.lt; have Gs := Lib.hid BB.out.size; have Ca := Lib.hid (C.out.alloc (.cells #[.int .i64 p, .int .i64 q] 26)); have Sa := Lib.hid (Two.new w2 26 (.int .i64 p) (.int .i64 q)); have ca_0 := Ca.out.c0; have ca_1 := Ca.out.c1; have ca_2 := Ca.out.c2; have ca_3 := Ca.out.c3; have ca_4 := Ca.out.c4; have ca_l := Ca.out.lt; have sa_0 := Sa.out.c0; have sa_1 := Sa.out.c1; have sa_l := Sa.out.lt; replace BB := Lib.hid (BB.out.alloc BB.out.size (.cells #[.int .i64 p, .int .i64 q] 26)); replace C := Ca; have S := Sa; clear Ca Sa; clear b2 FO)
      | (go_at_call 15; (with_reducible refine (A1.out _).mono ?_); rintro e w3 ⟨rfl, b3⟩; replace C := Lib.hid ((C.out.below b3 C.out.lt).alloc (.cells #[.int .i64 l1, .int .i64 l2] 26)); replace S := Lib.hid ((S.out.below b3 S.out.lt).alloc (.cells #[.int .i64 l1, .int .i64 l2] 26)); have A := Lib.hid (Two.new w3 26 (.int .i64 l1) (.int .i64 l2)); replace BB := Lib.hid (below_more BB.out b3); have Ga := Lib.hid BB.out.size; replace BB := Lib.hid (BB.out.alloc BB.out.size (.cells #[.int .i64 l1, .int .i64 l2] 26)); replace c_0 := C.out.c0; replace c_1 := C.out.c1; replace c_2 := C.out.c2; replace c_3 := C.out.c3; replace c_4 := C.out.c4; replace c_l := C.out.lt; replace s_0 := S.out.c0; replace s_1 := S.out.c1; replace s_l := S.out.lt; replace a_0 := A.out.c0; replace a_1 := A.out.c1; replace a_l := A.out.lt; clear b3 A1)
      | (go_at_call 17; (with_reducible refine (A2.out _).mono ?_); rintro e w4 ⟨rfl, b4⟩; replace C := Lib.hid ((C.out.below b4 C.out.lt).alloc (.cells #[.int .i64 0, .int .i64 0] 26)); replace S := Lib.hid ((S.out.below b4 S.out.lt).alloc (.cells #[.int .i64 0, .int .i64 0] 26)); replace A := Lib.hid ((A.out.below b4 A.out.lt).alloc (.cells #[.int .i64 0, .int .i64 0] 26)); have B := Lib.hid (Two.new w4 26 (.int .i64 0) (.int .i64 0)); replace BB := Lib.hid (below_more BB.out b4); have Gb := Lib.hid BB.out.size; replace BB := Lib.hid (BB.out.alloc BB.out.size (.cells #[.int .i64 0, .int .i64 0] 26)); replace c_0 := C.out.c0; replace c_1 := C.out.c1; replace c_2 := C.out.c2; replace c_3 := C.out.c3; replace c_4 := C.out.c4; replace c_l := C.out.lt; replace s_0 := S.out.c0; replace s_1 := S.out.c1; replace s_l := S.out.lt; replace a_0 := A.out.c0; replace a_1 := A.out.c1; replace a_l := A.out.lt; replace b_0 := B.out.c0; replace b_1 := B.out.c1; replace b_l := B.out.lt; clear b4 A2)
      | (go_at_call 19; (with_reducible refine (A3.out _).mono ?_); rintro e w5 ⟨rfl, b5⟩; replace C := Lib.hid ((C.out.below b5 C.out.lt).alloc (.cells #[.int .i64 l3, .int .i64 l4] 26)); replace S := Lib.hid ((S.out.below b5 S.out.lt).alloc (.cells #[.int .i64 l3, .int .i64 l4] 26)); replace A := Lib.hid ((A.out.below b5 A.out.lt).alloc (.cells #[.int .i64 l3, .int .i64 l4] 26)); replace B := Lib.hid ((B.out.below b5 B.out.lt).alloc (.cells #[.int .i64 l3, .int .i64 l4] 26)); have D := Lib.hid (Two.new w5 26 (.int .i64 l3) (.int .i64 l4)); replace BB := Lib.hid (below_more BB.out b5); have Gd := Lib.hid BB.out.size; replace BB := Lib.hid (BB.out.alloc BB.out.size (.cells #[.int .i64 l3, .int .i64 l4] 26)); replace c_0 := C.out.c0; replace c_1 := C.out.c1; replace c_2 := C.out.c2; replace c_3 := C.out.c3; replace c_4 := C.out.c4; replace c_l := C.out.lt; replace s_0 := S.out.c0; replace s_1 := S.out.c1; replace s_l := S.out.lt; replace a_0 := A.out.c0; replace a_1 := A.out.c1; replace a_l := A.out.lt; replace b_0 := B.out.c0; replace b_1 := B.out.c1; replace b_l := B.out.lt; replace d_0 := D.out.c0; replace d_1 := D.out.c1; replace d_l := D.out.lt; clear b5 A3)
      | (go_at_call 22; (with_reducible refine (N1.out _).mono ?_); rintro e w6 ⟨rfl, b6⟩; replace C := Lib.hid (C.out.below b6 C.out.lt); replace S := Lib.hid (S.out.below b6 S.out.lt); replace A := Lib.hid (A.out.below b6 A.out.lt); replace B := Lib.hid (B.out.below b6 B.out.lt); replace D := Lib.hid (D.out.below b6 D.out.lt); replace BB := Lib.hid (below_more BB.out b6); replace c_0 := C.out.c0; replace c_1 := C.out.c1; replace c_2 := C.out.c2; replace c_3 := C.out.c3; replace c_4 := C.out.c4; replace c_l := C.out.lt; replace s_0 := S.out.c0; replace s_1 := S.out.c1; replace s_l := S.out.lt; replace a_0 := A.out.c0; replace a_1 := A.out.c1; replace a_l := A.out.lt; replace b_0 := B.out.c0; replace b_1 := B.out.c1; replace b_l := B.out.lt; replace d_0 := D.out.c0; replace d_1 := D.out.c1; replace d_l := D.out.lt; clear b6 N1)
      | (go_at_call 22; (with_reducible refine (N3.out _).mono ?_); rintro e w7 ⟨rfl, b7⟩; replace C := Lib.hid (C.out.below b7 C.out.lt); replace S := Lib.hid (S.out.below b7 S.out.lt); replace A := Lib.hid (A.out.below b7 A.out.lt); replace B := Lib.hid (B.out.below b7 B.out.lt); replace D := Lib.hid (D.out.below b7 D.out.lt); replace BB := Lib.hid (below_more BB.out b7); replace c_0 := C.out.c0; replace c_1 := C.out.c1; replace c_2 := C.out.c2; replace c_3 := C.out.c3; replace c_4 := C.out.c4; replace c_l := C.out.lt; replace s_0 := S.out.c0; replace s_1 := S.out.c1; replace s_l := S.out.lt; replace a_0 := A.out.c0; replace a_1 := A.out.c1; replace a_l := A.out.lt; replace b_0 := B.out.c0; replace b_1 := B.out.c1; replace b_l := B.out.lt; replace d_0 := D.out.c0; replace d_1 := D.out.c1; replace d_l := D.out.lt; clear b7 N3))
    go_ret
    exact ⟨by simp, BB.out⟩
end Go.Proofs.Ytkeahbdeddjoeaa
