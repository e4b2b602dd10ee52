/- Layer 8: BeliefNothing (gen/gen_laws2.py writes this). -/
import Derived.Test.YtpfcjffpomdhbaaHead
namespace Go.Proofs.Ytpfcjffpomdhbaa
open Go.RowKit Go
set_option linter.unusedVariables false
set_option linter.unusedSimpArgs false

set_option maxRecDepth 100000 in
set_option maxHeartbeats 8000000 in
theorem nothing_walk (G : Blf) (a x i0 j0 : Int) (ia : I64 a) (ix : I64 x) (ii : I64 i0) (ij : I64 j0) (w : World) :
    Calls Try.prog 10 #[.int .i64 a, .int .i64 x, rgV i0 j0] w (Gives (.bool true) w) := by
  have HD := Lib.hid (head_true G)
  have A1 := Lib.hid (G.start a ia)
  obtain ⟨a1, a2⟩ := ia
  obtain ⟨x1, x2⟩ := ix
  by_cases qa : TimeOk a
  · rw [show startR a = (a, 0, 3000000000000000, 0) from if_pos qa] at A1
    have qb : BOk a 0 3000000000000000 := ⟨qa, by unfold IvOk; omega⟩
    have A2 := Lib.hid (G.meet a 0 3000000000000000 i0 j0 ⟨a1, a2⟩ ⟨by omega, by omega⟩ ⟨by omega, by omega⟩ ii ij)
    have HS := Lib.hid (rhas_any 0 3000000000000000 x)
    have EH : Hid (hasR 0 3000000000000000 x = (decide (0 ≤ x) && decide (x ≤ 3000000000000000))) := rfl
    generalize hasR 0 3000000000000000 x = hq at HS EH
    by_cases qi : IvOk i0 j0
    · have VI := Lib.hid (rvalid_any i0 j0 true ⟨fun _ => qi, fun _ => rfl⟩)
      obtain ⟨z1, z2, z3⟩ := qi
      rw [show meetR a 0 3000000000000000 i0 j0 = (a, i0, j0, true, 0) by
        unfold meetR
        rw [if_pos ⟨qb, z1, z2, z3⟩, if_pos (by omega), show max 0 i0 = i0 by omega, show min 3000000000000000 j0 = j0 by omega]] at A2
      clear qb ii ij G
      dsimp only at A1 A2
      unfold blV at A1 A2
      unfold rgV at A2 HS VI ⊢
      obtain ⟨W, hW⟩ : ∃ W, (w.alloc (.cells #[.int .i64 i0, .int .i64 j0] 23)) = W := ⟨_, rfl⟩
      have I : Hid (Two W (w.heap.size) 23 (.int .i64 i0) (.int .i64 j0)) := by
        rw [← hW]
        have k := Two.new w 23 (.int .i64 i0) (.int .i64 j0)
        exact k
      have BB : Hid (Below w.heap.size w W) := by rw [← hW]; exact below_alloc w _
      have i_0 := I.out.c0
      have i_1 := I.out.c1
      have i_l := I.out.lt
      rcases (by omega : (x < 0) ∨ (0 ≤ x ∧ x ≤ 3000000000000000) ∨ (0 ≤ x ∧ 3000000000000000 < x)) with q | ⟨q, q2⟩ | ⟨q, q2⟩
      · have e0 : decide (0 ≤ x) = false := by simp; omega
        obtain rfl : hq = false := by rw [EH.out, e0]; rfl
        clear EH
        go_enter Try.func10, Try.ntmps10
        go_wp2_with (first
          | (go_at_call 11; (with_reducible refine (HD.out _).mono ?_); rintro e w1 ⟨rfl, b1⟩; replace I := Lib.hid (I.out.below b1 I.out.lt); replace BB := Lib.hid (below_more BB.out b1); replace i_0 := I.out.c0; replace i_1 := I.out.c1; replace i_l := I.out.lt; clear b1 HD)
          | (go_at_call 12; (with_reducible refine (A1.out _).mono ?_); rintro e w2 ⟨rfl, b2⟩; replace I := Lib.hid ((I.out.below b2 I.out.lt).alloc (.cells #[.int .i64 a, .int .i64 0, .int .i64 3000000000000000] 25)); have B := Lib.hid (Three.new w2 25 (.int .i64 a) (.int .i64 0) (.int .i64 3000000000000000)); replace BB := Lib.hid (below_more BB.out b2); have Gb := Lib.hid BB.out.size; replace BB := Lib.hid (BB.out.alloc BB.out.size (.cells #[.int .i64 a, .int .i64 0, .int .i64 3000000000000000] 25)); replace i_0 := I.out.c0; replace i_1 := I.out.c1; replace i_l := I.out.lt; replace b_0 := B.out.c0; replace b_1 := B.out.c1; replace b_2 := B.out.c2; replace b_l := B.out.lt; clear b2 A1)
          | (go_at_call 25; (with_reducible refine (HS.out _).mono ?_); rintro e w3 ⟨rfl, b3⟩; replace I := Lib.hid (I.out.below b3 I.out.lt); replace B := Lib.hid (B.out.below b3 B.out.lt); replace BB := Lib.hid (below_more BB.out b3); replace i_0 := I.out.c0; replace i_1 := I.out.c1; replace i_l := I.out.lt; replace b_0 := B.out.c0; replace b_1 := B.out.c1; replace b_2 := B.out.c2; replace b_l := B.out.lt; clear b3 HS)
          | (go_at_call 18; (with_reducible refine (A2.out _).mono ?_); rintro e w4 ⟨rfl, b4⟩; replace I := Lib.hid ((I.out.below b4 I.out.lt).alloc (.cells #[.int .i64 a, .int .i64 i0, .int .i64 j0] 25)); replace B := Lib.hid ((B.out.below b4 B.out.lt).alloc (.cells #[.int .i64 a, .int .i64 i0, .int .i64 j0] 25)); have C := Lib.hid (Three.new w4 25 (.int .i64 a) (.int .i64 i0) (.int .i64 j0)); replace BB := Lib.hid (below_more BB.out b4); have Gc := Lib.hid BB.out.size; replace BB := Lib.hid (BB.out.alloc BB.out.size (.cells #[.int .i64 a, .int .i64 i0, .int .i64 j0] 25)); replace i_0 := I.out.c0; replace i_1 := I.out.c1; replace i_l := I.out.lt; replace b_0 := B.out.c0; replace b_1 := B.out.c1; replace b_2 := B.out.c2; replace b_l := B.out.lt; replace c_0 := C.out.c0; replace c_1 := C.out.c1; replace c_2 := C.out.c2; replace c_l := C.out.lt; clear b4 A2)
          | (go_at_call 26; (with_reducible refine (VI.out _).mono ?_); rintro e w5 ⟨rfl, b5⟩; replace I := Lib.hid (I.out.below b5 I.out.lt); replace B := Lib.hid (B.out.below b5 B.out.lt); replace C := Lib.hid (C.out.below b5 C.out.lt); replace BB := Lib.hid (below_more BB.out b5); replace i_0 := I.out.c0; replace i_1 := I.out.c1; replace i_l := I.out.lt; replace b_0 := B.out.c0; replace b_1 := B.out.c1; replace b_2 := B.out.c2; replace b_l := B.out.lt; replace c_0 := C.out.c0; replace c_1 := C.out.c1; replace c_2 := C.out.c2; replace c_l := C.out.lt; clear b5 VI))
        go_ret
        exact ⟨by simp, BB.out⟩
      · have e0 : decide (0 ≤ x) = true := by simp; omega
        have e1 : decide (x ≤ 3000000000000000) = true := by simp; omega
        obtain rfl : hq = true := by rw [EH.out, e0, e1]; rfl
        clear EH
        go_enter Try.func10, Try.ntmps10
        go_wp2_with (first
          | (go_at_call 11; (with_reducible refine (HD.out _).mono ?_); rintro e w1 ⟨rfl, b1⟩; replace I := Lib.hid (I.out.below b1 I.out.lt); replace BB := Lib.hid (below_more BB.out b1); replace i_0 := I.out.c0; replace i_1 := I.out.c1; replace i_l := I.out.lt; clear b1 HD)
          | (go_at_call 12; (with_reducible refine (A1.out _).mono ?_); rintro e w2 ⟨rfl, b2⟩; replace I := Lib.hid ((I.out.below b2 I.out.lt).alloc (.cells #[.int .i64 a, .int .i64 0, .int .i64 3000000000000000] 25)); have B := Lib.hid (Three.new w2 25 (.int .i64 a) (.int .i64 0) (.int .i64 3000000000000000)); replace BB := Lib.hid (below_more BB.out b2); have Gb := Lib.hid BB.out.size; replace BB := Lib.hid (BB.out.alloc BB.out.size (.cells #[.int .i64 a, .int .i64 0, .int .i64 3000000000000000] 25)); replace i_0 := I.out.c0; replace i_1 := I.out.c1; replace i_l := I.out.lt; replace b_0 := B.out.c0; replace b_1 := B.out.c1; replace b_2 := B.out.c2; replace b_l := B.out.lt; clear b2 A1)
          | (go_at_call 25; (with_reducible refine (HS.out _).mono ?_); rintro e w3 ⟨rfl, b3⟩; replace I := Lib.hid (I.out.below b3 I.out.lt); replace B := Lib.hid (B.out.below b3 B.out.lt); replace BB := Lib.hid (below_more BB.out b3); replace i_0 := I.out.c0; replace i_1 := I.out.c1; replace i_l := I.out.lt; replace b_0 := B.out.c0; replace b_1 := B.out.c1; replace b_2 := B.out.c2; replace b_l := B.out.lt; clear b3 HS)
          | (go_at_call 18; (with_reducible refine (A2.out _).mono ?_); rintro e w4 ⟨rfl, b4⟩; replace I := Lib.hid ((I.out.below b4 I.out.lt).alloc (.cells #[.int .i64 a, .int .i64 i0, .int .i64 j0] 25)); replace B := Lib.hid ((B.out.below b4 B.out.lt).alloc (.cells #[.int .i64 a, .int .i64 i0, .int .i64 j0] 25)); have C := Lib.hid (Three.new w4 25 (.int .i64 a) (.int .i64 i0) (.int .i64 j0)); replace BB := Lib.hid (below_more BB.out b4); have Gc := Lib.hid BB.out.size; replace BB := Lib.hid (BB.out.alloc BB.out.size (.cells #[.int .i64 a, .int .i64 i0, .int .i64 j0] 25)); replace i_0 := I.out.c0; replace i_1 := I.out.c1; replace i_l := I.out.lt; replace b_0 := B.out.c0; replace b_1 := B.out.c1; replace b_2 := B.out.c2; replace b_l := B.out.lt; replace c_0 := C.out.c0; replace c_1 := C.out.c1; replace c_2 := C.out.c2; replace c_l := C.out.lt; clear b4 A2)
          | (go_at_call 26; (with_reducible refine (VI.out _).mono ?_); rintro e w5 ⟨rfl, b5⟩; replace I := Lib.hid (I.out.below b5 I.out.lt); replace B := Lib.hid (B.out.below b5 B.out.lt); replace C := Lib.hid (C.out.below b5 C.out.lt); replace BB := Lib.hid (below_more BB.out b5); replace i_0 := I.out.c0; replace i_1 := I.out.c1; replace i_l := I.out.lt; replace b_0 := B.out.c0; replace b_1 := B.out.c1; replace b_2 := B.out.c2; replace b_l := B.out.lt; replace c_0 := C.out.c0; replace c_1 := C.out.c1; replace c_2 := C.out.c2; replace c_l := C.out.lt; clear b5 VI))
        go_ret
        exact ⟨by simp, BB.out⟩
      · have e0 : decide (0 ≤ x) = true := by simp; omega
        have e1 : decide (x ≤ 3000000000000000) = false := by simp; omega
        obtain rfl : hq = false := by rw [EH.out, e0, e1]; rfl
        clear EH
        go_enter Try.func10, Try.ntmps10
        go_wp2_with (first
          | (go_at_call 11; (with_reducible refine (HD.out _).mono ?_); rintro e w1 ⟨rfl, b1⟩; replace I := Lib.hid (I.out.below b1 I.out.lt); replace BB := Lib.hid (below_more BB.out b1); replace i_0 := I.out.c0; replace i_1 := I.out.c1; replace i_l := I.out.lt; clear b1 HD)
          | (go_at_call 12; (with_reducible refine (A1.out _).mono ?_); rintro e w2 ⟨rfl, b2⟩; replace I := Lib.hid ((I.out.below b2 I.out.lt).alloc (.cells #[.int .i64 a, .int .i64 0, .int .i64 3000000000000000] 25)); have B := Lib.hid (Three.new w2 25 (.int .i64 a) (.int .i64 0) (.int .i64 3000000000000000)); replace BB := Lib.hid (below_more BB.out b2); have Gb := Lib.hid BB.out.size; replace BB := Lib.hid (BB.out.alloc BB.out.size (.cells #[.int .i64 a, .int .i64 0, .int .i64 3000000000000000] 25)); replace i_0 := I.out.c0; replace i_1 := I.out.c1; replace i_l := I.out.lt; replace b_0 := B.out.c0; replace b_1 := B.out.c1; replace b_2 := B.out.c2; replace b_l := B.out.lt; clear b2 A1)
          | (go_at_call 25; (with_reducible refine (HS.out _).mono ?_); rintro e w3 ⟨rfl, b3⟩; replace I := Lib.hid (I.out.below b3 I.out.lt); replace B := Lib.hid (B.out.below b3 B.out.lt); replace BB := Lib.hid (below_more BB.out b3); replace i_0 := I.out.c0; replace i_1 := I.out.c1; replace i_l := I.out.lt; replace b_0 := B.out.c0; replace b_1 := B.out.c1; replace b_2 := B.out.c2; replace b_l := B.out.lt; clear b3 HS)
          | (go_at_call 18; (with_reducible refine (A2.out _).mono ?_); rintro e w4 ⟨rfl, b4⟩; replace I := Lib.hid ((I.out.below b4 I.out.lt).alloc (.cells #[.int .i64 a, .int .i64 i0, .int .i64 j0] 25)); replace B := Lib.hid ((B.out.below b4 B.out.lt).alloc (.cells #[.int .i64 a, .int .i64 i0, .int .i64 j0] 25)); have C := Lib.hid (Three.new w4 25 (.int .i64 a) (.int .i64 i0) (.int .i64 j0)); replace BB := Lib.hid (below_more BB.out b4); have Gc := Lib.hid BB.out.size; replace BB := Lib.hid (BB.out.alloc BB.out.size (.cells #[.int .i64 a, .int .i64 i0, .int .i64 j0] 25)); replace i_0 := I.out.c0; replace i_1 := I.out.c1; replace i_l := I.out.lt; replace b_0 := B.out.c0; replace b_1 := B.out.c1; replace b_2 := B.out.c2; replace b_l := B.out.lt; replace c_0 := C.out.c0; replace c_1 := C.out.c1; replace c_2 := C.out.c2; replace c_l := C.out.lt; clear b4 A2)
          | (go_at_call 26; (with_reducible refine (VI.out _).mono ?_); rintro e w5 ⟨rfl, b5⟩; replace I := Lib.hid (I.out.below b5 I.out.lt); replace B := Lib.hid (B.out.below b5 B.out.lt); replace C := Lib.hid (C.out.below b5 C.out.lt); replace BB := Lib.hid (below_more BB.out b5); replace i_0 := I.out.c0; replace i_1 := I.out.c1; replace i_l := I.out.lt; replace b_0 := B.out.c0; replace b_1 := B.out.c1; replace b_2 := B.out.c2; replace b_l := B.out.lt; replace c_0 := C.out.c0; replace c_1 := C.out.c1; replace c_2 := C.out.c2; replace c_l := C.out.lt; clear b5 VI))
        go_ret
        exact ⟨by simp, BB.out⟩
    · have VI := Lib.hid (rvalid_any i0 j0 false ⟨fun h => (by cases h), fun h => absurd h qi⟩)
      rw [show meetR a 0 3000000000000000 i0 j0 = (0, 0, 0, false, 1) from if_neg (fun z => qi z.2)] at A2
      obtain ⟨m0, hm0⟩ : ∃ m : Int, 0 = m := ⟨_, rfl⟩
      obtain ⟨m1, hm1⟩ : ∃ m : Int, 0 = m := ⟨_, rfl⟩
      obtain ⟨m2, hm2⟩ : ∃ m : Int, 0 = m := ⟨_, rfl⟩
      have A2 : Hid (∀ w, Calls Try.prog 18 #[blV a 0 3000000000000000, rgV i0 j0] w (Gives (.tuple #[blV m0 m1 m2, .bool false, .int .i64 1]) w)) := by subst hm0 hm1 hm2; exact A2
      clear hm0 hm1 hm2 qb ii ij G
      dsimp only at A1 A2
      unfold blV at A1 A2
      unfold rgV at A2 HS VI ⊢
      obtain ⟨W, hW⟩ : ∃ W, (w.alloc (.cells #[.int .i64 i0, .int .i64 j0] 23)) = W := ⟨_, rfl⟩
      have I : Hid (Two W (w.heap.size) 23 (.int .i64 i0) (.int .i64 j0)) := by
        rw [← hW]
        have k := Two.new w 23 (.int .i64 i0) (.int .i64 j0)
        exact k
      have BB : Hid (Below w.heap.size w W) := by rw [← hW]; exact below_alloc w _
      have i_0 := I.out.c0
      have i_1 := I.out.c1
      have i_l := I.out.lt
      rcases (by omega : (x < 0) ∨ (0 ≤ x ∧ x ≤ 3000000000000000) ∨ (0 ≤ x ∧ 3000000000000000 < x)) with q | ⟨q, q2⟩ | ⟨q, q2⟩
      · have e0 : decide (0 ≤ x) = false := by simp; omega
        obtain rfl : hq = false := by rw [EH.out, e0]; rfl
        clear EH
        go_enter Try.func10, Try.ntmps10
        go_wp2_with (first
          | (go_at_call 11; (with_reducible refine (HD.out _).mono ?_); rintro e w1 ⟨rfl, b1⟩; replace I := Lib.hid (I.out.below b1 I.out.lt); replace BB := Lib.hid (below_more BB.out b1); replace i_0 := I.out.c0; replace i_1 := I.out.c1; replace i_l := I.out.lt; clear b1 HD)
          | (go_at_call 12; (with_reducible refine (A1.out _).mono ?_); rintro e w2 ⟨rfl, b2⟩; replace I := Lib.hid ((I.out.below b2 I.out.lt).alloc (.cells #[.int .i64 a, .int .i64 0, .int .i64 3000000000000000] 25)); have B := Lib.hid (Three.new w2 25 (.int .i64 a) (.int .i64 0) (.int .i64 3000000000000000)); replace BB := Lib.hid (below_more BB.out b2); have Gb := Lib.hid BB.out.size; replace BB := Lib.hid (BB.out.alloc BB.out.size (.cells #[.int .i64 a, .int .i64 0, .int .i64 3000000000000000] 25)); replace i_0 := I.out.c0; replace i_1 := I.out.c1; replace i_l := I.out.lt; replace b_0 := B.out.c0; replace b_1 := B.out.c1; replace b_2 := B.out.c2; replace b_l := B.out.lt; clear b2 A1)
          | (go_at_call 25; (with_reducible refine (HS.out _).mono ?_); rintro e w3 ⟨rfl, b3⟩; replace I := Lib.hid (I.out.below b3 I.out.lt); replace B := Lib.hid (B.out.below b3 B.out.lt); replace BB := Lib.hid (below_more BB.out b3); replace i_0 := I.out.c0; replace i_1 := I.out.c1; replace i_l := I.out.lt; replace b_0 := B.out.c0; replace b_1 := B.out.c1; replace b_2 := B.out.c2; replace b_l := B.out.lt; clear b3 HS)
          | (go_at_call 18; (with_reducible refine (A2.out _).mono ?_); rintro e w4 ⟨rfl, b4⟩; replace I := Lib.hid ((I.out.below b4 I.out.lt).alloc (.cells #[.int .i64 m0, .int .i64 m1, .int .i64 m2] 25)); replace B := Lib.hid ((B.out.below b4 B.out.lt).alloc (.cells #[.int .i64 m0, .int .i64 m1, .int .i64 m2] 25)); have C := Lib.hid (Three.new w4 25 (.int .i64 m0) (.int .i64 m1) (.int .i64 m2)); replace BB := Lib.hid (below_more BB.out b4); have Gc := Lib.hid BB.out.size; replace BB := Lib.hid (BB.out.alloc BB.out.size (.cells #[.int .i64 m0, .int .i64 m1, .int .i64 m2] 25)); replace i_0 := I.out.c0; replace i_1 := I.out.c1; replace i_l := I.out.lt; replace b_0 := B.out.c0; replace b_1 := B.out.c1; replace b_2 := B.out.c2; replace b_l := B.out.lt; replace c_0 := C.out.c0; replace c_1 := C.out.c1; replace c_2 := C.out.c2; replace c_l := C.out.lt; clear b4 A2)
          | (go_at_call 26; (with_reducible refine (VI.out _).mono ?_); rintro e w5 ⟨rfl, b5⟩; replace I := Lib.hid (I.out.below b5 I.out.lt); replace B := Lib.hid (B.out.below b5 B.out.lt); replace C := Lib.hid (C.out.below b5 C.out.lt); replace BB := Lib.hid (below_more BB.out b5); replace i_0 := I.out.c0; replace i_1 := I.out.c1; replace i_l := I.out.lt; replace b_0 := B.out.c0; replace b_1 := B.out.c1; replace b_2 := B.out.c2; replace b_l := B.out.lt; replace c_0 := C.out.c0; replace c_1 := C.out.c1; replace c_2 := C.out.c2; replace c_l := C.out.lt; clear b5 VI))
        go_ret
        exact ⟨by simp, BB.out⟩
      · have e0 : decide (0 ≤ x) = true := by simp; omega
        have e1 : decide (x ≤ 3000000000000000) = true := by simp; omega
        obtain rfl : hq = true := by rw [EH.out, e0, e1]; rfl
        clear EH
        go_enter Try.func10, Try.ntmps10
        go_wp2_with (first
          | (go_at_call 11; (with_reducible refine (HD.out _).mono ?_); rintro e w1 ⟨rfl, b1⟩; replace I := Lib.hid (I.out.below b1 I.out.lt); replace BB := Lib.hid (below_more BB.out b1); replace i_0 := I.out.c0; replace i_1 := I.out.c1; replace i_l := I.out.lt; clear b1 HD)
          | (go_at_call 12; (with_reducible refine (A1.out _).mono ?_); rintro e w2 ⟨rfl, b2⟩; replace I := Lib.hid ((I.out.below b2 I.out.lt).alloc (.cells #[.int .i64 a, .int .i64 0, .int .i64 3000000000000000] 25)); have B := Lib.hid (Three.new w2 25 (.int .i64 a) (.int .i64 0) (.int .i64 3000000000000000)); replace BB := Lib.hid (below_more BB.out b2); have Gb := Lib.hid BB.out.size; replace BB := Lib.hid (BB.out.alloc BB.out.size (.cells #[.int .i64 a, .int .i64 0, .int .i64 3000000000000000] 25)); replace i_0 := I.out.c0; replace i_1 := I.out.c1; replace i_l := I.out.lt; replace b_0 := B.out.c0; replace b_1 := B.out.c1; replace b_2 := B.out.c2; replace b_l := B.out.lt; clear b2 A1)
          | (go_at_call 25; (with_reducible refine (HS.out _).mono ?_); rintro e w3 ⟨rfl, b3⟩; replace I := Lib.hid (I.out.below b3 I.out.lt); replace B := Lib.hid (B.out.below b3 B.out.lt); replace BB := Lib.hid (below_more BB.out b3); replace i_0 := I.out.c0; replace i_1 := I.out.c1; replace i_l := I.out.lt; replace b_0 := B.out.c0; replace b_1 := B.out.c1; replace b_2 := B.out.c2; replace b_l := B.out.lt; clear b3 HS)
          | (go_at_call 18; (with_reducible refine (A2.out _).mono ?_); rintro e w4 ⟨rfl, b4⟩; replace I := Lib.hid ((I.out.below b4 I.out.lt).alloc (.cells #[.int .i64 m0, .int .i64 m1, .int .i64 m2] 25)); replace B := Lib.hid ((B.out.below b4 B.out.lt).alloc (.cells #[.int .i64 m0, .int .i64 m1, .int .i64 m2] 25)); have C := Lib.hid (Three.new w4 25 (.int .i64 m0) (.int .i64 m1) (.int .i64 m2)); replace BB := Lib.hid (below_more BB.out b4); have Gc := Lib.hid BB.out.size; replace BB := Lib.hid (BB.out.alloc BB.out.size (.cells #[.int .i64 m0, .int .i64 m1, .int .i64 m2] 25)); replace i_0 := I.out.c0; replace i_1 := I.out.c1; replace i_l := I.out.lt; replace b_0 := B.out.c0; replace b_1 := B.out.c1; replace b_2 := B.out.c2; replace b_l := B.out.lt; replace c_0 := C.out.c0; replace c_1 := C.out.c1; replace c_2 := C.out.c2; replace c_l := C.out.lt; clear b4 A2)
          | (go_at_call 26; (with_reducible refine (VI.out _).mono ?_); rintro e w5 ⟨rfl, b5⟩; replace I := Lib.hid (I.out.below b5 I.out.lt); replace B := Lib.hid (B.out.below b5 B.out.lt); replace C := Lib.hid (C.out.below b5 C.out.lt); replace BB := Lib.hid (below_more BB.out b5); replace i_0 := I.out.c0; replace i_1 := I.out.c1; replace i_l := I.out.lt; replace b_0 := B.out.c0; replace b_1 := B.out.c1; replace b_2 := B.out.c2; replace b_l := B.out.lt; replace c_0 := C.out.c0; replace c_1 := C.out.c1; replace c_2 := C.out.c2; replace c_l := C.out.lt; clear b5 VI))
        go_ret
        exact ⟨by simp, BB.out⟩
      · have e0 : decide (0 ≤ x) = true := by simp; omega
        have e1 : decide (x ≤ 3000000000000000) = false := by simp; omega
        obtain rfl : hq = false := by rw [EH.out, e0, e1]; rfl
        clear EH
        go_enter Try.func10, Try.ntmps10
        go_wp2_with (first
          | (go_at_call 11; (with_reducible refine (HD.out _).mono ?_); rintro e w1 ⟨rfl, b1⟩; replace I := Lib.hid (I.out.below b1 I.out.lt); replace BB := Lib.hid (below_more BB.out b1); replace i_0 := I.out.c0; replace i_1 := I.out.c1; replace i_l := I.out.lt; clear b1 HD)
          | (go_at_call 12; (with_reducible refine (A1.out _).mono ?_); rintro e w2 ⟨rfl, b2⟩; replace I := Lib.hid ((I.out.below b2 I.out.lt).alloc (.cells #[.int .i64 a, .int .i64 0, .int .i64 3000000000000000] 25)); have B := Lib.hid (Three.new w2 25 (.int .i64 a) (.int .i64 0) (.int .i64 3000000000000000)); replace BB := Lib.hid (below_more BB.out b2); have Gb := Lib.hid BB.out.size; replace BB := Lib.hid (BB.out.alloc BB.out.size (.cells #[.int .i64 a, .int .i64 0, .int .i64 3000000000000000] 25)); replace i_0 := I.out.c0; replace i_1 := I.out.c1; replace i_l := I.out.lt; replace b_0 := B.out.c0; replace b_1 := B.out.c1; replace b_2 := B.out.c2; replace b_l := B.out.lt; clear b2 A1)
          | (go_at_call 25; (with_reducible refine (HS.out _).mono ?_); rintro e w3 ⟨rfl, b3⟩; replace I := Lib.hid (I.out.below b3 I.out.lt); replace B := Lib.hid (B.out.below b3 B.out.lt); replace BB := Lib.hid (below_more BB.out b3); replace i_0 := I.out.c0; replace i_1 := I.out.c1; replace i_l := I.out.lt; replace b_0 := B.out.c0; replace b_1 := B.out.c1; replace b_2 := B.out.c2; replace b_l := B.out.lt; clear b3 HS)
          | (go_at_call 18; (with_reducible refine (A2.out _).mono ?_); rintro e w4 ⟨rfl, b4⟩; replace I := Lib.hid ((I.out.below b4 I.out.lt).alloc (.cells #[.int .i64 m0, .int .i64 m1, .int .i64 m2] 25)); replace B := Lib.hid ((B.out.below b4 B.out.lt).alloc (.cells #[.int .i64 m0, .int .i64 m1, .int .i64 m2] 25)); have C := Lib.hid (Three.new w4 25 (.int .i64 m0) (.int .i64 m1) (.int .i64 m2)); replace BB := Lib.hid (below_more BB.out b4); have Gc := Lib.hid BB.out.size; replace BB := Lib.hid (BB.out.alloc BB.out.size (.cells #[.int .i64 m0, .int .i64 m1, .int .i64 m2] 25)); replace i_0 := I.out.c0; replace i_1 := I.out.c1; replace i_l := I.out.lt; replace b_0 := B.out.c0; replace b_1 := B.out.c1; replace b_2 := B.out.c2; replace b_l := B.out.lt; replace c_0 := C.out.c0; replace c_1 := C.out.c1; replace c_2 := C.out.c2; replace c_l := C.out.lt; clear b4 A2)
          | (go_at_call 26; (with_reducible refine (VI.out _).mono ?_); rintro e w5 ⟨rfl, b5⟩; replace I := Lib.hid (I.out.below b5 I.out.lt); replace B := Lib.hid (B.out.below b5 B.out.lt); replace C := Lib.hid (C.out.below b5 C.out.lt); replace BB := Lib.hid (below_more BB.out b5); replace i_0 := I.out.c0; replace i_1 := I.out.c1; replace i_l := I.out.lt; replace b_0 := B.out.c0; replace b_1 := B.out.c1; replace b_2 := B.out.c2; replace b_l := B.out.lt; replace c_0 := C.out.c0; replace c_1 := C.out.c1; replace c_2 := C.out.c2; replace c_l := C.out.lt; clear b5 VI))
        go_ret
        exact ⟨by simp, BB.out⟩
  · rw [show startR a = (0, 0, 0, 1) from if_neg qa] at A1
    dsimp only at A1
    unfold blV at A1
    unfold rgV
    have qa' : a < 0 ∨ 3000000000000000 < a := by unfold TimeOk at qa; omega
    clear qa G ii ij
    obtain ⟨W, hW⟩ : ∃ W, (w.alloc (.cells #[.int .i64 i0, .int .i64 j0] 23)) = W := ⟨_, rfl⟩
    have I : Hid (Two W (w.heap.size) 23 (.int .i64 i0) (.int .i64 j0)) := by
      rw [← hW]
      have k := Two.new w 23 (.int .i64 i0) (.int .i64 j0)
      exact k
    have BB : Hid (Below w.heap.size w W) := by rw [← hW]; exact below_alloc w _
    have i_0 := I.out.c0
    have i_1 := I.out.c1
    have i_l := I.out.lt
    rcases (by omega : a < 0 ∨ (0 ≤ a ∧ 3000000000000000 < a)) with q | ⟨q, q2⟩
    · have d1 : decide (a < 0) = true := by simp; omega
      clear qa'
      go_enter Try.func10, Try.ntmps10
      go_wp2_with (first
        | (go_at_call 11; (with_reducible refine (HD.out _).mono ?_); rintro e w1 ⟨rfl, b1⟩; replace I := Lib.hid (I.out.below b1 I.out.lt); replace BB := Lib.hid (below_more BB.out b1); replace i_0 := I.out.c0; replace i_1 := I.out.c1; replace i_l := I.out.lt; clear b1 HD)
        | (go_at_call 12; (with_reducible refine (A1.out _).mono ?_); rintro e w2 ⟨rfl, b2⟩; replace I := Lib.hid ((I.out.below b2 I.out.lt).alloc (.cells #[.int .i64 0, .int .i64 0, .int .i64 0] 25)); have B := Lib.hid (Three.new w2 25 (.int .i64 0) (.int .i64 0) (.int .i64 0)); replace BB := Lib.hid (below_more BB.out b2); have Gb := Lib.hid BB.out.size; replace BB := Lib.hid (BB.out.alloc BB.out.size (.cells #[.int .i64 0, .int .i64 0, .int .i64 0] 25)); replace i_0 := I.out.c0; replace i_1 := I.out.c1; replace i_l := I.out.lt; replace b_0 := B.out.c0; replace b_1 := B.out.c1; replace b_2 := B.out.c2; replace b_l := B.out.lt; clear b2 A1))
      go_ret
      exact ⟨by simp, BB.out⟩
    · have d1 : decide (a < 0) = false := by simp; omega
      have d2 : decide (3000000000000000 < a) = true := by simp; omega
      clear qa'
      go_enter Try.func10, Try.ntmps10
      go_wp2_with (first
        | (go_at_call 11; (with_reducible refine (HD.out _).mono ?_); rintro e w1 ⟨rfl, b1⟩; replace I := Lib.hid (I.out.below b1 I.out.lt); replace BB := Lib.hid (below_more BB.out b1); replace i_0 := I.out.c0; replace i_1 := I.out.c1; replace i_l := I.out.lt; clear b1 HD)
        | (go_at_call 12; (with_reducible refine (A1.out _).mono ?_); rintro e w2 ⟨rfl, b2⟩; replace I := Lib.hid ((I.out.below b2 I.out.lt).alloc (.cells #[.int .i64 0, .int .i64 0, .int .i64 0] 25)); have B := Lib.hid (Three.new w2 25 (.int .i64 0) (.int .i64 0) (.int .i64 0)); replace BB := Lib.hid (below_more BB.out b2); have Gb := Lib.hid BB.out.size; replace BB := Lib.hid (BB.out.alloc BB.out.size (.cells #[.int .i64 0, .int .i64 0, .int .i64 0] 25)); replace i_0 := I.out.c0; replace i_1 := I.out.c1; replace i_l := I.out.lt; replace b_0 := B.out.c0; replace b_1 := B.out.c1; replace b_2 := B.out.c2; replace b_l := B.out.lt; clear b2 A1))
      go_ret
      exact ⟨by simp, BB.out⟩
end Go.Proofs.Ytpfcjffpomdhbaa
