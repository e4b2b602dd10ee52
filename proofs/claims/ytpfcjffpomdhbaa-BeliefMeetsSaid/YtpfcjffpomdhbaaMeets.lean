/- Layer 8: BeliefMeets (gen/gen_laws3.py writes this). -/
import Derived.Test.YtpfcjffpomdhbaaHead
import Derived.Test.YtpfcjffpomdhbaaBMath
namespace Go.Proofs.Ytpfcjffpomdhbaa
open Go.RowKit Go
set_option linter.unusedVariables false
set_option linter.unusedSimpArgs false

set_option maxRecDepth 100000 in
set_option maxHeartbeats 16000000 in
theorem meets_walk (G : Blf) (p l h i0 j0 x : Int) (ip : I64 p) (il : I64 l) (ih : I64 h) (ii : I64 i0) (ij : I64 j0) (w : World) :
    Calls Try.prog 8 #[blV p l h, rgV i0 j0, .int .i64 x] w (Gives (.bool true) w) := by
  have HD := Lib.hid (head_true G)
  by_cases q1 : BOk p l h
  · have VB := Lib.hid (rbel_any p l h true ⟨fun _ => q1, fun _ => rfl⟩ ip)
    by_cases q2 : IvOk i0 j0
    · have VI := Lib.hid (rvalid_any i0 j0 true ⟨fun _ => q2, fun _ => rfl⟩)
      have A1 := Lib.hid (G.meet p l h i0 j0 ip il ih ii ij)
      have H1 := Lib.hid (rhas_any l h x)
      have H2 := Lib.hid (rhas_any i0 j0 x)
      obtain ⟨⟨b1, b2⟩, b3, b4, b5⟩ := q1
      obtain ⟨b6, b7, b8⟩ := q2
      obtain ⟨m, hm⟩ : ∃ m, max l i0 = m := ⟨_, rfl⟩
      obtain ⟨n, hn⟩ : ∃ n, min h j0 = n := ⟨_, rfl⟩
      by_cases c : m ≤ n
      · rw [show meetR p l h i0 j0 = (p, m, n, true, 0) by unfold meetR; rw [if_pos ⟨⟨⟨b1, b2⟩, b3, b4, b5⟩, b6, b7, b8⟩, hm, hn, if_pos c]] at A1
        have VC := Lib.hid (rbel_any p m n true ⟨fun _ => ⟨⟨b1, b2⟩, by omega, c, by omega⟩, fun _ => rfl⟩ ip)
        have H3 := Lib.hid (rhas_any m n x)
        have EH : hasR m n x = (hasR l h x && hasR i0 j0 x) := by
          unfold hasR
          rw [Bool.eq_iff_iff]
          simp only [Bool.and_eq_true, decide_eq_true_eq]
          omega
        rw [EH] at H3
        clear EH
        generalize hasR l h x = u at H1 H3
        generalize hasR i0 j0 x = v at H2 H3
        clear hm hn c ip il ih ii ij G b1 b2 b3 b4 b5 b6 b7 b8
        dsimp only at A1
        unfold rgV at A1 VI H1 H2 H3 ⊢
        unfold blV at A1 VB VC ⊢
        obtain ⟨W, hW⟩ : ∃ W, ((w.alloc (.cells #[.int .i64 p, .int .i64 l, .int .i64 h] 25)).alloc (.cells #[.int .i64 i0, .int .i64 j0] 23)) = W := ⟨_, rfl⟩
        have B : Hid (Three W (w.heap.size) 25 (.int .i64 p) (.int .i64 l) (.int .i64 h)) := by
          rw [← hW]
          have k := Three.new w 25 (.int .i64 p) (.int .i64 l) (.int .i64 h)
          exact k.alloc _
        have I : Hid (Two W (w.heap.size + 1) 23 (.int .i64 i0) (.int .i64 j0)) := by
          rw [← hW]
          have k := Two.new (w.alloc (.cells #[.int .i64 p, .int .i64 l, .int .i64 h] 25)) 23 (.int .i64 i0) (.int .i64 j0)
          rw [show (w.alloc (.cells #[.int .i64 p, .int .i64 l, .int .i64 h] 25)).heap.size = w.heap.size + 1 by simp] at k
          exact k
        have BB : Hid (Below w.heap.size w W) := by rw [← hW]; exact (below_alloc w _).alloc (by simp) _
        have b_0 := B.out.c0
        have b_1 := B.out.c1
        have b_2 := B.out.c2
        have b_l := B.out.lt
        have i_0 := I.out.c0
        have i_1 := I.out.c1
        have i_l := I.out.lt
        cases u with
        | true =>
          simp only [Bool.true_and] at H3
          go_enter Try.func8, Try.ntmps8
          go_wp2_with (first
            | (go_at_call 11; (with_reducible refine (HD.out _).mono ?_); rintro e w1 ⟨rfl, b1⟩; replace B := Lib.hid (B.out.below b1 B.out.lt); replace I := Lib.hid (I.out.below b1 I.out.lt); replace BB := Lib.hid (below_more BB.out b1); replace b_0 := B.out.c0; replace b_1 := B.out.c1; replace b_2 := B.out.c2; replace b_l := B.out.lt; replace i_0 := I.out.c0; replace i_1 := I.out.c1; replace i_l := I.out.lt; clear b1 HD)
            | (go_at_call 22; (with_reducible refine (VB.out _).mono ?_); rintro e w2 ⟨rfl, b2⟩; replace B := Lib.hid (B.out.below b2 B.out.lt); replace I := Lib.hid (I.out.below b2 I.out.lt); replace BB := Lib.hid (below_more BB.out b2); replace b_0 := B.out.c0; replace b_1 := B.out.c1; replace b_2 := B.out.c2; replace b_l := B.out.lt; replace i_0 := I.out.c0; replace i_1 := I.out.c1; replace i_l := I.out.lt; clear b2 VB)
            | (go_at_call 26; (with_reducible refine (VI.out _).mono ?_); rintro e w3 ⟨rfl, b3⟩; replace B := Lib.hid (B.out.below b3 B.out.lt); replace I := Lib.hid (I.out.below b3 I.out.lt); replace BB := Lib.hid (below_more BB.out b3); replace b_0 := B.out.c0; replace b_1 := B.out.c1; replace b_2 := B.out.c2; replace b_l := B.out.lt; replace i_0 := I.out.c0; replace i_1 := I.out.c1; replace i_l := I.out.lt; clear b3 VI)
            | (go_at_call 18; (with_reducible refine (A1.out _).mono ?_); rintro e w4 ⟨rfl, b4⟩; replace B := Lib.hid ((B.out.below b4 B.out.lt).alloc (.cells #[.int .i64 p, .int .i64 m, .int .i64 n] 25)); replace I := Lib.hid ((I.out.below b4 I.out.lt).alloc (.cells #[.int .i64 p, .int .i64 m, .int .i64 n] 25)); have C := Lib.hid (Three.new w4 25 (.int .i64 p) (.int .i64 m) (.int .i64 n)); replace BB := Lib.hid (below_more BB.out b4); have Gc := Lib.hid BB.out.size; replace BB := Lib.hid (BB.out.alloc BB.out.size (.cells #[.int .i64 p, .int .i64 m, .int .i64 n] 25)); replace b_0 := B.out.c0; replace b_1 := B.out.c1; replace b_2 := B.out.c2; replace b_l := B.out.lt; replace i_0 := I.out.c0; replace i_1 := I.out.c1; replace i_l := I.out.lt; replace c_0 := C.out.c0; replace c_1 := C.out.c1; replace c_2 := C.out.c2; replace c_l := C.out.lt; clear b4 A1)
            | (go_at_call 25; (with_reducible refine (H1.out _).mono ?_); rintro e w5 ⟨rfl, b5⟩; replace B := Lib.hid (B.out.below b5 B.out.lt); replace I := Lib.hid (I.out.below b5 I.out.lt); replace C := Lib.hid (C.out.below b5 C.out.lt); replace BB := Lib.hid (below_more BB.out b5); replace b_0 := B.out.c0; replace b_1 := B.out.c1; replace b_2 := B.out.c2; replace b_l := B.out.lt; replace i_0 := I.out.c0; replace i_1 := I.out.c1; replace i_l := I.out.lt; replace c_0 := C.out.c0; replace c_1 := C.out.c1; replace c_2 := C.out.c2; replace c_l := C.out.lt; clear b5 H1)
            | (go_at_call 25; (with_reducible refine (H2.out _).mono ?_); rintro e w6 ⟨rfl, b6⟩; replace B := Lib.hid (B.out.below b6 B.out.lt); replace I := Lib.hid (I.out.below b6 I.out.lt); replace C := Lib.hid (C.out.below b6 C.out.lt); replace BB := Lib.hid (below_more BB.out b6); replace b_0 := B.out.c0; replace b_1 := B.out.c1; replace b_2 := B.out.c2; replace b_l := B.out.lt; replace i_0 := I.out.c0; replace i_1 := I.out.c1; replace i_l := I.out.lt; replace c_0 := C.out.c0; replace c_1 := C.out.c1; replace c_2 := C.out.c2; replace c_l := C.out.lt; clear b6 H2)
            | (go_at_call 22; (with_reducible refine (VC.out _).mono ?_); rintro e w7 ⟨rfl, b7⟩; replace B := Lib.hid (B.out.below b7 B.out.lt); replace I := Lib.hid (I.out.below b7 I.out.lt); replace C := Lib.hid (C.out.below b7 C.out.lt); replace BB := Lib.hid (below_more BB.out b7); replace b_0 := B.out.c0; replace b_1 := B.out.c1; replace b_2 := B.out.c2; replace b_l := B.out.lt; replace i_0 := I.out.c0; replace i_1 := I.out.c1; replace i_l := I.out.lt; replace c_0 := C.out.c0; replace c_1 := C.out.c1; replace c_2 := C.out.c2; replace c_l := C.out.lt; clear b7 VC)
            | (go_at_call 25; (with_reducible refine (H3.out _).mono ?_); rintro e w8 ⟨rfl, b8⟩; replace B := Lib.hid (B.out.below b8 B.out.lt); replace I := Lib.hid (I.out.below b8 I.out.lt); replace C := Lib.hid (C.out.below b8 C.out.lt); replace BB := Lib.hid (below_more BB.out b8); replace b_0 := B.out.c0; replace b_1 := B.out.c1; replace b_2 := B.out.c2; replace b_l := B.out.lt; replace i_0 := I.out.c0; replace i_1 := I.out.c1; replace i_l := I.out.lt; replace c_0 := C.out.c0; replace c_1 := C.out.c1; replace c_2 := C.out.c2; replace c_l := C.out.lt; clear b8 H3))
          go_ret
          exact ⟨by simp, BB.out⟩
        | false =>
          simp only [Bool.false_and] at H3
          go_enter Try.func8, Try.ntmps8
          go_wp2_with (first
            | (go_at_call 11; (with_reducible refine (HD.out _).mono ?_); rintro e w1 ⟨rfl, b1⟩; replace B := Lib.hid (B.out.below b1 B.out.lt); replace I := Lib.hid (I.out.below b1 I.out.lt); replace BB := Lib.hid (below_more BB.out b1); replace b_0 := B.out.c0; replace b_1 := B.out.c1; replace b_2 := B.out.c2; replace b_l := B.out.lt; replace i_0 := I.out.c0; replace i_1 := I.out.c1; replace i_l := I.out.lt; clear b1 HD)
            | (go_at_call 22; (with_reducible refine (VB.out _).mono ?_); rintro e w2 ⟨rfl, b2⟩; replace B := Lib.hid (B.out.below b2 B.out.lt); replace I := Lib.hid (I.out.below b2 I.out.lt); replace BB := Lib.hid (below_more BB.out b2); replace b_0 := B.out.c0; replace b_1 := B.out.c1; replace b_2 := B.out.c2; replace b_l := B.out.lt; replace i_0 := I.out.c0; replace i_1 := I.out.c1; replace i_l := I.out.lt; clear b2 VB)
            | (go_at_call 26; (with_reducible refine (VI.out _).mono ?_); rintro e w3 ⟨rfl, b3⟩; replace B := Lib.hid (B.out.below b3 B.out.lt); replace I := Lib.hid (I.out.below b3 I.out.lt); replace BB := Lib.hid (below_more BB.out b3); replace b_0 := B.out.c0; replace b_1 := B.out.c1; replace b_2 := B.out.c2; replace b_l := B.out.lt; replace i_0 := I.out.c0; replace i_1 := I.out.c1; replace i_l := I.out.lt; clear b3 VI)
            | (go_at_call 18; (with_reducible refine (A1.out _).mono ?_); rintro e w4 ⟨rfl, b4⟩; replace B := Lib.hid ((B.out.below b4 B.out.lt).alloc (.cells #[.int .i64 p, .int .i64 m, .int .i64 n] 25)); replace I := Lib.hid ((I.out.below b4 I.out.lt).alloc (.cells #[.int .i64 p, .int .i64 m, .int .i64 n] 25)); have C := Lib.hid (Three.new w4 25 (.int .i64 p) (.int .i64 m) (.int .i64 n)); replace BB := Lib.hid (below_more BB.out b4); have Gc := Lib.hid BB.out.size; replace BB := Lib.hid (BB.out.alloc BB.out.size (.cells #[.int .i64 p, .int .i64 m, .int .i64 n] 25)); replace b_0 := B.out.c0; replace b_1 := B.out.c1; replace b_2 := B.out.c2; replace b_l := B.out.lt; replace i_0 := I.out.c0; replace i_1 := I.out.c1; replace i_l := I.out.lt; replace c_0 := C.out.c0; replace c_1 := C.out.c1; replace c_2 := C.out.c2; replace c_l := C.out.lt; clear b4 A1)
            | (go_at_call 25; (with_reducible refine (H1.out _).mono ?_); rintro e w5 ⟨rfl, b5⟩; replace B := Lib.hid (B.out.below b5 B.out.lt); replace I := Lib.hid (I.out.below b5 I.out.lt); replace C := Lib.hid (C.out.below b5 C.out.lt); replace BB := Lib.hid (below_more BB.out b5); replace b_0 := B.out.c0; replace b_1 := B.out.c1; replace b_2 := B.out.c2; replace b_l := B.out.lt; replace i_0 := I.out.c0; replace i_1 := I.out.c1; replace i_l := I.out.lt; replace c_0 := C.out.c0; replace c_1 := C.out.c1; replace c_2 := C.out.c2; replace c_l := C.out.lt; clear b5 H1)
            | (go_at_call 22; (with_reducible refine (VC.out _).mono ?_); rintro e w6 ⟨rfl, b6⟩; replace B := Lib.hid (B.out.below b6 B.out.lt); replace I := Lib.hid (I.out.below b6 I.out.lt); replace C := Lib.hid (C.out.below b6 C.out.lt); replace BB := Lib.hid (below_more BB.out b6); replace b_0 := B.out.c0; replace b_1 := B.out.c1; replace b_2 := B.out.c2; replace b_l := B.out.lt; replace i_0 := I.out.c0; replace i_1 := I.out.c1; replace i_l := I.out.lt; replace c_0 := C.out.c0; replace c_1 := C.out.c1; replace c_2 := C.out.c2; replace c_l := C.out.lt; clear b6 VC)
            | (go_at_call 25; (with_reducible refine (H3.out _).mono ?_); rintro e w7 ⟨rfl, b7⟩; replace B := Lib.hid (B.out.below b7 B.out.lt); replace I := Lib.hid (I.out.below b7 I.out.lt); replace C := Lib.hid (C.out.below b7 C.out.lt); replace BB := Lib.hid (below_more BB.out b7); replace b_0 := B.out.c0; replace b_1 := B.out.c1; replace b_2 := B.out.c2; replace b_l := B.out.lt; replace i_0 := I.out.c0; replace i_1 := I.out.c1; replace i_l := I.out.lt; replace c_0 := C.out.c0; replace c_1 := C.out.c1; replace c_2 := C.out.c2; replace c_l := C.out.lt; clear b7 H3))
          go_ret
          exact ⟨by simp, BB.out⟩
      · rw [show meetR p l h i0 j0 = (p, l, h, false, 0) by unfold meetR; rw [if_pos ⟨⟨⟨b1, b2⟩, b3, b4, b5⟩, b6, b7, b8⟩, hm, hn, if_neg c]] at A1
        have VC := Lib.hid (rbel_any p l h true ⟨fun _ => ⟨⟨b1, b2⟩, b3, b4, b5⟩, fun _ => rfl⟩ ip)
        have dj : h < i0 ∨ (i0 ≤ h ∧ j0 < l) := by omega
        have EH : hasR l h x = true → hasR i0 j0 x = false := by
          unfold hasR
          intro e
          simp only [Bool.and_eq_true, decide_eq_true_eq] at e
          rw [Bool.eq_false_iff]
          intro e2
          simp only [Bool.and_eq_true, decide_eq_true_eq] at e2
          omega
        generalize hasR l h x = u at H1 EH
        generalize hasR i0 j0 x = v at H2 EH
        clear hm hn c ip il ih ii ij G b1 b2 b3 b4 b5 b6 b7 b8
        dsimp only at A1
        unfold rgV at A1 VI H1 H2 ⊢
        unfold blV at A1 VB VC ⊢
        obtain ⟨W, hW⟩ : ∃ W, ((w.alloc (.cells #[.int .i64 p, .int .i64 l, .int .i64 h] 25)).alloc (.cells #[.int .i64 i0, .int .i64 j0] 23)) = W := ⟨_, rfl⟩
        have B : Hid (Three W (w.heap.size) 25 (.int .i64 p) (.int .i64 l) (.int .i64 h)) := by
          rw [← hW]
          have k := Three.new w 25 (.int .i64 p) (.int .i64 l) (.int .i64 h)
          exact k.alloc _
        have I : Hid (Two W (w.heap.size + 1) 23 (.int .i64 i0) (.int .i64 j0)) := by
          rw [← hW]
          have k := Two.new (w.alloc (.cells #[.int .i64 p, .int .i64 l, .int .i64 h] 25)) 23 (.int .i64 i0) (.int .i64 j0)
          rw [show (w.alloc (.cells #[.int .i64 p, .int .i64 l, .int .i64 h] 25)).heap.size = w.heap.size + 1 by simp] at k
          exact k
        have BB : Hid (Below w.heap.size w W) := by rw [← hW]; exact (below_alloc w _).alloc (by simp) _
        have b_0 := B.out.c0
        have b_1 := B.out.c1
        have b_2 := B.out.c2
        have b_l := B.out.lt
        have i_0 := I.out.c0
        have i_1 := I.out.c1
        have i_l := I.out.lt
        rcases dj with c | ⟨c, c2⟩
        · have d1 : decide (h < i0) = true := by simp; omega
          clear c
          cases u with
          | true =>
            obtain rfl := EH rfl
            clear EH
            go_enter Try.func8, Try.ntmps8
            go_wp2_with (first
              | (go_at_call 11; (with_reducible refine (HD.out _).mono ?_); rintro e w1 ⟨rfl, b1⟩; replace B := Lib.hid (B.out.below b1 B.out.lt); replace I := Lib.hid (I.out.below b1 I.out.lt); replace BB := Lib.hid (below_more BB.out b1); replace b_0 := B.out.c0; replace b_1 := B.out.c1; replace b_2 := B.out.c2; replace b_l := B.out.lt; replace i_0 := I.out.c0; replace i_1 := I.out.c1; replace i_l := I.out.lt; clear b1 HD)
              | (go_at_call 22; (with_reducible refine (VB.out _).mono ?_); rintro e w2 ⟨rfl, b2⟩; replace B := Lib.hid (B.out.below b2 B.out.lt); replace I := Lib.hid (I.out.below b2 I.out.lt); replace BB := Lib.hid (below_more BB.out b2); replace b_0 := B.out.c0; replace b_1 := B.out.c1; replace b_2 := B.out.c2; replace b_l := B.out.lt; replace i_0 := I.out.c0; replace i_1 := I.out.c1; replace i_l := I.out.lt; clear b2 VB)
              | (go_at_call 26; (with_reducible refine (VI.out _).mono ?_); rintro e w3 ⟨rfl, b3⟩; replace B := Lib.hid (B.out.below b3 B.out.lt); replace I := Lib.hid (I.out.below b3 I.out.lt); replace BB := Lib.hid (below_more BB.out b3); replace b_0 := B.out.c0; replace b_1 := B.out.c1; replace b_2 := B.out.c2; replace b_l := B.out.lt; replace i_0 := I.out.c0; replace i_1 := I.out.c1; replace i_l := I.out.lt; clear b3 VI)
              | (go_at_call 18; (with_reducible refine (A1.out _).mono ?_); rintro e w4 ⟨rfl, b4⟩; replace B := Lib.hid ((B.out.below b4 B.out.lt).alloc (.cells #[.int .i64 p, .int .i64 l, .int .i64 h] 25)); replace I := Lib.hid ((I.out.below b4 I.out.lt).alloc (.cells #[.int .i64 p, .int .i64 l, .int .i64 h] 25)); have C := Lib.hid (Three.new w4 25 (.int .i64 p) (.int .i64 l) (.int .i64 h)); replace BB := Lib.hid (below_more BB.out b4); have Gc := Lib.hid BB.out.size; replace BB := Lib.hid (BB.out.alloc BB.out.size (.cells #[.int .i64 p, .int .i64 l, .int .i64 h] 25)); replace b_0 := B.out.c0; replace b_1 := B.out.c1; replace b_2 := B.out.c2; replace b_l := B.out.lt; replace i_0 := I.out.c0; replace i_1 := I.out.c1; replace i_l := I.out.lt; replace c_0 := C.out.c0; replace c_1 := C.out.c1; replace c_2 := C.out.c2; replace c_l := C.out.lt; clear b4 A1)
              | (go_at_call 25; (with_reducible refine (H1.out _).mono ?_); rintro e w5 ⟨rfl, b5⟩; replace B := Lib.hid (B.out.below b5 B.out.lt); replace I := Lib.hid (I.out.below b5 I.out.lt); replace C := Lib.hid (C.out.below b5 C.out.lt); replace BB := Lib.hid (below_more BB.out b5); replace b_0 := B.out.c0; replace b_1 := B.out.c1; replace b_2 := B.out.c2; replace b_l := B.out.lt; replace i_0 := I.out.c0; replace i_1 := I.out.c1; replace i_l := I.out.lt; replace c_0 := C.out.c0; replace c_1 := C.out.c1; replace c_2 := C.out.c2; replace c_l := C.out.lt; clear b5 H1)
              | (go_at_call 25; (with_reducible refine (H2.out _).mono ?_); rintro e w6 ⟨rfl, b6⟩; replace B := Lib.hid (B.out.below b6 B.out.lt); replace I := Lib.hid (I.out.below b6 I.out.lt); replace C := Lib.hid (C.out.below b6 C.out.lt); replace BB := Lib.hid (below_more BB.out b6); replace b_0 := B.out.c0; replace b_1 := B.out.c1; replace b_2 := B.out.c2; replace b_l := B.out.lt; replace i_0 := I.out.c0; replace i_1 := I.out.c1; replace i_l := I.out.lt; replace c_0 := C.out.c0; replace c_1 := C.out.c1; replace c_2 := C.out.c2; replace c_l := C.out.lt; clear b6 H2)
              | (go_at_call 22; (with_reducible refine (VC.out _).mono ?_); rintro e w7 ⟨rfl, b7⟩; replace B := Lib.hid (B.out.below b7 B.out.lt); replace I := Lib.hid (I.out.below b7 I.out.lt); replace C := Lib.hid (C.out.below b7 C.out.lt); replace BB := Lib.hid (below_more BB.out b7); replace b_0 := B.out.c0; replace b_1 := B.out.c1; replace b_2 := B.out.c2; replace b_l := B.out.lt; replace i_0 := I.out.c0; replace i_1 := I.out.c1; replace i_l := I.out.lt; replace c_0 := C.out.c0; replace c_1 := C.out.c1; replace c_2 := C.out.c2; replace c_l := C.out.lt; clear b7 VC))
            go_ret
            exact ⟨by simp, BB.out⟩
          | false =>
            clear EH
            go_enter Try.func8, Try.ntmps8
            go_wp2_with (first
              | (go_at_call 11; (with_reducible refine (HD.out _).mono ?_); rintro e w1 ⟨rfl, b1⟩; replace B := Lib.hid (B.out.below b1 B.out.lt); replace I := Lib.hid (I.out.below b1 I.out.lt); replace BB := Lib.hid (below_more BB.out b1); replace b_0 := B.out.c0; replace b_1 := B.out.c1; replace b_2 := B.out.c2; replace b_l := B.out.lt; replace i_0 := I.out.c0; replace i_1 := I.out.c1; replace i_l := I.out.lt; clear b1 HD)
              | (go_at_call 22; (with_reducible refine (VB.out _).mono ?_); rintro e w2 ⟨rfl, b2⟩; replace B := Lib.hid (B.out.below b2 B.out.lt); replace I := Lib.hid (I.out.below b2 I.out.lt); replace BB := Lib.hid (below_more BB.out b2); replace b_0 := B.out.c0; replace b_1 := B.out.c1; replace b_2 := B.out.c2; replace b_l := B.out.lt; replace i_0 := I.out.c0; replace i_1 := I.out.c1; replace i_l := I.out.lt; clear b2 VB)
              | (go_at_call 26; (with_reducible refine (VI.out _).mono ?_); rintro e w3 ⟨rfl, b3⟩; replace B := Lib.hid (B.out.below b3 B.out.lt); replace I := Lib.hid (I.out.below b3 I.out.lt); replace BB := Lib.hid (below_more BB.out b3); replace b_0 := B.out.c0; replace b_1 := B.out.c1; replace b_2 := B.out.c2; replace b_l := B.out.lt; replace i_0 := I.out.c0; replace i_1 := I.out.c1; replace i_l := I.out.lt; clear b3 VI)
              | (go_at_call 18; (with_reducible refine (A1.out _).mono ?_); rintro e w4 ⟨rfl, b4⟩; replace B := Lib.hid ((B.out.below b4 B.out.lt).alloc (.cells #[.int .i64 p, .int .i64 l, .int .i64 h] 25)); replace I := Lib.hid ((I.out.below b4 I.out.lt).alloc (.cells #[.int .i64 p, .int .i64 l, .int .i64 h] 25)); have C := Lib.hid (Three.new w4 25 (.int .i64 p) (.int .i64 l) (.int .i64 h)); replace BB := Lib.hid (below_more BB.out b4); have Gc := Lib.hid BB.out.size; replace BB := Lib.hid (BB.out.alloc BB.out.size (.cells #[.int .i64 p, .int .i64 l, .int .i64 h] 25)); replace b_0 := B.out.c0; replace b_1 := B.out.c1; replace b_2 := B.out.c2; replace b_l := B.out.lt; replace i_0 := I.out.c0; replace i_1 := I.out.c1; replace i_l := I.out.lt; replace c_0 := C.out.c0; replace c_1 := C.out.c1; replace c_2 := C.out.c2; replace c_l := C.out.lt; clear b4 A1)
              | (go_at_call 25; (with_reducible refine (H1.out _).mono ?_); rintro e w5 ⟨rfl, b5⟩; replace B := Lib.hid (B.out.below b5 B.out.lt); replace I := Lib.hid (I.out.below b5 I.out.lt); replace C := Lib.hid (C.out.below b5 C.out.lt); replace BB := Lib.hid (below_more BB.out b5); replace b_0 := B.out.c0; replace b_1 := B.out.c1; replace b_2 := B.out.c2; replace b_l := B.out.lt; replace i_0 := I.out.c0; replace i_1 := I.out.c1; replace i_l := I.out.lt; replace c_0 := C.out.c0; replace c_1 := C.out.c1; replace c_2 := C.out.c2; replace c_l := C.out.lt; clear b5 H1)
              | (go_at_call 22; (with_reducible refine (VC.out _).mono ?_); rintro e w6 ⟨rfl, b6⟩; replace B := Lib.hid (B.out.below b6 B.out.lt); replace I := Lib.hid (I.out.below b6 I.out.lt); replace C := Lib.hid (C.out.below b6 C.out.lt); replace BB := Lib.hid (below_more BB.out b6); replace b_0 := B.out.c0; replace b_1 := B.out.c1; replace b_2 := B.out.c2; replace b_l := B.out.lt; replace i_0 := I.out.c0; replace i_1 := I.out.c1; replace i_l := I.out.lt; replace c_0 := C.out.c0; replace c_1 := C.out.c1; replace c_2 := C.out.c2; replace c_l := C.out.lt; clear b6 VC))
            go_ret
            exact ⟨by simp, BB.out⟩
        · have d1 : decide (h < i0) = false := by simp; omega
          have d2 : decide (j0 < l) = true := by simp; omega
          clear c c2
          cases u with
          | true =>
            obtain rfl := EH rfl
            clear EH
            go_enter Try.func8, Try.ntmps8
            go_wp2_with (first
              | (go_at_call 11; (with_reducible refine (HD.out _).mono ?_); rintro e w1 ⟨rfl, b1⟩; replace B := Lib.hid (B.out.below b1 B.out.lt); replace I := Lib.hid (I.out.below b1 I.out.lt); replace BB := Lib.hid (below_more BB.out b1); replace b_0 := B.out.c0; replace b_1 := B.out.c1; replace b_2 := B.out.c2; replace b_l := B.out.lt; replace i_0 := I.out.c0; replace i_1 := I.out.c1; replace i_l := I.out.lt; clear b1 HD)
              | (go_at_call 22; (with_reducible refine (VB.out _).mono ?_); rintro e w2 ⟨rfl, b2⟩; replace B := Lib.hid (B.out.below b2 B.out.lt); replace I := Lib.hid (I.out.below b2 I.out.lt); replace BB := Lib.hid (below_more BB.out b2); replace b_0 := B.out.c0; replace b_1 := B.out.c1; replace b_2 := B.out.c2; replace b_l := B.out.lt; replace i_0 := I.out.c0; replace i_1 := I.out.c1; replace i_l := I.out.lt; clear b2 VB)
              | (go_at_call 26; (with_reducible refine (VI.out _).mono ?_); rintro e w3 ⟨rfl, b3⟩; replace B := Lib.hid (B.out.below b3 B.out.lt); replace I := Lib.hid (I.out.below b3 I.out.lt); replace BB := Lib.hid (below_more BB.out b3); replace b_0 := B.out.c0; replace b_1 := B.out.c1; replace b_2 := B.out.c2; replace b_l := B.out.lt; replace i_0 := I.out.c0; replace i_1 := I.out.c1; replace i_l := I.out.lt; clear b3 VI)
              | (go_at_call 18; (with_reducible refine (A1.out _).mono ?_); rintro e w4 ⟨rfl, b4⟩; replace B := Lib.hid ((B.out.below b4 B.out.lt).alloc (.cells #[.int .i64 p, .int .i64 l, .int .i64 h] 25)); replace I := Lib.hid ((I.out.below b4 I.out.lt).alloc (.cells #[.int .i64 p, .int .i64 l, .int .i64 h] 25)); have C := Lib.hid (Three.new w4 25 (.int .i64 p) (.int .i64 l) (.int .i64 h)); replace BB := Lib.hid (below_more BB.out b4); have Gc := Lib.hid BB.out.size; replace BB := Lib.hid (BB.out.alloc BB.out.size (.cells #[.int .i64 p, .int .i64 l, .int .i64 h] 25)); replace b_0 := B.out.c0; replace b_1 := B.out.c1; replace b_2 := B.out.c2; replace b_l := B.out.lt; replace i_0 := I.out.c0; replace i_1 := I.out.c1; replace i_l := I.out.lt; replace c_0 := C.out.c0; replace c_1 := C.out.c1; replace c_2 := C.out.c2; replace c_l := C.out.lt; clear b4 A1)
              | (go_at_call 25; (with_reducible refine (H1.out _).mono ?_); rintro e w5 ⟨rfl, b5⟩; replace B := Lib.hid (B.out.below b5 B.out.lt); replace I := Lib.hid (I.out.below b5 I.out.lt); replace C := Lib.hid (C.out.below b5 C.out.lt); replace BB := Lib.hid (below_more BB.out b5); replace b_0 := B.out.c0; replace b_1 := B.out.c1; replace b_2 := B.out.c2; replace b_l := B.out.lt; replace i_0 := I.out.c0; replace i_1 := I.out.c1; replace i_l := I.out.lt; replace c_0 := C.out.c0; replace c_1 := C.out.c1; replace c_2 := C.out.c2; replace c_l := C.out.lt; clear b5 H1)
              | (go_at_call 25; (with_reducible refine (H2.out _).mono ?_); rintro e w6 ⟨rfl, b6⟩; replace B := Lib.hid (B.out.below b6 B.out.lt); replace I := Lib.hid (I.out.below b6 I.out.lt); replace C := Lib.hid (C.out.below b6 C.out.lt); replace BB := Lib.hid (below_more BB.out b6); replace b_0 := B.out.c0; replace b_1 := B.out.c1; replace b_2 := B.out.c2; replace b_l := B.out.lt; replace i_0 := I.out.c0; replace i_1 := I.out.c1; replace i_l := I.out.lt; replace c_0 := C.out.c0; replace c_1 := C.out.c1; replace c_2 := C.out.c2; replace c_l := C.out.lt; clear b6 H2)
              | (go_at_call 22; (with_reducible refine (VC.out _).mono ?_); rintro e w7 ⟨rfl, b7⟩; replace B := Lib.hid (B.out.below b7 B.out.lt); replace I := Lib.hid (I.out.below b7 I.out.lt); replace C := Lib.hid (C.out.below b7 C.out.lt); replace BB := Lib.hid (below_more BB.out b7); replace b_0 := B.out.c0; replace b_1 := B.out.c1; replace b_2 := B.out.c2; replace b_l := B.out.lt; replace i_0 := I.out.c0; replace i_1 := I.out.c1; replace i_l := I.out.lt; replace c_0 := C.out.c0; replace c_1 := C.out.c1; replace c_2 := C.out.c2; replace c_l := C.out.lt; clear b7 VC))
            go_ret
            exact ⟨by simp, BB.out⟩
          | false =>
            clear EH
            go_enter Try.func8, Try.ntmps8
            go_wp2_with (first
              | (go_at_call 11; (with_reducible refine (HD.out _).mono ?_); rintro e w1 ⟨rfl, b1⟩; replace B := Lib.hid (B.out.below b1 B.out.lt); replace I := Lib.hid (I.out.below b1 I.out.lt); replace BB := Lib.hid (below_more BB.out b1); replace b_0 := B.out.c0; replace b_1 := B.out.c1; replace b_2 := B.out.c2; replace b_l := B.out.lt; replace i_0 := I.out.c0; replace i_1 := I.out.c1; replace i_l := I.out.lt; clear b1 HD)
              | (go_at_call 22; (with_reducible refine (VB.out _).mono ?_); rintro e w2 ⟨rfl, b2⟩; replace B := Lib.hid (B.out.below b2 B.out.lt); replace I := Lib.hid (I.out.below b2 I.out.lt); replace BB := Lib.hid (below_more BB.out b2); replace b_0 := B.out.c0; replace b_1 := B.out.c1; replace b_2 := B.out.c2; replace b_l := B.out.lt; replace i_0 := I.out.c0; replace i_1 := I.out.c1; replace i_l := I.out.lt; clear b2 VB)
              | (go_at_call 26; (with_reducible refine (VI.out _).mono ?_); rintro e w3 ⟨rfl, b3⟩; replace B := Lib.hid (B.out.below b3 B.out.lt); replace I := Lib.hid (I.out.below b3 I.out.lt); replace BB := Lib.hid (below_more BB.out b3); replace b_0 := B.out.c0; replace b_1 := B.out.c1; replace b_2 := B.out.c2; replace b_l := B.out.lt; replace i_0 := I.out.c0; replace i_1 := I.out.c1; replace i_l := I.out.lt; clear b3 VI)
              | (go_at_call 18; (with_reducible refine (A1.out _).mono ?_); rintro e w4 ⟨rfl, b4⟩; replace B := Lib.hid ((B.out.below b4 B.out.lt).alloc (.cells #[.int .i64 p, .int .i64 l, .int .i64 h] 25)); replace I := Lib.hid ((I.out.below b4 I.out.lt).alloc (.cells #[.int .i64 p, .int .i64 l, .int .i64 h] 25)); have C := Lib.hid (Three.new w4 25 (.int .i64 p) (.int .i64 l) (.int .i64 h)); replace BB := Lib.hid (below_more BB.out b4); have Gc := Lib.hid BB.out.size; replace BB := Lib.hid (BB.out.alloc BB.out.size (.cells #[.int .i64 p, .int .i64 l, .int .i64 h] 25)); replace b_0 := B.out.c0; replace b_1 := B.out.c1; replace b_2 := B.out.c2; replace b_l := B.out.lt; replace i_0 := I.out.c0; replace i_1 := I.out.c1; replace i_l := I.out.lt; replace c_0 := C.out.c0; replace c_1 := C.out.c1; replace c_2 := C.out.c2; replace c_l := C.out.lt; clear b4 A1)
              | (go_at_call 25; (with_reducible refine (H1.out _).mono ?_); rintro e w5 ⟨rfl, b5⟩; replace B := Lib.hid (B.out.below b5 B.out.lt); replace I := Lib.hid (I.out.below b5 I.out.lt); replace C := Lib.hid (C.out.below b5 C.out.lt); replace BB := Lib.hid (below_more BB.out b5); replace b_0 := B.out.c0; replace b_1 := B.out.c1; replace b_2 := B.out.c2; replace b_l := B.out.lt; replace i_0 := I.out.c0; replace i_1 := I.out.c1; replace i_l := I.out.lt; replace c_0 := C.out.c0; replace c_1 := C.out.c1; replace c_2 := C.out.c2; replace c_l := C.out.lt; clear b5 H1)
              | (go_at_call 22; (with_reducible refine (VC.out _).mono ?_); rintro e w6 ⟨rfl, b6⟩; replace B := Lib.hid (B.out.below b6 B.out.lt); replace I := Lib.hid (I.out.below b6 I.out.lt); replace C := Lib.hid (C.out.below b6 C.out.lt); replace BB := Lib.hid (below_more BB.out b6); replace b_0 := B.out.c0; replace b_1 := B.out.c1; replace b_2 := B.out.c2; replace b_l := B.out.lt; replace i_0 := I.out.c0; replace i_1 := I.out.c1; replace i_l := I.out.lt; replace c_0 := C.out.c0; replace c_1 := C.out.c1; replace c_2 := C.out.c2; replace c_l := C.out.lt; clear b6 VC))
            go_ret
            exact ⟨by simp, BB.out⟩
    · have VI := Lib.hid (rvalid_any i0 j0 false ⟨fun h => (by cases h), fun h => absurd h q2⟩)
      clear q1 q2 G ip il ih ii ij
      unfold rgV at VI ⊢
      unfold blV at VB ⊢
      obtain ⟨W, hW⟩ : ∃ W, ((w.alloc (.cells #[.int .i64 p, .int .i64 l, .int .i64 h] 25)).alloc (.cells #[.int .i64 i0, .int .i64 j0] 23)) = W := ⟨_, rfl⟩
      have B : Hid (Three W (w.heap.size) 25 (.int .i64 p) (.int .i64 l) (.int .i64 h)) := by
        rw [← hW]
        have k := Three.new w 25 (.int .i64 p) (.int .i64 l) (.int .i64 h)
        exact k.alloc _
      have I : Hid (Two W (w.heap.size + 1) 23 (.int .i64 i0) (.int .i64 j0)) := by
        rw [← hW]
        have k := Two.new (w.alloc (.cells #[.int .i64 p, .int .i64 l, .int .i64 h] 25)) 23 (.int .i64 i0) (.int .i64 j0)
        rw [show (w.alloc (.cells #[.int .i64 p, .int .i64 l, .int .i64 h] 25)).heap.size = w.heap.size + 1 by simp] at k
        exact k
      have BB : Hid (Below w.heap.size w W) := by rw [← hW]; exact (below_alloc w _).alloc (by simp) _
      have b_0 := B.out.c0
      have b_1 := B.out.c1
      have b_2 := B.out.c2
      have b_l := B.out.lt
      have i_0 := I.out.c0
      have i_1 := I.out.c1
      have i_l := I.out.lt
      go_enter Try.func8, Try.ntmps8
      go_wp2_with (first
        | (go_at_call 11; (with_reducible refine (HD.out _).mono ?_); rintro e w1 ⟨rfl, b1⟩; replace B := Lib.hid (B.out.below b1 B.out.lt); replace I := Lib.hid (I.out.below b1 I.out.lt); replace BB := Lib.hid (below_more BB.out b1); replace b_0 := B.out.c0; replace b_1 := B.out.c1; replace b_2 := B.out.c2; replace b_l := B.out.lt; replace i_0 := I.out.c0; replace i_1 := I.out.c1; replace i_l := I.out.lt; clear b1 HD)
        | (go_at_call 22; (with_reducible refine (VB.out _).mono ?_); rintro e w2 ⟨rfl, b2⟩; replace B := Lib.hid (B.out.below b2 B.out.lt); replace I := Lib.hid (I.out.below b2 I.out.lt); replace BB := Lib.hid (below_more BB.out b2); replace b_0 := B.out.c0; replace b_1 := B.out.c1; replace b_2 := B.out.c2; replace b_l := B.out.lt; replace i_0 := I.out.c0; replace i_1 := I.out.c1; replace i_l := I.out.lt; clear b2 VB)
        | (go_at_call 26; (with_reducible refine (VI.out _).mono ?_); rintro e w3 ⟨rfl, b3⟩; replace B := Lib.hid (B.out.below b3 B.out.lt); replace I := Lib.hid (I.out.below b3 I.out.lt); replace BB := Lib.hid (below_more BB.out b3); replace b_0 := B.out.c0; replace b_1 := B.out.c1; replace b_2 := B.out.c2; replace b_l := B.out.lt; replace i_0 := I.out.c0; replace i_1 := I.out.c1; replace i_l := I.out.lt; clear b3 VI))
      go_ret
      exact ⟨by simp, BB.out⟩
  · have VB := Lib.hid (rbel_any p l h false ⟨fun h => (by cases h), fun h => absurd h q1⟩ ip)
    clear q1 G ip il ih ii ij
    unfold rgV
    unfold blV at VB ⊢
    obtain ⟨W, hW⟩ : ∃ W, ((w.alloc (.cells #[.int .i64 p, .int .i64 l, .int .i64 h] 25)).alloc (.cells #[.int .i64 i0, .int .i64 j0] 23)) = W := ⟨_, rfl⟩
    have B : Hid (Three W (w.heap.size) 25 (.int .i64 p) (.int .i64 l) (.int .i64 h)) := by
      rw [← hW]
      have k := Three.new w 25 (.int .i64 p) (.int .i64 l) (.int .i64 h)
      exact k.alloc _
    have I : Hid (Two W (w.heap.size + 1) 23 (.int .i64 i0) (.int .i64 j0)) := by
      rw [← hW]
      have k := Two.new (w.alloc (.cells #[.int .i64 p, .int .i64 l, .int .i64 h] 25)) 23 (.int .i64 i0) (.int .i64 j0)
      rw [show (w.alloc (.cells #[.int .i64 p, .int .i64 l, .int .i64 h] 25)).heap.size = w.heap.size + 1 by simp] at k
      exact k
    have BB : Hid (Below w.heap.size w W) := by rw [← hW]; exact (below_alloc w _).alloc (by simp) _
    have b_0 := B.out.c0
    have b_1 := B.out.c1
    have b_2 := B.out.c2
    have b_l := B.out.lt
    have i_0 := I.out.c0
    have i_1 := I.out.c1
    have i_l := I.out.lt
    go_enter Try.func8, Try.ntmps8
    go_wp2_with (first
      | (go_at_call 11; (with_reducible refine (HD.out _).mono ?_); rintro e w1 ⟨rfl, b1⟩; replace B := Lib.hid (B.out.below b1 B.out.lt); replace I := Lib.hid (I.out.below b1 I.out.lt); replace BB := Lib.hid (below_more BB.out b1); replace b_0 := B.out.c0; replace b_1 := B.out.c1; replace b_2 := B.out.c2; replace b_l := B.out.lt; replace i_0 := I.out.c0; replace i_1 := I.out.c1; replace i_l := I.out.lt; clear b1 HD)
      | (go_at_call 22; (with_reducible refine (VB.out _).mono ?_); rintro e w2 ⟨rfl, b2⟩; replace B := Lib.hid (B.out.below b2 B.out.lt); replace I := Lib.hid (I.out.below b2 I.out.lt); replace BB := Lib.hid (below_more BB.out b2); replace b_0 := B.out.c0; replace b_1 := B.out.c1; replace b_2 := B.out.c2; replace b_l := B.out.lt; replace i_0 := I.out.c0; replace i_1 := I.out.c1; replace i_l := I.out.lt; clear b2 VB))
    go_ret
    exact ⟨by simp, BB.out⟩
end Go.Proofs.Ytpfcjffpomdhbaa
