/- Layer 8: BeliefWider (gen/gen_laws3.py writes this). -/
import Derived.Test.YtpfcjffpomdhbaaHead
import Derived.Test.YtpfcjffpomdhbaaBMath
namespace Go.Proofs.Ytpfcjffpomdhbaa
open Go.RowKit Go
set_option linter.unusedVariables false
set_option linter.unusedSimpArgs false

set_option maxRecDepth 100000 in
set_option maxHeartbeats 16000000 in
theorem wider_walk (G : Blf) (p l h u v rt mo a : Int) (ip : I64 p) (il : I64 l) (ih : I64 h) (iu : I64 u) (iv : I64 v) (r1 : 0 ≤ rt) (r2 : rt ≤ 4294967295) (m1 : 0 ≤ mo) (m2 : mo ≤ 4294967295) (ia : I64 a) (w : World) :
    Calls Try.prog 7 #[blV p l h, rgV u v, .int .u32 rt, .int .u32 mo, .int .i64 a] w (Gives (.bool true) w) := by
  have HD := Lib.hid (head_true G)
  by_cases q1 : BOk p l h
  · have VB := Lib.hid (rbel_any p l h true ⟨fun _ => q1, fun _ => rfl⟩ ip)
    by_cases q2 : IvOk u v
    · have VI := Lib.hid (rvalid_any u v true ⟨fun _ => q2, fun _ => rfl⟩)
      rcases (by omega : l < u ∨ (u ≤ l ∧ v < h) ∨ (u ≤ l ∧ h ≤ v)) with c | ⟨c, c2⟩ | ⟨c, c2⟩
      · have d1 : decide (l < u) = true := by simp; omega
        clear q1 q2 c G ip il ih iu iv ia
        unfold rgV at VI ⊢
        unfold blV at VB ⊢
        obtain ⟨W, hW⟩ : ∃ W, ((w.alloc (.cells #[.int .i64 p, .int .i64 l, .int .i64 h] 25)).alloc (.cells #[.int .i64 u, .int .i64 v] 23)) = W := ⟨_, rfl⟩
        have B : Hid (Three W (w.heap.size) 25 (.int .i64 p) (.int .i64 l) (.int .i64 h)) := by
          rw [← hW]
          have k := Three.new w 25 (.int .i64 p) (.int .i64 l) (.int .i64 h)
          exact k.alloc _
        have I : Hid (Two W (w.heap.size + 1) 23 (.int .i64 u) (.int .i64 v)) := by
          rw [← hW]
          have k := Two.new (w.alloc (.cells #[.int .i64 p, .int .i64 l, .int .i64 h] 25)) 23 (.int .i64 u) (.int .i64 v)
          rw [show (w.alloc (.cells #[.int .i64 p, .int .i64 l, .int .i64 h] 25)).heap.size = w.heap.size + 1 by simp] at k
          exact k
        have BB : Hid (Below w.heap.size w W) := by rw [← hW]; exact (below_alloc w _).alloc (by simp) _
        have b_0 := B.out.c0
        have b_1 := B.out.c1
        have b_2 := B.out.c2
        have b_l := B.out.lt
        have i_0 := I.out.c0
        have i_1 := I.out.c1
        have i_l := I.out.lt
        go_enter Try.func7, Try.ntmps7
        go_wp2_with (first
          | (go_at_call 11; (with_reducible refine (HD.out _).mono ?_); rintro e w1 ⟨rfl, b1⟩; replace B := Lib.hid (B.out.below b1 B.out.lt); replace I := Lib.hid (I.out.below b1 I.out.lt); replace BB := Lib.hid (below_more BB.out b1); replace b_0 := B.out.c0; replace b_1 := B.out.c1; replace b_2 := B.out.c2; replace b_l := B.out.lt; replace i_0 := I.out.c0; replace i_1 := I.out.c1; replace i_l := I.out.lt; clear b1 HD)
          | (go_at_call 22; (with_reducible refine (VB.out _).mono ?_); rintro e w2 ⟨rfl, b2⟩; replace B := Lib.hid (B.out.below b2 B.out.lt); replace I := Lib.hid (I.out.below b2 I.out.lt); replace BB := Lib.hid (below_more BB.out b2); replace b_0 := B.out.c0; replace b_1 := B.out.c1; replace b_2 := B.out.c2; replace b_l := B.out.lt; replace i_0 := I.out.c0; replace i_1 := I.out.c1; replace i_l := I.out.lt; clear b2 VB)
          | (go_at_call 26; (with_reducible refine (VI.out _).mono ?_); rintro e w3 ⟨rfl, b3⟩; replace B := Lib.hid (B.out.below b3 B.out.lt); replace I := Lib.hid (I.out.below b3 I.out.lt); replace BB := Lib.hid (below_more BB.out b3); replace b_0 := B.out.c0; replace b_1 := B.out.c1; replace b_2 := B.out.c2; replace b_l := B.out.lt; replace i_0 := I.out.c0; replace i_1 := I.out.c1; replace i_l := I.out.lt; clear b3 VI))
        go_ret
        exact ⟨by simp, BB.out⟩
      · have d1 : decide (l < u) = false := by simp; omega
        have d2 : decide (v < h) = true := by simp; omega
        clear q1 q2 c c2 G ip il ih iu iv ia
        unfold rgV at VI ⊢
        unfold blV at VB ⊢
        obtain ⟨W, hW⟩ : ∃ W, ((w.alloc (.cells #[.int .i64 p, .int .i64 l, .int .i64 h] 25)).alloc (.cells #[.int .i64 u, .int .i64 v] 23)) = W := ⟨_, rfl⟩
        have B : Hid (Three W (w.heap.size) 25 (.int .i64 p) (.int .i64 l) (.int .i64 h)) := by
          rw [← hW]
          have k := Three.new w 25 (.int .i64 p) (.int .i64 l) (.int .i64 h)
          exact k.alloc _
        have I : Hid (Two W (w.heap.size + 1) 23 (.int .i64 u) (.int .i64 v)) := by
          rw [← hW]
          have k := Two.new (w.alloc (.cells #[.int .i64 p, .int .i64 l, .int .i64 h] 25)) 23 (.int .i64 u) (.int .i64 v)
          rw [show (w.alloc (.cells #[.int .i64 p, .int .i64 l, .int .i64 h] 25)).heap.size = w.heap.size + 1 by simp] at k
          exact k
        have BB : Hid (Below w.heap.size w W) := by rw [← hW]; exact (below_alloc w _).alloc (by simp) _
        have b_0 := B.out.c0
        have b_1 := B.out.c1
        have b_2 := B.out.c2
        have b_l := B.out.lt
        have i_0 := I.out.c0
        have i_1 := I.out.c1
        have i_l := I.out.lt
        go_enter Try.func7, Try.ntmps7
        go_wp2_with (first
          | (go_at_call 11; (with_reducible refine (HD.out _).mono ?_); rintro e w1 ⟨rfl, b1⟩; replace B := Lib.hid (B.out.below b1 B.out.lt); replace I := Lib.hid (I.out.below b1 I.out.lt); replace BB := Lib.hid (below_more BB.out b1); replace b_0 := B.out.c0; replace b_1 := B.out.c1; replace b_2 := B.out.c2; replace b_l := B.out.lt; replace i_0 := I.out.c0; replace i_1 := I.out.c1; replace i_l := I.out.lt; clear b1 HD)
          | (go_at_call 22; (with_reducible refine (VB.out _).mono ?_); rintro e w2 ⟨rfl, b2⟩; replace B := Lib.hid (B.out.below b2 B.out.lt); replace I := Lib.hid (I.out.below b2 I.out.lt); replace BB := Lib.hid (below_more BB.out b2); replace b_0 := B.out.c0; replace b_1 := B.out.c1; replace b_2 := B.out.c2; replace b_l := B.out.lt; replace i_0 := I.out.c0; replace i_1 := I.out.c1; replace i_l := I.out.lt; clear b2 VB)
          | (go_at_call 26; (with_reducible refine (VI.out _).mono ?_); rintro e w3 ⟨rfl, b3⟩; replace B := Lib.hid (B.out.below b3 B.out.lt); replace I := Lib.hid (I.out.below b3 I.out.lt); replace BB := Lib.hid (below_more BB.out b3); replace b_0 := B.out.c0; replace b_1 := B.out.c1; replace b_2 := B.out.c2; replace b_l := B.out.lt; replace i_0 := I.out.c0; replace i_1 := I.out.c1; replace i_l := I.out.lt; clear b3 VI))
        go_ret
        exact ⟨by simp, BB.out⟩
      · have d1 : decide (l < u) = false := by simp; omega
        have d2 : decide (v < h) = false := by simp; omega
        obtain ⟨r, hr⟩ : ∃ r, rt % 1000001 = r := ⟨_, rfl⟩
        obtain ⟨k, hk⟩ : ∃ k, mo % 1000000 = k := ⟨_, rfl⟩
        obtain ⟨s, hs⟩ : ∃ s, min 1000000 (r + k) = s := ⟨_, rfl⟩
        have hr' : rt.tmod 1000001 = r := by rw [← hr]; exact Int.tmod_eq_emod_of_nonneg r1
        have g1 : 0 ≤ r := by omega
        have g2 : r ≤ 1000000 := by omega
        have g3 : r ≤ s := by omega
        have g4 : s ≤ 1000000 := by omega
        have g5 : 0 ≤ k := by omega
        have g6 : k ≤ 1000000 := by omega
        obtain ⟨x, y, z, t, e, E1, E2, EF⟩ := wider_at (a := a) q1 q2 c c2 ⟨g1, g2⟩ ⟨by omega, g4⟩ g3
        have A1 := Lib.hid (G.at_ p l h r a ip il ih ⟨by omega, by omega⟩ ia)
        have A2 := Lib.hid (G.at_ p u v s a ip iu iv ⟨by omega, by omega⟩ ia)
        rw [E1] at A1
        rw [E2] at A2
        dsimp only at A1 A2
        clear q1 q2 c c2 G ip il ih iu iv ia E1 E2
        unfold rgV at VI A1 A2 ⊢
        unfold blV at VB A1 A2 ⊢
        obtain ⟨W, hW⟩ : ∃ W, ((w.alloc (.cells #[.int .i64 p, .int .i64 l, .int .i64 h] 25)).alloc (.cells #[.int .i64 u, .int .i64 v] 23)) = W := ⟨_, rfl⟩
        have B : Hid (Three W (w.heap.size) 25 (.int .i64 p) (.int .i64 l) (.int .i64 h)) := by
          rw [← hW]
          have k := Three.new w 25 (.int .i64 p) (.int .i64 l) (.int .i64 h)
          exact k.alloc _
        have I : Hid (Two W (w.heap.size + 1) 23 (.int .i64 u) (.int .i64 v)) := by
          rw [← hW]
          have k := Two.new (w.alloc (.cells #[.int .i64 p, .int .i64 l, .int .i64 h] 25)) 23 (.int .i64 u) (.int .i64 v)
          rw [show (w.alloc (.cells #[.int .i64 p, .int .i64 l, .int .i64 h] 25)).heap.size = w.heap.size + 1 by simp] at k
          exact k
        have BB : Hid (Below w.heap.size w W) := by rw [← hW]; exact (below_alloc w _).alloc (by simp) _
        have b_0 := B.out.c0
        have b_1 := B.out.c1
        have b_2 := B.out.c2
        have b_l := B.out.lt
        have i_0 := I.out.c0
        have i_1 := I.out.c1
        have i_l := I.out.lt
        by_cases q : e = 0
        · subst q
          obtain ⟨e1, e2, e3⟩ := EF rfl
          have f1 : decide (z ≤ x) = true := by simp; omega
          have f2 : decide (y ≤ t) = true := by simp; omega
          have f3 : decide (x ≤ y) = true := by simp; omega
          clear EF
          go_enter Try.func7, Try.ntmps7
          go_wp2_with (first
            | (go_at_call 11; (with_reducible refine (HD.out _).mono ?_); rintro e w1 ⟨rfl, b1⟩; replace B := Lib.hid (B.out.below b1 B.out.lt); replace I := Lib.hid (I.out.below b1 I.out.lt); replace BB := Lib.hid (below_more BB.out b1); replace b_0 := B.out.c0; replace b_1 := B.out.c1; replace b_2 := B.out.c2; replace b_l := B.out.lt; replace i_0 := I.out.c0; replace i_1 := I.out.c1; replace i_l := I.out.lt; clear b1 HD)
            | (go_at_call 22; (with_reducible refine (VB.out _).mono ?_); rintro e w2 ⟨rfl, b2⟩; replace B := Lib.hid (B.out.below b2 B.out.lt); replace I := Lib.hid (I.out.below b2 I.out.lt); replace BB := Lib.hid (below_more BB.out b2); replace b_0 := B.out.c0; replace b_1 := B.out.c1; replace b_2 := B.out.c2; replace b_l := B.out.lt; replace i_0 := I.out.c0; replace i_1 := I.out.c1; replace i_l := I.out.lt; clear b2 VB)
            | (go_at_call 26; (with_reducible refine (VI.out _).mono ?_); rintro e w3 ⟨rfl, b3⟩; replace B := Lib.hid (B.out.below b3 B.out.lt); replace I := Lib.hid (I.out.below b3 I.out.lt); replace BB := Lib.hid (below_more BB.out b3); replace b_0 := B.out.c0; replace b_1 := B.out.c1; replace b_2 := B.out.c2; replace b_l := B.out.lt; replace i_0 := I.out.c0; replace i_1 := I.out.c1; replace i_l := I.out.lt; clear b3 VI)
            | (go_at_call 14; (with_reducible refine (A1.out _).mono ?_); rintro e w4 ⟨rfl, b4⟩; replace B := Lib.hid ((B.out.below b4 B.out.lt).alloc (.cells #[.int .i64 x, .int .i64 y] 23)); replace I := Lib.hid ((I.out.below b4 I.out.lt).alloc (.cells #[.int .i64 x, .int .i64 y] 23)); have K := Lib.hid (Two.new w4 23 (.int .i64 x) (.int .i64 y)); replace BB := Lib.hid (below_more BB.out b4); have Gk := Lib.hid BB.out.size; replace BB := Lib.hid (BB.out.alloc BB.out.size (.cells #[.int .i64 x, .int .i64 y] 23)); replace b_0 := B.out.c0; replace b_1 := B.out.c1; replace b_2 := B.out.c2; replace b_l := B.out.lt; replace i_0 := I.out.c0; replace i_1 := I.out.c1; replace i_l := I.out.lt; replace k_0 := K.out.c0; replace k_1 := K.out.c1; replace k_l := K.out.lt; clear b4 A1)
            | (go_at_call 14; (with_reducible refine (A2.out _).mono ?_); rintro e w5 ⟨rfl, b5⟩; replace B := Lib.hid ((B.out.below b5 B.out.lt).alloc (.cells #[.int .i64 z, .int .i64 t] 23)); replace I := Lib.hid ((I.out.below b5 I.out.lt).alloc (.cells #[.int .i64 z, .int .i64 t] 23)); replace K := Lib.hid ((K.out.below b5 K.out.lt).alloc (.cells #[.int .i64 z, .int .i64 t] 23)); have M := Lib.hid (Two.new w5 23 (.int .i64 z) (.int .i64 t)); replace BB := Lib.hid (below_more BB.out b5); have Gm := Lib.hid BB.out.size; replace BB := Lib.hid (BB.out.alloc BB.out.size (.cells #[.int .i64 z, .int .i64 t] 23)); replace b_0 := B.out.c0; replace b_1 := B.out.c1; replace b_2 := B.out.c2; replace b_l := B.out.lt; replace i_0 := I.out.c0; replace i_1 := I.out.c1; replace i_l := I.out.lt; replace k_0 := K.out.c0; replace k_1 := K.out.c1; replace k_l := K.out.lt; replace m_0 := M.out.c0; replace m_1 := M.out.c1; replace m_l := M.out.lt; clear b5 A2))
          go_ret
          exact ⟨by simp, BB.out⟩
        · have f1 : (e != 0) = true := by simp; omega
          have f2 : (e == 0) = false := by simp; omega
          clear EF q
          go_enter Try.func7, Try.ntmps7
          go_wp2_with (first
            | (go_at_call 11; (with_reducible refine (HD.out _).mono ?_); rintro e w1 ⟨rfl, b1⟩; replace B := Lib.hid (B.out.below b1 B.out.lt); replace I := Lib.hid (I.out.below b1 I.out.lt); replace BB := Lib.hid (below_more BB.out b1); replace b_0 := B.out.c0; replace b_1 := B.out.c1; replace b_2 := B.out.c2; replace b_l := B.out.lt; replace i_0 := I.out.c0; replace i_1 := I.out.c1; replace i_l := I.out.lt; clear b1 HD)
            | (go_at_call 22; (with_reducible refine (VB.out _).mono ?_); rintro e w2 ⟨rfl, b2⟩; replace B := Lib.hid (B.out.below b2 B.out.lt); replace I := Lib.hid (I.out.below b2 I.out.lt); replace BB := Lib.hid (below_more BB.out b2); replace b_0 := B.out.c0; replace b_1 := B.out.c1; replace b_2 := B.out.c2; replace b_l := B.out.lt; replace i_0 := I.out.c0; replace i_1 := I.out.c1; replace i_l := I.out.lt; clear b2 VB)
            | (go_at_call 26; (with_reducible refine (VI.out _).mono ?_); rintro e w3 ⟨rfl, b3⟩; replace B := Lib.hid (B.out.below b3 B.out.lt); replace I := Lib.hid (I.out.below b3 I.out.lt); replace BB := Lib.hid (below_more BB.out b3); replace b_0 := B.out.c0; replace b_1 := B.out.c1; replace b_2 := B.out.c2; replace b_l := B.out.lt; replace i_0 := I.out.c0; replace i_1 := I.out.c1; replace i_l := I.out.lt; clear b3 VI)
            | (go_at_call 14; (with_reducible refine (A1.out _).mono ?_); rintro e w4 ⟨rfl, b4⟩; replace B := Lib.hid ((B.out.below b4 B.out.lt).alloc (.cells #[.int .i64 x, .int .i64 y] 23)); replace I := Lib.hid ((I.out.below b4 I.out.lt).alloc (.cells #[.int .i64 x, .int .i64 y] 23)); have K := Lib.hid (Two.new w4 23 (.int .i64 x) (.int .i64 y)); replace BB := Lib.hid (below_more BB.out b4); have Gk := Lib.hid BB.out.size; replace BB := Lib.hid (BB.out.alloc BB.out.size (.cells #[.int .i64 x, .int .i64 y] 23)); replace b_0 := B.out.c0; replace b_1 := B.out.c1; replace b_2 := B.out.c2; replace b_l := B.out.lt; replace i_0 := I.out.c0; replace i_1 := I.out.c1; replace i_l := I.out.lt; replace k_0 := K.out.c0; replace k_1 := K.out.c1; replace k_l := K.out.lt; clear b4 A1)
            | (go_at_call 14; (with_reducible refine (A2.out _).mono ?_); rintro e w5 ⟨rfl, b5⟩; replace B := Lib.hid ((B.out.below b5 B.out.lt).alloc (.cells #[.int .i64 z, .int .i64 t] 23)); replace I := Lib.hid ((I.out.below b5 I.out.lt).alloc (.cells #[.int .i64 z, .int .i64 t] 23)); replace K := Lib.hid ((K.out.below b5 K.out.lt).alloc (.cells #[.int .i64 z, .int .i64 t] 23)); have M := Lib.hid (Two.new w5 23 (.int .i64 z) (.int .i64 t)); replace BB := Lib.hid (below_more BB.out b5); have Gm := Lib.hid BB.out.size; replace BB := Lib.hid (BB.out.alloc BB.out.size (.cells #[.int .i64 z, .int .i64 t] 23)); replace b_0 := B.out.c0; replace b_1 := B.out.c1; replace b_2 := B.out.c2; replace b_l := B.out.lt; replace i_0 := I.out.c0; replace i_1 := I.out.c1; replace i_l := I.out.lt; replace k_0 := K.out.c0; replace k_1 := K.out.c1; replace k_l := K.out.lt; replace m_0 := M.out.c0; replace m_1 := M.out.c1; replace m_l := M.out.lt; clear b5 A2))
          go_ret
          exact ⟨by simp, BB.out⟩
    · have VI := Lib.hid (rvalid_any u v false ⟨fun h => (by cases h), fun h => absurd h q2⟩)
      clear q1 q2 G ip il ih iu iv ia
      unfold rgV at VI ⊢
      unfold blV at VB ⊢
      obtain ⟨W, hW⟩ : ∃ W, ((w.alloc (.cells #[.int .i64 p, .int .i64 l, .int .i64 h] 25)).alloc (.cells #[.int .i64 u, .int .i64 v] 23)) = W := ⟨_, rfl⟩
      have B : Hid (Three W (w.heap.size) 25 (.int .i64 p) (.int .i64 l) (.int .i64 h)) := by
        rw [← hW]
        have k := Three.new w 25 (.int .i64 p) (.int .i64 l) (.int .i64 h)
        exact k.alloc _
      have I : Hid (Two W (w.heap.size + 1) 23 (.int .i64 u) (.int .i64 v)) := by
        rw [← hW]
        have k := Two.new (w.alloc (.cells #[.int .i64 p, .int .i64 l, .int .i64 h] 25)) 23 (.int .i64 u) (.int .i64 v)
        rw [show (w.alloc (.cells #[.int .i64 p, .int .i64 l, .int .i64 h] 25)).heap.size = w.heap.size + 1 by simp] at k
        exact k
      have BB : Hid (Below w.heap.size w W) := by rw [← hW]; exact (below_alloc w _).alloc (by simp) _
      have b_0 := B.out.c0
      have b_1 := B.out.c1
      have b_2 := B.out.c2
      have b_l := B.out.lt
      have i_0 := I.out.c0
      have i_1 := I.out.c1
      have i_l := I.out.lt
      go_enter Try.func7, Try.ntmps7
      go_wp2_with (first
        | (go_at_call 11; (with_reducible refine (HD.out _).mono ?_); rintro e w1 ⟨rfl, b1⟩; replace B := Lib.hid (B.out.below b1 B.out.lt); replace I := Lib.hid (I.out.below b1 I.out.lt); replace BB := Lib.hid (below_more BB.out b1); replace b_0 := B.out.c0; replace b_1 := B.out.c1; replace b_2 := B.out.c2; replace b_l := B.out.lt; replace i_0 := I.out.c0; replace i_1 := I.out.c1; replace i_l := I.out.lt; clear b1 HD)
        | (go_at_call 22; (with_reducible refine (VB.out _).mono ?_); rintro e w2 ⟨rfl, b2⟩; replace B := Lib.hid (B.out.below b2 B.out.lt); replace I := Lib.hid (I.out.below b2 I.out.lt); replace BB := Lib.hid (below_more BB.out b2); replace b_0 := B.out.c0; replace b_1 := B.out.c1; replace b_2 := B.out.c2; replace b_l := B.out.lt; replace i_0 := I.out.c0; replace i_1 := I.out.c1; replace i_l := I.out.lt; clear b2 VB)
        | (go_at_call 26; (with_reducible refine (VI.out _).mono ?_); rintro e w3 ⟨rfl, b3⟩; replace B := Lib.hid (B.out.below b3 B.out.lt); replace I := Lib.hid (I.out.below b3 I.out.lt); replace BB := Lib.hid (below_more BB.out b3); replace b_0 := B.out.c0; replace b_1 := B.out.c1; replace b_2 := B.out.c2; replace b_l := B.out.lt; replace i_0 := I.out.c0; replace i_1 := I.out.c1; replace i_l := I.out.lt; clear b3 VI))
      go_ret
      exact ⟨by simp, BB.out⟩
  · have VB := Lib.hid (rbel_any p l h false ⟨fun h => (by cases h), fun h => absurd h q1⟩ ip)
    clear q1 G ip il ih iu iv ia
    unfold rgV
    unfold blV at VB ⊢
    obtain ⟨W, hW⟩ : ∃ W, ((w.alloc (.cells #[.int .i64 p, .int .i64 l, .int .i64 h] 25)).alloc (.cells #[.int .i64 u, .int .i64 v] 23)) = W := ⟨_, rfl⟩
    have B : Hid (Three W (w.heap.size) 25 (.int .i64 p) (.int .i64 l) (.int .i64 h)) := by
      rw [← hW]
      have k := Three.new w 25 (.int .i64 p) (.int .i64 l) (.int .i64 h)
      exact k.alloc _
    have I : Hid (Two W (w.heap.size + 1) 23 (.int .i64 u) (.int .i64 v)) := by
      rw [← hW]
      have k := Two.new (w.alloc (.cells #[.int .i64 p, .int .i64 l, .int .i64 h] 25)) 23 (.int .i64 u) (.int .i64 v)
      rw [show (w.alloc (.cells #[.int .i64 p, .int .i64 l, .int .i64 h] 25)).heap.size = w.heap.size + 1 by simp] at k
      exact k
    have BB : Hid (Below w.heap.size w W) := by rw [← hW]; exact (below_alloc w _).alloc (by simp) _
    have b_0 := B.out.c0
    have b_1 := B.out.c1
    have b_2 := B.out.c2
    have b_l := B.out.lt
    have i_0 := I.out.c0
    have i_1 := I.out.c1
    have i_l := I.out.lt
    go_enter Try.func7, Try.ntmps7
    go_wp2_with (first
      | (go_at_call 11; (with_reducible refine (HD.out _).mono ?_); rintro e w1 ⟨rfl, b1⟩; replace B := Lib.hid (B.out.below b1 B.out.lt); replace I := Lib.hid (I.out.below b1 I.out.lt); replace BB := Lib.hid (below_more BB.out b1); replace b_0 := B.out.c0; replace b_1 := B.out.c1; replace b_2 := B.out.c2; replace b_l := B.out.lt; replace i_0 := I.out.c0; replace i_1 := I.out.c1; replace i_l := I.out.lt; clear b1 HD)
      | (go_at_call 22; (with_reducible refine (VB.out _).mono ?_); rintro e w2 ⟨rfl, b2⟩; replace B := Lib.hid (B.out.below b2 B.out.lt); replace I := Lib.hid (I.out.below b2 I.out.lt); replace BB := Lib.hid (below_more BB.out b2); replace b_0 := B.out.c0; replace b_1 := B.out.c1; replace b_2 := B.out.c2; replace b_l := B.out.lt; replace i_0 := I.out.c0; replace i_1 := I.out.c1; replace i_l := I.out.lt; clear b2 VB))
    go_ret
    exact ⟨by simp, BB.out⟩
end Go.Proofs.Ytpfcjffpomdhbaa
