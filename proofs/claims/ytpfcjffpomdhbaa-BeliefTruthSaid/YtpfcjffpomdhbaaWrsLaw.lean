/- Layer 8: BeliefWorst (gen/gen_laws2.py writes this). -/
import Derived.Test.YtpfcjffpomdhbaaHead
namespace Go.Proofs.Ytpfcjffpomdhbaa
open Go.RowKit Go
set_option linter.unusedVariables false
set_option linter.unusedSimpArgs false

set_option maxRecDepth 100000 in
set_option maxHeartbeats 8000000 in
theorem worst_walk (G : Blf) (l h n k : Int) (il : I64 l) (ih : I64 h) (n1 : 0 ≤ n) (n2 : n ≤ 18446744073709551615) (k1 : 0 ≤ k) (k2 : k ≤ 18446744073709551615) (w : World) :
    Calls Try.prog 9 #[rgV l h, .int .u64 n, .int .u64 k] w (Gives (.bool true) w) := by
  have HD := Lib.hid (head_true G)
  by_cases q : IvOk l h
  · have VI := Lib.hid (rvalid_any l h true ⟨fun _ => q, fun _ => rfl⟩)
    obtain ⟨s, hs⟩ : ∃ s, n % 3000000000000001 = s := ⟨_, rfl⟩
    have s1 : 0 ≤ s := by omega
    have s2 : s ≤ 3000000000000000 := by omega
    have A1 := Lib.hid (G.wrs l h s il ih ⟨by omega, by omega⟩)
    have IN := Lib.hid (ins_any l h k q k1 k2)
    obtain ⟨t1, t2⟩ := ins_in (n := k) q
    rw [show wrsR l h s = (max (s - l) (h - s), 0) from if_pos ⟨q, s1, s2⟩] at A1
    dsimp only at A1
    generalize insR l h k = t at IN t1 t2
    obtain ⟨z1, z2, z3⟩ := q
    obtain ⟨m, hm⟩ : ∃ m, max (s - l) (h - s) = m := ⟨_, rfl⟩
    rw [hm] at A1
    have g1 : t - s ≤ m := by omega
    have g2 : -(t - s) ≤ m := by omega
    have g3 : m ≤ 3000000000000000 := by omega
    have g4 : -3000000000000000 ≤ m := by omega
    have d1 : decide (t - s ≤ m) = true := by simp; omega
    have d2 : decide (-(t - s) ≤ m) = true := by simp; omega
    unfold rgV at A1 VI IN ⊢
    clear G il ih
    by_cases c : m = s - l
    · have e1 : (m == s - l) = true := by simp [c]
      have HM := Lib.hid hm
      have HC := Lib.hid c
      clear hm c
      obtain ⟨W, hW⟩ : ∃ W, (w.alloc (.cells #[.int .i64 l, .int .i64 h] 23)) = W := ⟨_, rfl⟩
      have I : Hid (Two W (w.heap.size) 23 (.int .i64 l) (.int .i64 h)) := by
        rw [← hW]
        have k := Two.new w 23 (.int .i64 l) (.int .i64 h)
        exact k
      have BB : Hid (Below w.heap.size w W) := by rw [← hW]; exact below_alloc w _
      have i_0 := I.out.c0
      have i_1 := I.out.c1
      have i_l := I.out.lt
      go_enter Try.func9, Try.ntmps9
      go_wp2_with (first
        | (go_at_call 11; (with_reducible refine (HD.out _).mono ?_); rintro e w1 ⟨rfl, b1⟩; replace I := Lib.hid (I.out.below b1 I.out.lt); replace BB := Lib.hid (below_more BB.out b1); replace i_0 := I.out.c0; replace i_1 := I.out.c1; replace i_l := I.out.lt; clear b1 HD)
        | (go_at_call 26; (with_reducible refine (VI.out _).mono ?_); rintro e w2 ⟨rfl, b2⟩; replace I := Lib.hid (I.out.below b2 I.out.lt); replace BB := Lib.hid (below_more BB.out b2); replace i_0 := I.out.c0; replace i_1 := I.out.c1; replace i_l := I.out.lt; clear b2 VI)
        | (go_at_call 20; (with_reducible refine (A1.out _).mono ?_); rintro e w3 ⟨rfl, b3⟩; replace I := Lib.hid (I.out.below b3 I.out.lt); replace BB := Lib.hid (below_more BB.out b3); replace i_0 := I.out.c0; replace i_1 := I.out.c1; replace i_l := I.out.lt; clear b3 A1)
        | (go_at_call 24; (with_reducible refine (IN.out _).mono ?_); rintro e w4 ⟨rfl, b4⟩; replace I := Lib.hid (I.out.below b4 I.out.lt); replace BB := Lib.hid (below_more BB.out b4); replace i_0 := I.out.c0; replace i_1 := I.out.c1; replace i_l := I.out.lt; clear b4 IN))
      go_ret
      exact ⟨by simp, BB.out⟩
    · have e1 : (m == s - l) = false := by simp; omega
      have e2 : (m == h - s) = true := by simp; omega
      have HM := Lib.hid hm
      clear hm c
      obtain ⟨W, hW⟩ : ∃ W, (w.alloc (.cells #[.int .i64 l, .int .i64 h] 23)) = W := ⟨_, rfl⟩
      have I : Hid (Two W (w.heap.size) 23 (.int .i64 l) (.int .i64 h)) := by
        rw [← hW]
        have k := Two.new w 23 (.int .i64 l) (.int .i64 h)
        exact k
      have BB : Hid (Below w.heap.size w W) := by rw [← hW]; exact below_alloc w _
      have i_0 := I.out.c0
      have i_1 := I.out.c1
      have i_l := I.out.lt
      go_enter Try.func9, Try.ntmps9
      go_wp2_with (first
        | (go_at_call 11; (with_reducible refine (HD.out _).mono ?_); rintro e w1 ⟨rfl, b1⟩; replace I := Lib.hid (I.out.below b1 I.out.lt); replace BB := Lib.hid (below_more BB.out b1); replace i_0 := I.out.c0; replace i_1 := I.out.c1; replace i_l := I.out.lt; clear b1 HD)
        | (go_at_call 26; (with_reducible refine (VI.out _).mono ?_); rintro e w2 ⟨rfl, b2⟩; replace I := Lib.hid (I.out.below b2 I.out.lt); replace BB := Lib.hid (below_more BB.out b2); replace i_0 := I.out.c0; replace i_1 := I.out.c1; replace i_l := I.out.lt; clear b2 VI)
        | (go_at_call 20; (with_reducible refine (A1.out _).mono ?_); rintro e w3 ⟨rfl, b3⟩; replace I := Lib.hid (I.out.below b3 I.out.lt); replace BB := Lib.hid (below_more BB.out b3); replace i_0 := I.out.c0; replace i_1 := I.out.c1; replace i_l := I.out.lt; clear b3 A1)
        | (go_at_call 24; (with_reducible refine (IN.out _).mono ?_); rintro e w4 ⟨rfl, b4⟩; replace I := Lib.hid (I.out.below b4 I.out.lt); replace BB := Lib.hid (below_more BB.out b4); replace i_0 := I.out.c0; replace i_1 := I.out.c1; replace i_l := I.out.lt; clear b4 IN))
      go_ret
      exact ⟨by simp, BB.out⟩
  · have VI := Lib.hid (rvalid_any l h false ⟨fun h => (by cases h), fun h => absurd h q⟩)
    clear q G
    unfold rgV at VI ⊢
    obtain ⟨W, hW⟩ : ∃ W, (w.alloc (.cells #[.int .i64 l, .int .i64 h] 23)) = W := ⟨_, rfl⟩
    have I : Hid (Two W (w.heap.size) 23 (.int .i64 l) (.int .i64 h)) := by
      rw [← hW]
      have k := Two.new w 23 (.int .i64 l) (.int .i64 h)
      exact k
    have BB : Hid (Below w.heap.size w W) := by rw [← hW]; exact below_alloc w _
    have i_0 := I.out.c0
    have i_1 := I.out.c1
    have i_l := I.out.lt
    go_enter Try.func9, Try.ntmps9
    go_wp2_with (first
      | (go_at_call 11; (with_reducible refine (HD.out _).mono ?_); rintro e w1 ⟨rfl, b1⟩; replace I := Lib.hid (I.out.below b1 I.out.lt); replace BB := Lib.hid (below_more BB.out b1); replace i_0 := I.out.c0; replace i_1 := I.out.c1; replace i_l := I.out.lt; clear b1 HD)
      | (go_at_call 26; (with_reducible refine (VI.out _).mono ?_); rintro e w2 ⟨rfl, b2⟩; replace I := Lib.hid (I.out.below b2 I.out.lt); replace BB := Lib.hid (below_more BB.out b2); replace i_0 := I.out.c0; replace i_1 := I.out.c1; replace i_l := I.out.lt; clear b2 VI))
    go_ret
    exact ⟨by simp, BB.out⟩
end Go.Proofs.Ytpfcjffpomdhbaa
