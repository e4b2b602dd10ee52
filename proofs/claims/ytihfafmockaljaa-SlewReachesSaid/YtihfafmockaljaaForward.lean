/- Layer 9: SlewForward (gen/gen_laws.py writes this). -/
import Derived.Test.YtihfafmockaljaaHead
namespace Go.Proofs.Ytihfafmockaljaa
open Go.RowKit Go
set_option linter.unusedVariables false
set_option linter.unusedSimpArgs false

set_option maxRecDepth 100000 in
set_option maxHeartbeats 8000000 in
theorem forward_walk (G : Slw) (p s r a b : Int) (ip : I64 p) (is : I64 s) (ir : I64 r) (ia : I64 a) (ib : I64 b) (w : World) :
    Calls Try.prog 3 #[clV p s r, .int .i64 a, .int .i64 b] w (Gives (.bool true) w) := by
  have HD := Lib.hid (head_true G)
  by_cases c : b < a
  · have d1 : decide (b < a) = true := by simp; omega
    clear c ip is ir ia ib G
    unfold clV
    obtain ⟨W, hW⟩ : ∃ W, (w.alloc (.cells #[.int .i64 p, .int .i64 s, .int .i64 r] 23)) = W := ⟨_, rfl⟩
    have O : Hid (Three W (w.heap.size) 23 (.int .i64 p) (.int .i64 s) (.int .i64 r)) := by
      rw [← hW]
      have k := Three.new w 23 (.int .i64 p) (.int .i64 s) (.int .i64 r)
      exact k
    have BB : Hid (Below w.heap.size w W) := by rw [← hW]; exact below_alloc w _
    have o_0 := O.out.c0
    have o_1 := O.out.c1
    have o_2 := O.out.c2
    have o_l := O.out.lt
    go_enter Try.func3, Try.ntmps3
    go_wp2_with (go_at_call 9; (with_reducible refine (HD.out _).mono ?_); rintro e w1 ⟨rfl, b1⟩; replace O := Lib.hid (O.out.below b1 O.out.lt); replace BB := Lib.hid (below_more BB.out b1); replace o_0 := O.out.c0; replace o_1 := O.out.c1; replace o_2 := O.out.c2; replace o_l := O.out.lt; clear b1 HD)
    go_ret
    exact ⟨by simp, BB.out⟩
  · have d1 : decide (b < a) = false := by simp; omega
    have A1 := Lib.hid (G.shows p s r a ip is ir ia)
    have A2 := Lib.hid (G.shows p s r b ip is ir ib)
    obtain ⟨⟨x, e⟩, hx⟩ : ∃ q, showR p s r a = q := ⟨_, rfl⟩
    obtain ⟨⟨y, f⟩, hy⟩ : ∃ q, showR p s r b = q := ⟨_, rfl⟩
    rw [hx] at A1
    rw [hy] at A2
    dsimp only at A1 A2
    by_cases e0 : e = 0
    · subst e0
      by_cases f0 : f = 0
      · subst f0
        obtain ⟨⟨_, _, c1, c2⟩, ⟨c3, c4⟩, c5, hx1, ⟨c6, c7⟩, _⟩ := show_ok hx
        obtain ⟨_, ⟨c8, c9⟩, _, hy1, ⟨c10, c11⟩, _⟩ := show_ok hy
        have k := part_add (a - p) (b - a) r
        rw [show a - p + (b - a) = b - p by omega] at k
        have k2 := part_small (n := b - a) (by omega) c1 c2
        have K := Lib.hid (rpart_any (b - a) r (by omega) (by omega) c1 c2)
        obtain ⟨n, hn⟩ : ∃ n, b - a = n := ⟨_, rfl⟩
        rw [hn] at k k2 K
        obtain ⟨P, hP⟩ : ∃ P, part n r = P := ⟨_, rfl⟩
        rw [hP] at k k2 K
        have c12 : x ≤ y := by omega
        have hz : y - x - n - P = 0 ∨ y - x - n - P = 1 := by omega
        have n0 : 0 ≤ n := by omega
        have n1 : n ≤ 3000000000000000 := by omega
        clear hx hy hx1 hy1 k hP ip is ir ia ib G c
        unfold clV at A1 A2 ⊢
        rcases hz with hz | hz
        · obtain ⟨W, hW⟩ : ∃ W, (w.alloc (.cells #[.int .i64 p, .int .i64 s, .int .i64 r] 23)) = W := ⟨_, rfl⟩
          have O : Hid (Three W (w.heap.size) 23 (.int .i64 p) (.int .i64 s) (.int .i64 r)) := by
            rw [← hW]
            have k := Three.new w 23 (.int .i64 p) (.int .i64 s) (.int .i64 r)
            exact k
          have BB : Hid (Below w.heap.size w W) := by rw [← hW]; exact below_alloc w _
          have o_0 := O.out.c0
          have o_1 := O.out.c1
          have o_2 := O.out.c2
          have o_l := O.out.lt
          go_enter Try.func3, Try.ntmps3
          go_wp2_with (first
            | (go_at_call 9; (with_reducible refine (HD.out _).mono ?_); rintro e w1 ⟨rfl, b1⟩; replace O := Lib.hid (O.out.below b1 O.out.lt); replace BB := Lib.hid (below_more BB.out b1); replace o_0 := O.out.c0; replace o_1 := O.out.c1; replace o_2 := O.out.c2; replace o_l := O.out.lt; clear b1 HD)
            | (go_at_call 10; (with_reducible refine (A1.out _).mono ?_); rintro e w2 ⟨rfl, b2⟩; replace O := Lib.hid (O.out.below b2 O.out.lt); replace BB := Lib.hid (below_more BB.out b2); replace o_0 := O.out.c0; replace o_1 := O.out.c1; replace o_2 := O.out.c2; replace o_l := O.out.lt; clear b2 A1)
            | (go_at_call 10; (with_reducible refine (A2.out _).mono ?_); rintro e w3 ⟨rfl, b3⟩; replace O := Lib.hid (O.out.below b3 O.out.lt); replace BB := Lib.hid (below_more BB.out b3); replace o_0 := O.out.c0; replace o_1 := O.out.c1; replace o_2 := O.out.c2; replace o_l := O.out.lt; clear b3 A2)
            | (go_at_call 11; (with_reducible refine (K.out _).mono ?_); rintro e w' ⟨rfl, rfl⟩; clear K))
          go_ret
          exact ⟨by simp, BB.out⟩
        · obtain ⟨W, hW⟩ : ∃ W, (w.alloc (.cells #[.int .i64 p, .int .i64 s, .int .i64 r] 23)) = W := ⟨_, rfl⟩
          have O : Hid (Three W (w.heap.size) 23 (.int .i64 p) (.int .i64 s) (.int .i64 r)) := by
            rw [← hW]
            have k := Three.new w 23 (.int .i64 p) (.int .i64 s) (.int .i64 r)
            exact k
          have BB : Hid (Below w.heap.size w W) := by rw [← hW]; exact below_alloc w _
          have o_0 := O.out.c0
          have o_1 := O.out.c1
          have o_2 := O.out.c2
          have o_l := O.out.lt
          go_enter Try.func3, Try.ntmps3
          go_wp2_with (first
            | (go_at_call 9; (with_reducible refine (HD.out _).mono ?_); rintro e w1 ⟨rfl, b1⟩; replace O := Lib.hid (O.out.below b1 O.out.lt); replace BB := Lib.hid (below_more BB.out b1); replace o_0 := O.out.c0; replace o_1 := O.out.c1; replace o_2 := O.out.c2; replace o_l := O.out.lt; clear b1 HD)
            | (go_at_call 10; (with_reducible refine (A1.out _).mono ?_); rintro e w2 ⟨rfl, b2⟩; replace O := Lib.hid (O.out.below b2 O.out.lt); replace BB := Lib.hid (below_more BB.out b2); replace o_0 := O.out.c0; replace o_1 := O.out.c1; replace o_2 := O.out.c2; replace o_l := O.out.lt; clear b2 A1)
            | (go_at_call 10; (with_reducible refine (A2.out _).mono ?_); rintro e w3 ⟨rfl, b3⟩; replace O := Lib.hid (O.out.below b3 O.out.lt); replace BB := Lib.hid (below_more BB.out b3); replace o_0 := O.out.c0; replace o_1 := O.out.c1; replace o_2 := O.out.c2; replace o_l := O.out.lt; clear b3 A2)
            | (go_at_call 11; (with_reducible refine (K.out _).mono ?_); rintro e w' ⟨rfl, rfl⟩; clear K))
          go_ret
          exact ⟨by simp, BB.out⟩
      · have e1 : (f != 0) = true := by simp; omega
        have e2 : (f == 0) = false := by simp; omega
        clear hx hy f0 ip is ir ia ib G c
        unfold clV at A1 A2 ⊢
        obtain ⟨W, hW⟩ : ∃ W, (w.alloc (.cells #[.int .i64 p, .int .i64 s, .int .i64 r] 23)) = W := ⟨_, rfl⟩
        have O : Hid (Three W (w.heap.size) 23 (.int .i64 p) (.int .i64 s) (.int .i64 r)) := by
          rw [← hW]
          have k := Three.new w 23 (.int .i64 p) (.int .i64 s) (.int .i64 r)
          exact k
        have BB : Hid (Below w.heap.size w W) := by rw [← hW]; exact below_alloc w _
        have o_0 := O.out.c0
        have o_1 := O.out.c1
        have o_2 := O.out.c2
        have o_l := O.out.lt
        go_enter Try.func3, Try.ntmps3
        go_wp2_with (first
          | (go_at_call 9; (with_reducible refine (HD.out _).mono ?_); rintro e w1 ⟨rfl, b1⟩; replace O := Lib.hid (O.out.below b1 O.out.lt); replace BB := Lib.hid (below_more BB.out b1); replace o_0 := O.out.c0; replace o_1 := O.out.c1; replace o_2 := O.out.c2; replace o_l := O.out.lt; clear b1 HD)
          | (go_at_call 10; (with_reducible refine (A1.out _).mono ?_); rintro e w2 ⟨rfl, b2⟩; replace O := Lib.hid (O.out.below b2 O.out.lt); replace BB := Lib.hid (below_more BB.out b2); replace o_0 := O.out.c0; replace o_1 := O.out.c1; replace o_2 := O.out.c2; replace o_l := O.out.lt; clear b2 A1)
          | (go_at_call 10; (with_reducible refine (A2.out _).mono ?_); rintro e w3 ⟨rfl, b3⟩; replace O := Lib.hid (O.out.below b3 O.out.lt); replace BB := Lib.hid (below_more BB.out b3); replace o_0 := O.out.c0; replace o_1 := O.out.c1; replace o_2 := O.out.c2; replace o_l := O.out.lt; clear b3 A2))
        go_ret
        exact ⟨by simp, BB.out⟩
    · have e1 : (e != 0) = true := by simp; omega
      have e2 : (e == 0) = false := by simp; omega
      clear hx hy e0 ip is ir ia ib G c
      unfold clV at A1 A2 ⊢
      obtain ⟨W, hW⟩ : ∃ W, (w.alloc (.cells #[.int .i64 p, .int .i64 s, .int .i64 r] 23)) = W := ⟨_, rfl⟩
      have O : Hid (Three W (w.heap.size) 23 (.int .i64 p) (.int .i64 s) (.int .i64 r)) := by
        rw [← hW]
        have k := Three.new w 23 (.int .i64 p) (.int .i64 s) (.int .i64 r)
        exact k
      have BB : Hid (Below w.heap.size w W) := by rw [← hW]; exact below_alloc w _
      have o_0 := O.out.c0
      have o_1 := O.out.c1
      have o_2 := O.out.c2
      have o_l := O.out.lt
      go_enter Try.func3, Try.ntmps3
      go_wp2_with (first
        | (go_at_call 9; (with_reducible refine (HD.out _).mono ?_); rintro e w1 ⟨rfl, b1⟩; replace O := Lib.hid (O.out.below b1 O.out.lt); replace BB := Lib.hid (below_more BB.out b1); replace o_0 := O.out.c0; replace o_1 := O.out.c1; replace o_2 := O.out.c2; replace o_l := O.out.lt; clear b1 HD)
        | (go_at_call 10; (with_reducible refine (A1.out _).mono ?_); rintro e w2 ⟨rfl, b2⟩; replace O := Lib.hid (O.out.below b2 O.out.lt); replace BB := Lib.hid (below_more BB.out b2); replace o_0 := O.out.c0; replace o_1 := O.out.c1; replace o_2 := O.out.c2; replace o_l := O.out.lt; clear b2 A1)
        | (go_at_call 10; (with_reducible refine (A2.out _).mono ?_); rintro e w3 ⟨rfl, b3⟩; replace O := Lib.hid (O.out.below b3 O.out.lt); replace BB := Lib.hid (below_more BB.out b3); replace o_0 := O.out.c0; replace o_1 := O.out.c1; replace o_2 := O.out.c2; replace o_l := O.out.lt; clear b3 A2))
      go_ret
      exact ⟨by simp, BB.out⟩
end Go.Proofs.Ytihfafmockaljaa
