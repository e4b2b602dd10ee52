/- Layer 9: SlewJumps (gen/gen_laws.py writes this). -/
import Derived.Test.YtihfafmockaljaaHead
namespace Go.Proofs.Ytihfafmockaljaa
open Go.RowKit Go
set_option linter.unusedVariables false
set_option linter.unusedSimpArgs false

set_option maxRecDepth 100000 in
set_option maxHeartbeats 8000000 in
theorem jumps_walk (G : Slw) (p s r a v m h : Int) (ip : I64 p) (is : I64 s) (ir : I64 r) (ia : I64 a) (iv : I64 v) (im : I64 m) (ih : I64 h) (w : World) :
    Calls Try.prog 4 #[clV p s r, .int .i64 a, .int .i64 v, .int .i64 m, .int .i64 h] w (Gives (.bool true) w) := by
  have HD := Lib.hid (head_true G)
  have A1 := Lib.hid (G.steer p s r a v m h ip is ir ia iv im ih)
  obtain ⟨⟨x, y, z, e⟩, hs⟩ : ∃ q, steerR p s r a v m h = q := ⟨_, rfl⟩
  rw [hs] at A1
  dsimp only at A1
  by_cases e0 : e = 0
  · subst e0
    obtain ⟨⟨_, _, _, m1, m2, h1, h2⟩, rfl, hx, hz, hc, z1, z2⟩ := steer_ok hs
    have A2 := Lib.hid (G.shows p s r x ip is ir ia)
    have A3 := Lib.hid (G.shows x y z x ia ⟨by have := hc.2.1.1; omega, by have := hc.2.1.2; omega⟩ ⟨by have := hc.2.2.1; omega, by have := hc.2.2.2; omega⟩ ia)
    rw [hx] at A2
    rw [show_now hc] at A3
    dsimp only at A2 A3
    have sp := speed_in (d := v - y) (lim := m) (h := h) m1 (by omega)
    rw [← hz] at sp
    have g1 : v ≤ y ∨ 0 ≤ z := by omega
    have g2 : y ≤ v ∨ z ≤ 0 := by omega
    have g3 : ¬ v = y ∨ z = 0 := by omega
    have j1 : z ≥ -m := by omega
    have gg : (v < y ∧ z ≤ 0 ∧ (v != y) = true ∧ (v == y) = false) ∨ (v = y ∧ z = 0) ∨ (y < v ∧ 0 ≤ z ∧ (v != y) = true ∧ (v == y) = false) := by
      rcases (by omega : v < y ∨ v = y ∨ y < v) with q | q | q
      · exact .inl ⟨q, by omega, by simp; omega, by simp; omega⟩
      · exact .inr (.inl ⟨q, by omega⟩)
      · exact .inr (.inr ⟨q, by omega, by simp; omega, by simp; omega⟩)
    clear sp hz hx hs hc g1 g2 g3 ip is ir iv im ih G
    obtain ⟨i1, i2⟩ := ia
    unfold clV at A1 A2 A3 ⊢
    rcases gg with ⟨q1, q2, q3, q4⟩ | ⟨rfl, rfl⟩ | ⟨q1, q2, q3, q4⟩
    · obtain ⟨W, hW⟩ : ∃ W, (w.alloc (.cells #[.int .i64 p, .int .i64 s, .int .i64 r] 23)) = W := ⟨_, rfl⟩
      have O : Hid (Three W (w.heap.size) 23 (.int .i64 p) (.int .i64 s) (.int .i64 r)) := by
        rw [← hW]
        have k := Three.new w 23 (.int .i64 p) (.int .i64 s) (.int .i64 r)
        exact k
      have BB : Hid (Below w.heap.size w W) := by rw [← hW]; exact below_alloc w _
      have o_0 := O.out.c0
      have o_1 := O.out.c1
      have o_2 := O.out.c2
      have o_l := O.out.lt
      go_enter Try.func4, Try.ntmps4
      go_wp2_with (first
        | (go_at_call 9; (with_reducible refine (HD.out _).mono ?_); rintro e w1 ⟨rfl, b1⟩; replace O := Lib.hid (O.out.below b1 O.out.lt); replace BB := Lib.hid (below_more BB.out b1); replace o_0 := O.out.c0; replace o_1 := O.out.c1; replace o_2 := O.out.c2; replace o_l := O.out.lt; clear b1 HD)
        | (go_at_call 12; (with_reducible refine (A1.out _).mono ?_); rintro e w2 ⟨rfl, b2⟩; replace O := Lib.hid ((O.out.below b2 O.out.lt).alloc (.cells #[.int .i64 x, .int .i64 y, .int .i64 z] 23)); have C := Lib.hid (Three.new w2 23 (.int .i64 x) (.int .i64 y) (.int .i64 z)); replace BB := Lib.hid (below_more BB.out b2); have Gc := Lib.hid BB.out.size; replace BB := Lib.hid (BB.out.alloc BB.out.size (.cells #[.int .i64 x, .int .i64 y, .int .i64 z] 23)); replace o_0 := O.out.c0; replace o_1 := O.out.c1; replace o_2 := O.out.c2; replace o_l := O.out.lt; replace c_0 := C.out.c0; replace c_1 := C.out.c1; replace c_2 := C.out.c2; replace c_l := C.out.lt; clear b2 A1)
        | (go_at_call 10; (with_reducible refine (A2.out _).mono ?_); rintro e w3 ⟨rfl, b3⟩; replace O := Lib.hid (O.out.below b3 O.out.lt); replace C := Lib.hid (C.out.below b3 C.out.lt); replace BB := Lib.hid (below_more BB.out b3); replace o_0 := O.out.c0; replace o_1 := O.out.c1; replace o_2 := O.out.c2; replace o_l := O.out.lt; replace c_0 := C.out.c0; replace c_1 := C.out.c1; replace c_2 := C.out.c2; replace c_l := C.out.lt; clear b3 A2)
        | (go_at_call 10; (with_reducible refine (A3.out _).mono ?_); rintro e w4 ⟨rfl, b4⟩; replace O := Lib.hid (O.out.below b4 O.out.lt); replace C := Lib.hid (C.out.below b4 C.out.lt); replace BB := Lib.hid (below_more BB.out b4); replace o_0 := O.out.c0; replace o_1 := O.out.c1; replace o_2 := O.out.c2; replace o_l := O.out.lt; replace c_0 := C.out.c0; replace c_1 := C.out.c1; replace c_2 := C.out.c2; replace c_l := C.out.lt; clear b4 A3))
      go_ret
      exact ⟨by simp, BB.out⟩
    · obtain ⟨W, hW⟩ : ∃ W, (w.alloc (.cells #[.int .i64 p, .int .i64 s, .int .i64 r] 23)) = W := ⟨_, rfl⟩
      have O : Hid (Three W (w.heap.size) 23 (.int .i64 p) (.int .i64 s) (.int .i64 r)) := by
        rw [← hW]
        have k := Three.new w 23 (.int .i64 p) (.int .i64 s) (.int .i64 r)
        exact k
      have BB : Hid (Below w.heap.size w W) := by rw [← hW]; exact below_alloc w _
      have o_0 := O.out.c0
      have o_1 := O.out.c1
      have o_2 := O.out.c2
      have o_l := O.out.lt
      go_enter Try.func4, Try.ntmps4
      go_wp2_with (first
        | (go_at_call 9; (with_reducible refine (HD.out _).mono ?_); rintro e w1 ⟨rfl, b1⟩; replace O := Lib.hid (O.out.below b1 O.out.lt); replace BB := Lib.hid (below_more BB.out b1); replace o_0 := O.out.c0; replace o_1 := O.out.c1; replace o_2 := O.out.c2; replace o_l := O.out.lt; clear b1 HD)
        | (go_at_call 12; (with_reducible refine (A1.out _).mono ?_); rintro e w2 ⟨rfl, b2⟩; replace O := Lib.hid ((O.out.below b2 O.out.lt).alloc (.cells #[.int .i64 x, .int .i64 v, .int .i64 0] 23)); have C := Lib.hid (Three.new w2 23 (.int .i64 x) (.int .i64 v) (.int .i64 0)); replace BB := Lib.hid (below_more BB.out b2); have Gc := Lib.hid BB.out.size; replace BB := Lib.hid (BB.out.alloc BB.out.size (.cells #[.int .i64 x, .int .i64 v, .int .i64 0] 23)); replace o_0 := O.out.c0; replace o_1 := O.out.c1; replace o_2 := O.out.c2; replace o_l := O.out.lt; replace c_0 := C.out.c0; replace c_1 := C.out.c1; replace c_2 := C.out.c2; replace c_l := C.out.lt; clear b2 A1)
        | (go_at_call 10; (with_reducible refine (A2.out _).mono ?_); rintro e w3 ⟨rfl, b3⟩; replace O := Lib.hid (O.out.below b3 O.out.lt); replace C := Lib.hid (C.out.below b3 C.out.lt); replace BB := Lib.hid (below_more BB.out b3); replace o_0 := O.out.c0; replace o_1 := O.out.c1; replace o_2 := O.out.c2; replace o_l := O.out.lt; replace c_0 := C.out.c0; replace c_1 := C.out.c1; replace c_2 := C.out.c2; replace c_l := C.out.lt; clear b3 A2)
        | (go_at_call 10; (with_reducible refine (A3.out _).mono ?_); rintro e w4 ⟨rfl, b4⟩; replace O := Lib.hid (O.out.below b4 O.out.lt); replace C := Lib.hid (C.out.below b4 C.out.lt); replace BB := Lib.hid (below_more BB.out b4); replace o_0 := O.out.c0; replace o_1 := O.out.c1; replace o_2 := O.out.c2; replace o_l := O.out.lt; replace c_0 := C.out.c0; replace c_1 := C.out.c1; replace c_2 := C.out.c2; replace c_l := C.out.lt; clear b4 A3))
      go_ret
      exact ⟨by simp, BB.out⟩
    · obtain ⟨W, hW⟩ : ∃ W, (w.alloc (.cells #[.int .i64 p, .int .i64 s, .int .i64 r] 23)) = W := ⟨_, rfl⟩
      have O : Hid (Three W (w.heap.size) 23 (.int .i64 p) (.int .i64 s) (.int .i64 r)) := by
        rw [← hW]
        have k := Three.new w 23 (.int .i64 p) (.int .i64 s) (.int .i64 r)
        exact k
      have BB : Hid (Below w.heap.size w W) := by rw [← hW]; exact below_alloc w _
      have o_0 := O.out.c0
      have o_1 := O.out.c1
      have o_2 := O.out.c2
      have o_l := O.out.lt
      go_enter Try.func4, Try.ntmps4
      go_wp2_with (first
        | (go_at_call 9; (with_reducible refine (HD.out _).mono ?_); rintro e w1 ⟨rfl, b1⟩; replace O := Lib.hid (O.out.below b1 O.out.lt); replace BB := Lib.hid (below_more BB.out b1); replace o_0 := O.out.c0; replace o_1 := O.out.c1; replace o_2 := O.out.c2; replace o_l := O.out.lt; clear b1 HD)
        | (go_at_call 12; (with_reducible refine (A1.out _).mono ?_); rintro e w2 ⟨rfl, b2⟩; replace O := Lib.hid ((O.out.below b2 O.out.lt).alloc (.cells #[.int .i64 x, .int .i64 y, .int .i64 z] 23)); have C := Lib.hid (Three.new w2 23 (.int .i64 x) (.int .i64 y) (.int .i64 z)); replace BB := Lib.hid (below_more BB.out b2); have Gc := Lib.hid BB.out.size; replace BB := Lib.hid (BB.out.alloc BB.out.size (.cells #[.int .i64 x, .int .i64 y, .int .i64 z] 23)); replace o_0 := O.out.c0; replace o_1 := O.out.c1; replace o_2 := O.out.c2; replace o_l := O.out.lt; replace c_0 := C.out.c0; replace c_1 := C.out.c1; replace c_2 := C.out.c2; replace c_l := C.out.lt; clear b2 A1)
        | (go_at_call 10; (with_reducible refine (A2.out _).mono ?_); rintro e w3 ⟨rfl, b3⟩; replace O := Lib.hid (O.out.below b3 O.out.lt); replace C := Lib.hid (C.out.below b3 C.out.lt); replace BB := Lib.hid (below_more BB.out b3); replace o_0 := O.out.c0; replace o_1 := O.out.c1; replace o_2 := O.out.c2; replace o_l := O.out.lt; replace c_0 := C.out.c0; replace c_1 := C.out.c1; replace c_2 := C.out.c2; replace c_l := C.out.lt; clear b3 A2)
        | (go_at_call 10; (with_reducible refine (A3.out _).mono ?_); rintro e w4 ⟨rfl, b4⟩; replace O := Lib.hid (O.out.below b4 O.out.lt); replace C := Lib.hid (C.out.below b4 C.out.lt); replace BB := Lib.hid (below_more BB.out b4); replace o_0 := O.out.c0; replace o_1 := O.out.c1; replace o_2 := O.out.c2; replace o_l := O.out.lt; replace c_0 := C.out.c0; replace c_1 := C.out.c1; replace c_2 := C.out.c2; replace c_l := C.out.lt; clear b4 A3))
      go_ret
      exact ⟨by simp, BB.out⟩
  · obtain ⟨rfl, rfl, rfl⟩ := steer_no hs e0
    have e1 : (e != 0) = true := by simp; omega
    have e2 : (e == 0) = false := by simp; omega
    clear hs e0 ip is ir ia iv im ih G
    unfold clV at A1 ⊢
    obtain ⟨W, hW⟩ : ∃ W, (w.alloc (.cells #[.int .i64 p, .int .i64 s, .int .i64 r] 23)) = W := ⟨_, rfl⟩
    have O : Hid (Three W (w.heap.size) 23 (.int .i64 p) (.int .i64 s) (.int .i64 r)) := by
      rw [← hW]
      have k := Three.new w 23 (.int .i64 p) (.int .i64 s) (.int .i64 r)
      exact k
    have BB : Hid (Below w.heap.size w W) := by rw [← hW]; exact below_alloc w _
    have o_0 := O.out.c0
    have o_1 := O.out.c1
    have o_2 := O.out.c2
    have o_l := O.out.lt
    go_enter Try.func4, Try.ntmps4
    go_wp2_with (first
      | (go_at_call 9; (with_reducible refine (HD.out _).mono ?_); rintro e w1 ⟨rfl, b1⟩; replace O := Lib.hid (O.out.below b1 O.out.lt); replace BB := Lib.hid (below_more BB.out b1); replace o_0 := O.out.c0; replace o_1 := O.out.c1; replace o_2 := O.out.c2; replace o_l := O.out.lt; clear b1 HD)
      | (go_at_call 12; (with_reducible refine (A1.out _).mono ?_); rintro e w2 ⟨rfl, b2⟩; replace O := Lib.hid ((O.out.below b2 O.out.lt).alloc (.cells #[.int .i64 0, .int .i64 0, .int .i64 0] 23)); have C := Lib.hid (Three.new w2 23 (.int .i64 0) (.int .i64 0) (.int .i64 0)); replace BB := Lib.hid (below_more BB.out b2); have Gc := Lib.hid BB.out.size; replace BB := Lib.hid (BB.out.alloc BB.out.size (.cells #[.int .i64 0, .int .i64 0, .int .i64 0] 23)); replace o_0 := O.out.c0; replace o_1 := O.out.c1; replace o_2 := O.out.c2; replace o_l := O.out.lt; replace c_0 := C.out.c0; replace c_1 := C.out.c1; replace c_2 := C.out.c2; replace c_l := C.out.lt; clear b2 A1))
    go_ret
    exact ⟨by simp, BB.out⟩
end Go.Proofs.Ytihfafmockaljaa
