/- Layer 9: SlewLimits (gen/gen_laws.py writes this). -/
import Derived.Test.YtihfafmockaljaaHead
namespace Go.Proofs.Ytihfafmockaljaa
open Go.RowKit Go
set_option linter.unusedVariables false
set_option linter.unusedSimpArgs false

set_option maxRecDepth 100000 in
set_option maxHeartbeats 8000000 in
theorem limits_walk (G : Slw) (p s r a v m h : Int) (ip : I64 p) (is : I64 s) (ir : I64 r) (ia : I64 a) (iv : I64 v) (im : I64 m) (ih : I64 h) (w : World) :
    Calls Try.prog 6 #[clV p s r, .int .i64 a, .int .i64 v, .int .i64 m, .int .i64 h] w (Gives (.bool true) w) := by
  have HD := Lib.hid (head_true G)
  have A1 := Lib.hid (G.steer p s r a v m h ip is ir ia iv im ih)
  obtain ⟨⟨x, y, z, e⟩, hs⟩ : ∃ q, steerR p s r a v m h = q := ⟨_, rfl⟩
  rw [hs] at A1
  dsimp only at A1
  have A2 := Lib.hid (G.left p s r a v m h ip is ir ia iv im ih)
  obtain ⟨⟨l, f⟩, hl⟩ : ∃ q, leftR p s r a v m h = q := ⟨_, rfl⟩
  rw [hl] at A2
  dsimp only at A2
  by_cases e0 : e = 0
  · subst e0
    obtain ⟨⟨_, _, ⟨v1, v2⟩, m1, m2, h1, h2⟩, rfl, hx, hz, hc, z1, z2⟩ := steer_ok hs
    obtain ⟨_, ⟨y1, y2⟩, _, _⟩ := hc
    by_cases f0 : f = 0
    · subst f0
      obtain ⟨u, t, hs2, hl1, _, _⟩ := left_ok hl
      rw [hs] at hs2
      simp only [Prod.mk.injEq] at hs2
      obtain ⟨_, rfl, rfl, _⟩ := hs2
      obtain ⟨M, hM⟩ : ∃ M, max z (-z) = M := ⟨_, rfl⟩
      have KZ := Lib.hid (abs_any z (by omega) (by omega))
      rw [hM] at KZ
      by_cases c : M = m
      · have d1 : (M != m) = false := by simp [c]
        have lm := limited (d := v - y) (lim := m) (h := h) m1 (by omega)
        rw [← hz, ← hl1] at lm
        obtain ⟨k, hk⟩ : ∃ k, h / 2000000000 = k := ⟨_, rfl⟩
        have hk' : h.tdiv 2000000000 = k := by rw [Int.tdiv_eq_ediv_of_nonneg (by omega)]; exact hk
        rw [hk] at lm
        have k0 : 0 ≤ k := by omega
        have k1 : k ≤ 1000 := by omega
        have KP := Lib.hid (rpart_any h z (by omega) (by omega) (by omega) (by omega))
        obtain ⟨P, hP⟩ : ∃ P, part h z = P := ⟨_, rfl⟩
        have ps := part_small (n := h) (r := z) (by omega) (by omega) (by omega)
        rw [hP] at KP hl1 ps
        obtain ⟨d, hd⟩ : ∃ d, v - y = d := ⟨_, rfl⟩
        rw [hd] at lm hl1
        have KL := Lib.hid (abs_any l (by omega) (by omega))
        have KD := Lib.hid (abs_any d (by omega) (by omega))
        obtain ⟨L, hL⟩ : ∃ L, max l (-l) = L := ⟨_, rfl⟩
        obtain ⟨D, hD⟩ : ∃ D, max d (-d) = D := ⟨_, rfl⟩
        rw [hL] at KL
        rw [hD] at KD lm
        have d2 : L ≤ D + k + 1 := by omega
        have p1 : -1000000000000 ≤ P := by omega
        have p2 : P ≤ 1000000000000 := by omega
        have D1 : D ≤ 3000000000000000 := by omega
        have D2 : 0 ≤ D := by omega
        have dd1 : -3000000000000000 ≤ d := by omega
        have dd2 : d ≤ 3000000000000000 := by omega
        have hl2 : d - P = l := hl1.symm
        clear lm hl1 hL hD hM hz c ps hP
        clear hl hs hx ip is ir ia iv im ih G
        unfold clV at A1 A2 ⊢
        obtain ⟨W, hW⟩ : ∃ W, (w.alloc (.cells #[.int .i64 p, .int .i64 s, .int .i64 r] 23)) = W := ⟨_, rfl⟩
        have O : Hid (Three W (w.heap.size) 23 (.int .i64 p) (.int .i64 s) (.int .i64 r)) := by
          rw [← hW]
          have k := Three.new w 23 (.int .i64 p) (.int .i64 s) (.int .i64 r)
          exact k
        have BB : Hid (Below w.heap.size w W) := by rw [← hW]; exact below_alloc w _
        have o_0 := O.out.c0
        have o_1 := O.out.c1
        have o_2 := O.out.c2
        have o_l := O.out.lt
        go_enter Try.func6, Try.ntmps6
        go_wp2_with (first
          | (go_at_call 9; (with_reducible refine (HD.out _).mono ?_); rintro e w1 ⟨rfl, b1⟩; replace O := Lib.hid (O.out.below b1 O.out.lt); replace BB := Lib.hid (below_more BB.out b1); replace o_0 := O.out.c0; replace o_1 := O.out.c1; replace o_2 := O.out.c2; replace o_l := O.out.lt; clear b1 HD)
          | (go_at_call 12; (with_reducible refine (A1.out _).mono ?_); rintro e w2 ⟨rfl, b2⟩; replace O := Lib.hid ((O.out.below b2 O.out.lt).alloc (.cells #[.int .i64 x, .int .i64 y, .int .i64 z] 23)); have C := Lib.hid (Three.new w2 23 (.int .i64 x) (.int .i64 y) (.int .i64 z)); replace BB := Lib.hid (below_more BB.out b2); have Gc := Lib.hid BB.out.size; replace BB := Lib.hid (BB.out.alloc BB.out.size (.cells #[.int .i64 x, .int .i64 y, .int .i64 z] 23)); replace o_0 := O.out.c0; replace o_1 := O.out.c1; replace o_2 := O.out.c2; replace o_l := O.out.lt; replace c_0 := C.out.c0; replace c_1 := C.out.c1; replace c_2 := C.out.c2; replace c_l := C.out.lt; clear b2 A1)
          | (go_at_call 13; (with_reducible refine (A2.out _).mono ?_); rintro e w3 ⟨rfl, b3⟩; replace O := Lib.hid (O.out.below b3 O.out.lt); replace C := Lib.hid (C.out.below b3 C.out.lt); replace BB := Lib.hid (below_more BB.out b3); replace o_0 := O.out.c0; replace o_1 := O.out.c1; replace o_2 := O.out.c2; replace o_l := O.out.lt; replace c_0 := C.out.c0; replace c_1 := C.out.c1; replace c_2 := C.out.c2; replace c_l := C.out.lt; clear b3 A2)
          | (go_at_call 14; (with_reducible refine (KZ.out _).mono ?_); rintro e w' ⟨rfl, rfl⟩; clear KZ)
          | (go_at_call 11; (with_reducible refine (KP.out _).mono ?_); rintro e w' ⟨rfl, rfl⟩; clear KP)
          | (go_at_call 14; (with_reducible refine (KL.out _).mono ?_); rintro e w' ⟨rfl, rfl⟩; clear KL)
          | (go_at_call 14; (with_reducible refine (KD.out _).mono ?_); rintro e w' ⟨rfl, rfl⟩; clear KD))
        go_ret
        exact ⟨by simp, BB.out⟩
      · have d1 : (M != m) = true := by simp [c]
        clear hl hs hx ip is ir ia iv im ih G hz hl1 hM
        unfold clV at A1 A2 ⊢
        obtain ⟨W, hW⟩ : ∃ W, (w.alloc (.cells #[.int .i64 p, .int .i64 s, .int .i64 r] 23)) = W := ⟨_, rfl⟩
        have O : Hid (Three W (w.heap.size) 23 (.int .i64 p) (.int .i64 s) (.int .i64 r)) := by
          rw [← hW]
          have k := Three.new w 23 (.int .i64 p) (.int .i64 s) (.int .i64 r)
          exact k
        have BB : Hid (Below w.heap.size w W) := by rw [← hW]; exact below_alloc w _
        have o_0 := O.out.c0
        have o_1 := O.out.c1
        have o_2 := O.out.c2
        have o_l := O.out.lt
        go_enter Try.func6, Try.ntmps6
        go_wp2_with (first
          | (go_at_call 9; (with_reducible refine (HD.out _).mono ?_); rintro e w1 ⟨rfl, b1⟩; replace O := Lib.hid (O.out.below b1 O.out.lt); replace BB := Lib.hid (below_more BB.out b1); replace o_0 := O.out.c0; replace o_1 := O.out.c1; replace o_2 := O.out.c2; replace o_l := O.out.lt; clear b1 HD)
          | (go_at_call 12; (with_reducible refine (A1.out _).mono ?_); rintro e w2 ⟨rfl, b2⟩; replace O := Lib.hid ((O.out.below b2 O.out.lt).alloc (.cells #[.int .i64 x, .int .i64 y, .int .i64 z] 23)); have C := Lib.hid (Three.new w2 23 (.int .i64 x) (.int .i64 y) (.int .i64 z)); replace BB := Lib.hid (below_more BB.out b2); have Gc := Lib.hid BB.out.size; replace BB := Lib.hid (BB.out.alloc BB.out.size (.cells #[.int .i64 x, .int .i64 y, .int .i64 z] 23)); replace o_0 := O.out.c0; replace o_1 := O.out.c1; replace o_2 := O.out.c2; replace o_l := O.out.lt; replace c_0 := C.out.c0; replace c_1 := C.out.c1; replace c_2 := C.out.c2; replace c_l := C.out.lt; clear b2 A1)
          | (go_at_call 13; (with_reducible refine (A2.out _).mono ?_); rintro e w3 ⟨rfl, b3⟩; replace O := Lib.hid (O.out.below b3 O.out.lt); replace C := Lib.hid (C.out.below b3 C.out.lt); replace BB := Lib.hid (below_more BB.out b3); replace o_0 := O.out.c0; replace o_1 := O.out.c1; replace o_2 := O.out.c2; replace o_l := O.out.lt; replace c_0 := C.out.c0; replace c_1 := C.out.c1; replace c_2 := C.out.c2; replace c_l := C.out.lt; clear b3 A2)
          | (go_at_call 14; (with_reducible refine (KZ.out _).mono ?_); rintro e w' ⟨rfl, rfl⟩; clear KZ))
        go_ret
        exact ⟨by simp, BB.out⟩
    · have e1 : (f != 0) = true := by simp; omega
      have e2 : (f == 0) = false := by simp; omega
      clear hl hs hx ip is ir ia iv im ih G hz
      clear f0
      unfold clV at A1 A2 ⊢
      obtain ⟨W, hW⟩ : ∃ W, (w.alloc (.cells #[.int .i64 p, .int .i64 s, .int .i64 r] 23)) = W := ⟨_, rfl⟩
      have O : Hid (Three W (w.heap.size) 23 (.int .i64 p) (.int .i64 s) (.int .i64 r)) := by
        rw [← hW]
        have k := Three.new w 23 (.int .i64 p) (.int .i64 s) (.int .i64 r)
        exact k
      have BB : Hid (Below w.heap.size w W) := by rw [← hW]; exact below_alloc w _
      have o_0 := O.out.c0
      have o_1 := O.out.c1
      have o_2 := O.out.c2
      have o_l := O.out.lt
      go_enter Try.func6, Try.ntmps6
      go_wp2_with (first
        | (go_at_call 9; (with_reducible refine (HD.out _).mono ?_); rintro e w1 ⟨rfl, b1⟩; replace O := Lib.hid (O.out.below b1 O.out.lt); replace BB := Lib.hid (below_more BB.out b1); replace o_0 := O.out.c0; replace o_1 := O.out.c1; replace o_2 := O.out.c2; replace o_l := O.out.lt; clear b1 HD)
        | (go_at_call 12; (with_reducible refine (A1.out _).mono ?_); rintro e w2 ⟨rfl, b2⟩; replace O := Lib.hid ((O.out.below b2 O.out.lt).alloc (.cells #[.int .i64 x, .int .i64 y, .int .i64 z] 23)); have C := Lib.hid (Three.new w2 23 (.int .i64 x) (.int .i64 y) (.int .i64 z)); replace BB := Lib.hid (below_more BB.out b2); have Gc := Lib.hid BB.out.size; replace BB := Lib.hid (BB.out.alloc BB.out.size (.cells #[.int .i64 x, .int .i64 y, .int .i64 z] 23)); replace o_0 := O.out.c0; replace o_1 := O.out.c1; replace o_2 := O.out.c2; replace o_l := O.out.lt; replace c_0 := C.out.c0; replace c_1 := C.out.c1; replace c_2 := C.out.c2; replace c_l := C.out.lt; clear b2 A1)
        | (go_at_call 13; (with_reducible refine (A2.out _).mono ?_); rintro e w3 ⟨rfl, b3⟩; replace O := Lib.hid (O.out.below b3 O.out.lt); replace C := Lib.hid (C.out.below b3 C.out.lt); replace BB := Lib.hid (below_more BB.out b3); replace o_0 := O.out.c0; replace o_1 := O.out.c1; replace o_2 := O.out.c2; replace o_l := O.out.lt; replace c_0 := C.out.c0; replace c_1 := C.out.c1; replace c_2 := C.out.c2; replace c_l := C.out.lt; clear b3 A2))
      go_ret
      exact ⟨by simp, BB.out⟩
  · obtain ⟨rfl, rfl, rfl⟩ := steer_no hs e0
    have hf : leftR p s r a v m h = (0, e) := by unfold leftR; rw [hs]; exact if_neg e0
    rw [hf] at hl
    simp only [Prod.mk.injEq] at hl
    obtain ⟨rfl, rfl⟩ := hl
    have e1 : (e != 0) = true := by simp; omega
    have e2 : (e == 0) = false := by simp; omega
    clear hf hs e0 ip is ir ia iv im ih G
    unfold clV at A1 A2 ⊢
    obtain ⟨W, hW⟩ : ∃ W, (w.alloc (.cells #[.int .i64 p, .int .i64 s, .int .i64 r] 23)) = W := ⟨_, rfl⟩
    have O : Hid (Three W (w.heap.size) 23 (.int .i64 p) (.int .i64 s) (.int .i64 r)) := by
      rw [← hW]
      have k := Three.new w 23 (.int .i64 p) (.int .i64 s) (.int .i64 r)
      exact k
    have BB : Hid (Below w.heap.size w W) := by rw [← hW]; exact below_alloc w _
    have o_0 := O.out.c0
    have o_1 := O.out.c1
    have o_2 := O.out.c2
    have o_l := O.out.lt
    go_enter Try.func6, Try.ntmps6
    go_wp2_with (first
      | (go_at_call 9; (with_reducible refine (HD.out _).mono ?_); rintro e w1 ⟨rfl, b1⟩; replace O := Lib.hid (O.out.below b1 O.out.lt); replace BB := Lib.hid (below_more BB.out b1); replace o_0 := O.out.c0; replace o_1 := O.out.c1; replace o_2 := O.out.c2; replace o_l := O.out.lt; clear b1 HD)
      | (go_at_call 12; (with_reducible refine (A1.out _).mono ?_); rintro e w2 ⟨rfl, b2⟩; replace O := Lib.hid ((O.out.below b2 O.out.lt).alloc (.cells #[.int .i64 0, .int .i64 0, .int .i64 0] 23)); have C := Lib.hid (Three.new w2 23 (.int .i64 0) (.int .i64 0) (.int .i64 0)); replace BB := Lib.hid (below_more BB.out b2); have Gc := Lib.hid BB.out.size; replace BB := Lib.hid (BB.out.alloc BB.out.size (.cells #[.int .i64 0, .int .i64 0, .int .i64 0] 23)); replace o_0 := O.out.c0; replace o_1 := O.out.c1; replace o_2 := O.out.c2; replace o_l := O.out.lt; replace c_0 := C.out.c0; replace c_1 := C.out.c1; replace c_2 := C.out.c2; replace c_l := C.out.lt; clear b2 A1)
      | (go_at_call 13; (with_reducible refine (A2.out _).mono ?_); rintro e w3 ⟨rfl, b3⟩; replace O := Lib.hid (O.out.below b3 O.out.lt); replace C := Lib.hid (C.out.below b3 C.out.lt); replace BB := Lib.hid (below_more BB.out b3); replace o_0 := O.out.c0; replace o_1 := O.out.c1; replace o_2 := O.out.c2; replace o_l := O.out.lt; replace c_0 := C.out.c0; replace c_1 := C.out.c1; replace c_2 := C.out.c2; replace c_l := C.out.lt; clear b3 A2))
    go_ret
    exact ⟨by simp, BB.out⟩
end Go.Proofs.Ytihfafmockaljaa
