/- Layer 10: LinkWidths (gen/gen_laws.py writes this). -/
import Derived.Test.YtkeahbdeddjoeaaNMath
namespace Go.Proofs.Ytkeahbdeddjoeaa
open Go.RowKit Go
set_option linter.unusedVariables false
set_option linter.unusedSimpArgs false

set_option maxRecDepth 100000 in
set_option maxHeartbeats 16000000 in
theorem widths_walk (G : Lnk) (t a b c d l h : Int) (hs : (Ch.mk t a b c d).Int64) (il : I64 l) (ih : I64 h) (w : World) :
    Calls Try.prog 7 #[chV ⟨t, a, b, c, d⟩, rgV l h] w (Gives (.bool true) w) := by
  have HD := Lib.hid (head_true G)
  by_cases q1 : (Ch.mk t a b c d).Form
  case neg =>
    have FO := Lib.hid (rform_any ⟨t, a, b, c, d⟩ false ⟨fun h => (by cases h), fun h => absurd h q1⟩)
    clear q1 G hs il ih
    unfold chV at FO
    dsimp only at FO
    unfold chV rgV
    dsimp only
    obtain ⟨W, hW⟩ : ∃ W, ((w.alloc (.cells #[.int .i64 t, .int .i64 a, .int .i64 b, .int .i64 c, .int .i64 d] 24)).alloc (.cells #[.int .i64 l, .int .i64 h] 26)) = W := ⟨_, rfl⟩
    have C : Hid (Five W (w.heap.size) 24 (.int .i64 t) (.int .i64 a) (.int .i64 b) (.int .i64 c) (.int .i64 d)) := by
      rw [← hW]
      have k := Five.new w 24 (.int .i64 t) (.int .i64 a) (.int .i64 b) (.int .i64 c) (.int .i64 d)
      exact (k).alloc _
    have I : Hid (Two W (w.heap.size + 1) 26 (.int .i64 l) (.int .i64 h)) := by
      rw [← hW]
      have k := Two.new (w.alloc (.cells #[.int .i64 t, .int .i64 a, .int .i64 b, .int .i64 c, .int .i64 d] 24)) 26 (.int .i64 l) (.int .i64 h)
      rw [show (w.alloc (.cells #[.int .i64 t, .int .i64 a, .int .i64 b, .int .i64 c, .int .i64 d] 24)).heap.size = w.heap.size + 1 by simp] at k
      exact k
    have BB : Hid (Below w.heap.size w W) := by rw [← hW]; exact (below_alloc w _).alloc (by simp) _
    have c_0 := C.out.c0
    have c_1 := C.out.c1
    have c_2 := C.out.c2
    have c_3 := C.out.c3
    have c_4 := C.out.c4
    have c_l := C.out.lt
    have i_0 := I.out.c0
    have i_1 := I.out.c1
    have i_l := I.out.lt
    go_enter Try.func7, Try.ntmps7
    go_wp2_with (first
      | (go_at_call 9; (with_reducible refine (HD.out _).mono ?_); rintro e w1 ⟨rfl, b1⟩; replace C := Lib.hid (C.out.below b1 C.out.lt); replace I := Lib.hid (I.out.below b1 I.out.lt); replace BB := Lib.hid (below_more BB.out b1); replace c_0 := C.out.c0; replace c_1 := C.out.c1; replace c_2 := C.out.c2; replace c_3 := C.out.c3; replace c_4 := C.out.c4; replace c_l := C.out.lt; replace i_0 := I.out.c0; replace i_1 := I.out.c1; replace i_l := I.out.lt; clear b1 HD)
      | (go_at_call 21; (with_reducible refine (FO.out _).mono ?_); rintro e w2 ⟨rfl, b2⟩; replace C := Lib.hid (C.out.below b2 C.out.lt); replace I := Lib.hid (I.out.below b2 I.out.lt); replace BB := Lib.hid (below_more BB.out b2); replace c_0 := C.out.c0; replace c_1 := C.out.c1; replace c_2 := C.out.c2; replace c_3 := C.out.c3; replace c_4 := C.out.c4; replace c_l := C.out.lt; replace i_0 := I.out.c0; replace i_1 := I.out.c1; replace i_l := I.out.lt; clear b2 FO))
    go_ret
    exact ⟨by simp, BB.out⟩
  have FO := Lib.hid (rform_any ⟨t, a, b, c, d⟩ true ⟨fun _ => q1, fun _ => rfl⟩)
  by_cases q2 : IvOk l h
  case neg =>
    have VI := Lib.hid (rvalid_any l h false ⟨fun h => (by cases h), fun h => absurd h q2⟩)
    clear q1 q2 G hs il ih
    unfold chV at FO
    unfold rgV at VI
    dsimp only at FO VI
    unfold chV rgV
    dsimp only
    obtain ⟨W, hW⟩ : ∃ W, ((w.alloc (.cells #[.int .i64 t, .int .i64 a, .int .i64 b, .int .i64 c, .int .i64 d] 24)).alloc (.cells #[.int .i64 l, .int .i64 h] 26)) = W := ⟨_, rfl⟩
    have C : Hid (Five W (w.heap.size) 24 (.int .i64 t) (.int .i64 a) (.int .i64 b) (.int .i64 c) (.int .i64 d)) := by
      rw [← hW]
      have k := Five.new w 24 (.int .i64 t) (.int .i64 a) (.int .i64 b) (.int .i64 c) (.int .i64 d)
      exact (k).alloc _
    have I : Hid (Two W (w.heap.size + 1) 26 (.int .i64 l) (.int .i64 h)) := by
      rw [← hW]
      have k := Two.new (w.alloc (.cells #[.int .i64 t, .int .i64 a, .int .i64 b, .int .i64 c, .int .i64 d] 24)) 26 (.int .i64 l) (.int .i64 h)
      rw [show (w.alloc (.cells #[.int .i64 t, .int .i64 a, .int .i64 b, .int .i64 c, .int .i64 d] 24)).heap.size = w.heap.size + 1 by simp] at k
      exact k
    have BB : Hid (Below w.heap.size w W) := by rw [← hW]; exact (below_alloc w _).alloc (by simp) _
    have c_0 := C.out.c0
    have c_1 := C.out.c1
    have c_2 := C.out.c2
    have c_3 := C.out.c3
    have c_4 := C.out.c4
    have c_l := C.out.lt
    have i_0 := I.out.c0
    have i_1 := I.out.c1
    have i_l := I.out.lt
    go_enter Try.func7, Try.ntmps7
    go_wp2_with (first
      | (go_at_call 9; (with_reducible refine (HD.out _).mono ?_); rintro e w1 ⟨rfl, b1⟩; replace C := Lib.hid (C.out.below b1 C.out.lt); replace I := Lib.hid (I.out.below b1 I.out.lt); replace BB := Lib.hid (below_more BB.out b1); replace c_0 := C.out.c0; replace c_1 := C.out.c1; replace c_2 := C.out.c2; replace c_3 := C.out.c3; replace c_4 := C.out.c4; replace c_l := C.out.lt; replace i_0 := I.out.c0; replace i_1 := I.out.c1; replace i_l := I.out.lt; clear b1 HD)
      | (go_at_call 21; (with_reducible refine (FO.out _).mono ?_); rintro e w2 ⟨rfl, b2⟩; replace C := Lib.hid (C.out.below b2 C.out.lt); replace I := Lib.hid (I.out.below b2 I.out.lt); replace BB := Lib.hid (below_more BB.out b2); replace c_0 := C.out.c0; replace c_1 := C.out.c1; replace c_2 := C.out.c2; replace c_3 := C.out.c3; replace c_4 := C.out.c4; replace c_l := C.out.lt; replace i_0 := I.out.c0; replace i_1 := I.out.c1; replace i_l := I.out.lt; clear b2 FO)
      | (go_at_call 25; (with_reducible refine (VI.out _).mono ?_); rintro e w3 ⟨rfl, b3⟩; replace C := Lib.hid (C.out.below b3 C.out.lt); replace I := Lib.hid (I.out.below b3 I.out.lt); replace BB := Lib.hid (below_more BB.out b3); replace c_0 := C.out.c0; replace c_1 := C.out.c1; replace c_2 := C.out.c2; replace c_3 := C.out.c3; replace c_4 := C.out.c4; replace c_l := C.out.lt; replace i_0 := I.out.c0; replace i_1 := I.out.c1; replace i_l := I.out.lt; clear b3 VI))
    go_ret
    exact ⟨by simp, BB.out⟩
  have VI := Lib.hid (rvalid_any l h true ⟨fun _ => q2, fun _ => rfl⟩)
  have S0 := Lib.hid (fun (e1 : a ≤ h) => sent_is (s := ⟨t, a, b, c, d⟩) q1 q2 e1)
  have G0 := Lib.hid (fun (e1 : h + d ≤ 3000000000000000) => got_is (s := ⟨t, a, b, c, d⟩) q1 q2 e1)
  obtain ⟨⟨a1, a2, a3⟩, c1, c2, c3⟩ := q1
  dsimp only at a1 a2 a3 c1 c2 c3
  obtain ⟨i1, i2, i3⟩ := q2
  unfold chV at FO
  unfold rgV at VI
  dsimp only at FO VI
  by_cases g1 : l < 1000000
  · have dg1 : decide (l < 1000000) = true := by simp; omega
    clear G hs il ih S0 G0
    unfold chV rgV
    dsimp only
    obtain ⟨W, hW⟩ : ∃ W, ((w.alloc (.cells #[.int .i64 t, .int .i64 a, .int .i64 b, .int .i64 c, .int .i64 d] 24)).alloc (.cells #[.int .i64 l, .int .i64 h] 26)) = W := ⟨_, rfl⟩
    have C : Hid (Five W (w.heap.size) 24 (.int .i64 t) (.int .i64 a) (.int .i64 b) (.int .i64 c) (.int .i64 d)) := by
      rw [← hW]
      have k := Five.new w 24 (.int .i64 t) (.int .i64 a) (.int .i64 b) (.int .i64 c) (.int .i64 d)
      exact (k).alloc _
    have I : Hid (Two W (w.heap.size + 1) 26 (.int .i64 l) (.int .i64 h)) := by
      rw [← hW]
      have k := Two.new (w.alloc (.cells #[.int .i64 t, .int .i64 a, .int .i64 b, .int .i64 c, .int .i64 d] 24)) 26 (.int .i64 l) (.int .i64 h)
      rw [show (w.alloc (.cells #[.int .i64 t, .int .i64 a, .int .i64 b, .int .i64 c, .int .i64 d] 24)).heap.size = w.heap.size + 1 by simp] at k
      exact k
    have BB : Hid (Below w.heap.size w W) := by rw [← hW]; exact (below_alloc w _).alloc (by simp) _
    have c_0 := C.out.c0
    have c_1 := C.out.c1
    have c_2 := C.out.c2
    have c_3 := C.out.c3
    have c_4 := C.out.c4
    have c_l := C.out.lt
    have i_0 := I.out.c0
    have i_1 := I.out.c1
    have i_l := I.out.lt
    go_enter Try.func7, Try.ntmps7
    go_wp2_with (first
      | (go_at_call 9; (with_reducible refine (HD.out _).mono ?_); rintro e w1 ⟨rfl, b1⟩; replace C := Lib.hid (C.out.below b1 C.out.lt); replace I := Lib.hid (I.out.below b1 I.out.lt); replace BB := Lib.hid (below_more BB.out b1); replace c_0 := C.out.c0; replace c_1 := C.out.c1; replace c_2 := C.out.c2; replace c_3 := C.out.c3; replace c_4 := C.out.c4; replace c_l := C.out.lt; replace i_0 := I.out.c0; replace i_1 := I.out.c1; replace i_l := I.out.lt; clear b1 HD)
      | (go_at_call 21; (with_reducible refine (FO.out _).mono ?_); rintro e w2 ⟨rfl, b2⟩; replace C := Lib.hid (C.out.below b2 C.out.lt); replace I := Lib.hid (I.out.below b2 I.out.lt); replace BB := Lib.hid (below_more BB.out b2); replace c_0 := C.out.c0; replace c_1 := C.out.c1; replace c_2 := C.out.c2; replace c_3 := C.out.c3; replace c_4 := C.out.c4; replace c_l := C.out.lt; replace i_0 := I.out.c0; replace i_1 := I.out.c1; replace i_l := I.out.lt; clear b2 FO)
      | (go_at_call 25; (with_reducible refine (VI.out _).mono ?_); rintro e w3 ⟨rfl, b3⟩; replace C := Lib.hid (C.out.below b3 C.out.lt); replace I := Lib.hid (I.out.below b3 I.out.lt); replace BB := Lib.hid (below_more BB.out b3); replace c_0 := C.out.c0; replace c_1 := C.out.c1; replace c_2 := C.out.c2; replace c_3 := C.out.c3; replace c_4 := C.out.c4; replace c_l := C.out.lt; replace i_0 := I.out.c0; replace i_1 := I.out.c1; replace i_l := I.out.lt; clear b3 VI))
    go_ret
    exact ⟨by simp, BB.out⟩
  have dg1 : decide (l < 1000000) = false := by simp; omega
  by_cases g2 : 2999999999000000 < h
  · have dg2 : decide (2999999999000000 < h) = true := by simp; omega
    clear G hs il ih S0 G0
    unfold chV rgV
    dsimp only
    obtain ⟨W, hW⟩ : ∃ W, ((w.alloc (.cells #[.int .i64 t, .int .i64 a, .int .i64 b, .int .i64 c, .int .i64 d] 24)).alloc (.cells #[.int .i64 l, .int .i64 h] 26)) = W := ⟨_, rfl⟩
    have C : Hid (Five W (w.heap.size) 24 (.int .i64 t) (.int .i64 a) (.int .i64 b) (.int .i64 c) (.int .i64 d)) := by
      rw [← hW]
      have k := Five.new w 24 (.int .i64 t) (.int .i64 a) (.int .i64 b) (.int .i64 c) (.int .i64 d)
      exact (k).alloc _
    have I : Hid (Two W (w.heap.size + 1) 26 (.int .i64 l) (.int .i64 h)) := by
      rw [← hW]
      have k := Two.new (w.alloc (.cells #[.int .i64 t, .int .i64 a, .int .i64 b, .int .i64 c, .int .i64 d] 24)) 26 (.int .i64 l) (.int .i64 h)
      rw [show (w.alloc (.cells #[.int .i64 t, .int .i64 a, .int .i64 b, .int .i64 c, .int .i64 d] 24)).heap.size = w.heap.size + 1 by simp] at k
      exact k
    have BB : Hid (Below w.heap.size w W) := by rw [← hW]; exact (below_alloc w _).alloc (by simp) _
    have c_0 := C.out.c0
    have c_1 := C.out.c1
    have c_2 := C.out.c2
    have c_3 := C.out.c3
    have c_4 := C.out.c4
    have c_l := C.out.lt
    have i_0 := I.out.c0
    have i_1 := I.out.c1
    have i_l := I.out.lt
    go_enter Try.func7, Try.ntmps7
    go_wp2_with (first
      | (go_at_call 9; (with_reducible refine (HD.out _).mono ?_); rintro e w1 ⟨rfl, b1⟩; replace C := Lib.hid (C.out.below b1 C.out.lt); replace I := Lib.hid (I.out.below b1 I.out.lt); replace BB := Lib.hid (below_more BB.out b1); replace c_0 := C.out.c0; replace c_1 := C.out.c1; replace c_2 := C.out.c2; replace c_3 := C.out.c3; replace c_4 := C.out.c4; replace c_l := C.out.lt; replace i_0 := I.out.c0; replace i_1 := I.out.c1; replace i_l := I.out.lt; clear b1 HD)
      | (go_at_call 21; (with_reducible refine (FO.out _).mono ?_); rintro e w2 ⟨rfl, b2⟩; replace C := Lib.hid (C.out.below b2 C.out.lt); replace I := Lib.hid (I.out.below b2 I.out.lt); replace BB := Lib.hid (below_more BB.out b2); replace c_0 := C.out.c0; replace c_1 := C.out.c1; replace c_2 := C.out.c2; replace c_3 := C.out.c3; replace c_4 := C.out.c4; replace c_l := C.out.lt; replace i_0 := I.out.c0; replace i_1 := I.out.c1; replace i_l := I.out.lt; clear b2 FO)
      | (go_at_call 25; (with_reducible refine (VI.out _).mono ?_); rintro e w3 ⟨rfl, b3⟩; replace C := Lib.hid (C.out.below b3 C.out.lt); replace I := Lib.hid (I.out.below b3 I.out.lt); replace BB := Lib.hid (below_more BB.out b3); replace c_0 := C.out.c0; replace c_1 := C.out.c1; replace c_2 := C.out.c2; replace c_3 := C.out.c3; replace c_4 := C.out.c4; replace c_l := C.out.lt; replace i_0 := I.out.c0; replace i_1 := I.out.c1; replace i_l := I.out.lt; clear b3 VI))
    go_ret
    exact ⟨by simp, BB.out⟩
  have dg2 : decide (2999999999000000 < h) = false := by simp; omega
  have F0 := round_is (s := ⟨0, a, a, c, c⟩) (l := l) (h := h) (x := a + c) (y := a + c) (by unfold Ch.Form DelOk; dsimp only; omega) ⟨i1, i2, i3⟩ ⟨by omega, by omega, by omega⟩ (by dsimp only; omega) (by dsimp only; omega)
  have A1 := Lib.hid (G.sent ⟨t, a, b, c, d⟩ l h hs il ih)
  have A2 := Lib.hid (G.got ⟨t, a, b, c, d⟩ l h hs il ih)
  have A3 := Lib.hid (G.round ⟨0, a, a, c, c⟩ l h (a + c) (a + c) (by unfold Ch.Int64 I64; dsimp only; omega) il ih ⟨by omega, by omega⟩ ⟨by omega, by omega⟩)
  rw [S0.out (by omega)] at A1
  rw [G0.out (by omega)] at A2
  rw [F0] at A3
  dsimp only at A1 A2 A3
  rw [show max a (a + c - c) = a by omega, show min a (a + c - c) = a by omega, show max 0 (l - a) = l - a by omega] at A3
  rw [show max 0 (l - b) = l - b by omega] at A1
  obtain ⟨p1, hp1⟩ : ∃ p, l - b = p := ⟨_, rfl⟩
  obtain ⟨p2, hp2⟩ : ∃ p, h - a = p := ⟨_, rfl⟩
  obtain ⟨p3, hp3⟩ : ∃ p, l + c = p := ⟨_, rfl⟩
  obtain ⟨p4, hp4⟩ : ∃ p, h + d = p := ⟨_, rfl⟩
  obtain ⟨p5, hp5⟩ : ∃ p, l - a = p := ⟨_, rfl⟩
  obtain ⟨x, hx⟩ : ∃ x, a + c = x := ⟨_, rfl⟩
  rw [hp1, hp2] at A1
  rw [hp3, hp4] at A2
  rw [hp5, hp2, hx] at A3
  obtain ⟨v, hv⟩ : ∃ v, h - l = v := ⟨_, rfl⟩
  obtain ⟨k1, hk1⟩ : ∃ k, v + b - a = k := ⟨_, rfl⟩
  obtain ⟨k2, hk2⟩ : ∃ k, v + d - c = k := ⟨_, rfl⟩
  have e1 : p2 - p1 = k1 := by omega
  have e2 : p4 - p3 = k2 := by omega
  have e3 : p2 - p5 = v := by omega
  have j1 : 0 ≤ p1 ∧ p1 ≤ 3000000000000000 := by omega
  have j2 : 0 ≤ p2 ∧ p2 ≤ 3000000000000000 := by omega
  have j3 : 0 ≤ p3 ∧ p3 ≤ 3000000000000000 := by omega
  have j4 : 0 ≤ p4 ∧ p4 ≤ 3000000000000000 := by omega
  have j5 : 0 ≤ p5 ∧ p5 ≤ 3000000000000000 := by omega
  have j6 : 0 ≤ v ∧ v ≤ 3000000000000000 := by omega
  clear F0 S0 G0 G hs il ih hp1 hp2 hp3 hp4 hp5
  unfold chV rgV at A1 A2 A3
  dsimp only at A1 A2 A3
  unfold chV rgV
  dsimp only
  obtain ⟨W, hW⟩ : ∃ W, ((w.alloc (.cells #[.int .i64 t, .int .i64 a, .int .i64 b, .int .i64 c, .int .i64 d] 24)).alloc (.cells #[.int .i64 l, .int .i64 h] 26)) = W := ⟨_, rfl⟩
  have C : Hid (Five W (w.heap.size) 24 (.int .i64 t) (.int .i64 a) (.int .i64 b) (.int .i64 c) (.int .i64 d)) := by
    rw [← hW]
    have k := Five.new w 24 (.int .i64 t) (.int .i64 a) (.int .i64 b) (.int .i64 c) (.int .i64 d)
    exact (k).alloc _
  have I : Hid (Two W (w.heap.size + 1) 26 (.int .i64 l) (.int .i64 h)) := by
    rw [← hW]
    have k := Two.new (w.alloc (.cells #[.int .i64 t, .int .i64 a, .int .i64 b, .int .i64 c, .int .i64 d] 24)) 26 (.int .i64 l) (.int .i64 h)
    rw [show (w.alloc (.cells #[.int .i64 t, .int .i64 a, .int .i64 b, .int .i64 c, .int .i64 d] 24)).heap.size = w.heap.size + 1 by simp] at k
    exact k
  have BB : Hid (Below w.heap.size w W) := by rw [← hW]; exact (below_alloc w _).alloc (by simp) _
  have c_0 := C.out.c0
  have c_1 := C.out.c1
  have c_2 := C.out.c2
  have c_3 := C.out.c3
  have c_4 := C.out.c4
  have c_l := C.out.lt
  have i_0 := I.out.c0
  have i_1 := I.out.c1
  have i_l := I.out.lt
  go_enter Try.func7, Try.ntmps7
  go_wp2_with (first
    | (go_at_call 9; (with_reducible refine (HD.out _).mono ?_); rintro e w1 ⟨rfl, b1⟩; replace C := Lib.hid (C.out.below b1 C.out.lt); replace I := Lib.hid (I.out.below b1 I.out.lt); replace BB := Lib.hid (below_more BB.out b1); replace c_0 := C.out.c0; replace c_1 := C.out.c1; replace c_2 := C.out.c2; replace c_3 := C.out.c3; replace c_4 := C.out.c4; replace c_l := C.out.lt; replace i_0 := I.out.c0; replace i_1 := I.out.c1; replace i_l := I.out.lt; clear b1 HD)
    | (go_at_call 21; (with_reducible refine (FO.out _).mono ?_); rintro e w2 ⟨rfl, b2⟩; replace C := Lib.hid (C.out.below b2 C.out.lt); replace I := Lib.hid (I.out.below b2 I.out.lt); replace BB := Lib.hid (below_more BB.out b2); replace c_0 := C.out.c0; replace c_1 := C.out.c1; replace c_2 := C.out.c2; replace c_3 := C.out.c3; replace c_4 := C.out.c4; replace c_l := C.out.lt; replace i_0 := I.out.c0; replace i_1 := I.out.c1; replace i_l := I.out.lt; clear b2 FO)
    | (go_at_call 25; (with_reducible refine (VI.out _).mono ?_); rintro e w3 ⟨rfl, b3⟩; replace C := Lib.hid (C.out.below b3 C.out.lt); replace I := Lib.hid (I.out.below b3 I.out.lt); replace BB := Lib.hid (below_more BB.out b3); replace c_0 := C.out.c0; replace c_1 := C.out.c1; replace c_2 := C.out.c2; replace c_3 := C.out.c3; replace c_4 := C.out.c4; replace c_l := C.out.lt; replace i_0 := I.out.c0; replace i_1 := I.out.c1; replace i_l := I.out.lt; clear b3 VI)
    | (go_at_call 15; (with_reducible refine (A1.out _).mono ?_); rintro e w4 ⟨rfl, b4⟩; replace C := Lib.hid ((C.out.below b4 C.out.lt).alloc (.cells #[.int .i64 p1, .int .i64 p2] 26)); replace I := Lib.hid ((I.out.below b4 I.out.lt).alloc (.cells #[.int .i64 p1, .int .i64 p2] 26)); have E := Lib.hid (Two.new w4 26 (.int .i64 p1) (.int .i64 p2)); replace BB := Lib.hid (below_more BB.out b4); have Ge := Lib.hid BB.out.size; replace BB := Lib.hid (BB.out.alloc BB.out.size (.cells #[.int .i64 p1, .int .i64 p2] 26)); replace c_0 := C.out.c0; replace c_1 := C.out.c1; replace c_2 := C.out.c2; replace c_3 := C.out.c3; replace c_4 := C.out.c4; replace c_l := C.out.lt; replace i_0 := I.out.c0; replace i_1 := I.out.c1; replace i_l := I.out.lt; replace e_0 := E.out.c0; replace e_1 := E.out.c1; replace e_l := E.out.lt; clear b4 A1)
    | (go_at_call 17; (with_reducible refine (A2.out _).mono ?_); rintro e w5 ⟨rfl, b5⟩; replace C := Lib.hid ((C.out.below b5 C.out.lt).alloc (.cells #[.int .i64 p3, .int .i64 p4] 26)); replace I := Lib.hid ((I.out.below b5 I.out.lt).alloc (.cells #[.int .i64 p3, .int .i64 p4] 26)); replace E := Lib.hid ((E.out.below b5 E.out.lt).alloc (.cells #[.int .i64 p3, .int .i64 p4] 26)); have F := Lib.hid (Two.new w5 26 (.int .i64 p3) (.int .i64 p4)); replace BB := Lib.hid (below_more BB.out b5); have Gf := Lib.hid BB.out.size; replace BB := Lib.hid (BB.out.alloc BB.out.size (.cells #[.int .i64 p3, .int .i64 p4] 26)); replace c_0 := C.out.c0; replace c_1 := C.out.c1; replace c_2 := C.out.c2; replace c_3 := C.out.c3; replace c_4 := C.out.c4; replace c_l := C.out.lt; replace i_0 := I.out.c0; replace i_1 := I.out.c1; replace i_l := I.out.lt; replace e_0 := E.out.c0; replace e_1 := E.out.c1; replace e_l := E.out.lt; replace f_0 := F.out.c0; replace f_1 := F.out.c1; replace f_l := F.out.lt; have Gx := Lib.hid (show w.heap.size ≤ w5.heap.size + 1 from (by have := BB.out.size; simpa using this)); have Ca := Lib.hid (C.out.alloc (.cells #[.int .i64 0, .int .i64 a, .int .i64 a, .int .i64 c, .int .i64 c] 24)); have Ia := Lib.hid (I.out.alloc (.cells #[.int .i64 0, .int .i64 a, .int .i64 a, .int .i64 c, .int .i64 c] 24)); have Ea := Lib.hid (E.out.alloc (.cells #[.int .i64 0, .int .i64 a, .int .i64 a, .int .i64 c, .int .i64 c] 24)); have Fa := Lib.hid (F.out.alloc (.cells #[.int .i64 0, .int .i64 a, .int .i64 a, .int .i64 c, .int .i64 c] 24)); have Xa : Hid (Five ((w5.alloc (.cells #[.int .i64 p3, .int .i64 p4] 26)).alloc (.cells #[.int .i64 0, .int .i64 a, .int .i64 a, .int .i64 c, .int .i64 c] 24)) (w5.heap.size + 1) 24 (.int .i64 0) (.int .i64 a) (.int .i64 a) (.int .i64 c) (.int .i64 c)) := (by have k := Five.new (w5.alloc (.cells #[.int .i64 p3, .int .i64 p4] 26)) 24 (.int .i64 0) (.int .i64 a) (.int .i64 a) (.int .i64 c) (.int .i64 c); rwa [show (w5.alloc (.cells #[.int .i64 p3, .int .i64 p4] 26)).heap.size = w5.heap.size + 1 by simp] at k); have ca_0 := Ca.out.c0; have ca_1 := Ca.out.c1; have ca_2 := Ca.out.c2; have ca_3 := Ca.out.c3; have ca_4 := Ca.out.c4; have ca_l := Ca.out.lt; have ia_0 := Ia.out.c0; have ia_1 := Ia.out.c1; have ia_l := Ia.out.lt; have ea_0 := Ea.out.c0; have ea_1 := Ea.out.c1; have ea_l := Ea.out.lt; have fa_0 := Fa.out.c0; have fa_1 := Fa.out.c1; have fa_l := Fa.out.lt; have xa_0 := Xa.out.c0; have xa_1 := Xa.out.c1; have xa_2 := Xa.out.c2; have xa_3 := Xa.out.c3; have xa_4 := Xa.out.c4; have xa_l := Xa.out.lt; replace BB := Lib.hid (BB.out.alloc BB.out.size (.cells #[.int .i64 0, .int .i64 a, .int .i64 a, .int .i64 c, .int .i64 c] 24)); replace C := Ca; replace I := Ia; replace E := Ea; replace F := Fa; have X := Xa; clear Ca Ia Ea Fa Xa; clear b5 A2)
    | (go_at_call 19; (with_reducible refine (A3.out _).mono ?_); rintro e w6 ⟨rfl, b6⟩; replace C := Lib.hid ((C.out.below b6 C.out.lt).alloc (.cells #[.int .i64 p5, .int .i64 p2] 26)); replace I := Lib.hid ((I.out.below b6 I.out.lt).alloc (.cells #[.int .i64 p5, .int .i64 p2] 26)); replace E := Lib.hid ((E.out.below b6 E.out.lt).alloc (.cells #[.int .i64 p5, .int .i64 p2] 26)); replace F := Lib.hid ((F.out.below b6 F.out.lt).alloc (.cells #[.int .i64 p5, .int .i64 p2] 26)); replace X := Lib.hid ((X.out.below b6 X.out.lt).alloc (.cells #[.int .i64 p5, .int .i64 p2] 26)); have G := Lib.hid (Two.new w6 26 (.int .i64 p5) (.int .i64 p2)); replace BB := Lib.hid (below_more BB.out b6); have Gg := Lib.hid BB.out.size; replace BB := Lib.hid (BB.out.alloc BB.out.size (.cells #[.int .i64 p5, .int .i64 p2] 26)); replace c_0 := C.out.c0; replace c_1 := C.out.c1; replace c_2 := C.out.c2; replace c_3 := C.out.c3; replace c_4 := C.out.c4; replace c_l := C.out.lt; replace i_0 := I.out.c0; replace i_1 := I.out.c1; replace i_l := I.out.lt; replace e_0 := E.out.c0; replace e_1 := E.out.c1; replace e_l := E.out.lt; replace f_0 := F.out.c0; replace f_1 := F.out.c1; replace f_l := F.out.lt; replace x_0 := X.out.c0; replace x_1 := X.out.c1; replace x_2 := X.out.c2; replace x_3 := X.out.c3; replace x_4 := X.out.c4; replace x_l := X.out.lt; replace g_0 := G.out.c0; replace g_1 := G.out.c1; replace g_l := G.out.lt; clear b6 A3))
  go_ret
  exact ⟨by simp, BB.out⟩
end Go.Proofs.Ytkeahbdeddjoeaa
