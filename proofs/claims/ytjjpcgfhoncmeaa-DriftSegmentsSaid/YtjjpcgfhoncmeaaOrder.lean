/- Layer 7: DriftOrder (gen/gen_order.py writes this). -/
import Derived.Lib.MinMax
import Derived.Test.YtjjpcgfhoncmeaaTruth
namespace Go.Proofs.Ytjjpcgfhoncmeaa
open Go.RowKit Go
set_option linter.unusedVariables false
set_option linter.unusedSimpArgs false

/-- Boxes that hold ranges. -/
def Bag (W : World) : List (Nat × Int × Int) → Prop
  | [] => True
  | (g, x, y) :: r => Two W g 27 (.int .i64 x) (.int .i64 y) ∧ Bag W r
theorem Bag.step {W W' : World} (b : Below W.heap.size W W') : ∀ {L : List (Nat × Int × Int)}, Bag W L → Bag W' L
  | [], _ => trivial
  | (g, x, y) :: r, h => ⟨h.1.below b h.1.lt, Bag.step b h.2⟩
theorem Bag.box {W w : World} {L : List (Nat × Int × Int)} (h : Bag W L) (b : Below W.heap.size W w) (x y : Int) : Bag (w.alloc (.cells #[.int .i64 x, .int .i64 y] 27)) ((w.heap.size, x, y) :: L) :=
  ⟨Two.new w _ _ _, Bag.step (below_alloc w _) (Bag.step b h)⟩

theorem elR_err (r c : Int) : (elR r c).2.2 = 0 ∨ (elR r c).2.2 = 1 := by unfold elR; split <;> simp
theorem elR_ok {r c : Int} (h : (elR r c).2.2 = 0) : RateOk r ∧ StretchOk c := by
  unfold elR at h
  split at h
  · assumption
  · simp at h

set_option maxRecDepth 100000 in
set_option maxHeartbeats 4000000 in
theorem order_no (G : Dft) (a b n m : Int) (ia : I64 a) (ib : I64 b) (iN : I64 n) (iM : I64 m) (hno : ¬ ((RateOk (min a b) ∧ StretchOk (min n m)) ∧ (RateOk (max a b) ∧ StretchOk (min n m)) ∧ RateOk (min a b) ∧ StretchOk (max n m))) (w : World) :
    Calls Try.prog 5 #[.int .i64 a, .int .i64 b, .int .i64 n, .int .i64 m] w (Gives (.bool true) w) := by
  have HD := Lib.hid (head_true G w)
  obtain ⟨ia1, ia2⟩ := ia
  obtain ⟨ib1, ib2⟩ := ib
  obtain ⟨in1, in2⟩ := iN
  obtain ⟨im1, im2⟩ := iM
  obtain ⟨r, hr⟩ : ∃ r, min a b = r := ⟨_, rfl⟩
  obtain ⟨s, hs⟩ : ∃ s, max a b = s := ⟨_, rfl⟩
  obtain ⟨x, hx⟩ : ∃ x, min n m = x := ⟨_, rfl⟩
  obtain ⟨y, hy⟩ : ∃ y, max n m = y := ⟨_, rfl⟩
  rw [hr, hs, hx, hy] at hno
  have E1 := Lib.hid (G.el r x ⟨by omega, by omega⟩ ⟨by omega, by omega⟩)
  have E2 := Lib.hid (G.el s x ⟨by omega, by omega⟩ ⟨by omega, by omega⟩)
  have E3 := Lib.hid (G.el r y ⟨by omega, by omega⟩ ⟨by omega, by omega⟩)
  have z : ¬ ((elR r x).2.2 = 0 ∧ (elR s x).2.2 = 0 ∧ (elR r y).2.2 = 0) := fun h => hno ⟨elR_ok h.1, elR_ok h.2.1, elR_ok h.2.2⟩
  have z1 := elR_err r x
  have z2 := elR_err s x
  have z3 := elR_err r y
  clear hno G
  generalize elR r x = A at E1 z z1
  generalize elR s x = B at E2 z z2
  generalize elR r y = C at E3 z z3
  obtain ⟨A0, A1, A2⟩ := A
  obtain ⟨B0, B1, B2⟩ := B
  obtain ⟨C0, C1, C2⟩ := C
  dsimp only at E1 E2 E3 z z1 z2 z3
  unfold rgV at E1 E2 E3
  rcases z1 with rfl | rfl <;> rcases z2 with rfl | rfl <;> rcases z3 with rfl | rfl
  · exact absurd ⟨rfl, rfl, rfl⟩ z
  all_goals
    clear z
    go_enter Try.func5, Try.ntmps5
    go_wp2_with (first
      | (go_at_call 9; refine HD.out.mono ?_; rintro e w1 ⟨rfl, b1⟩; have Bw1 := Lib.hid b1; clear b1)
      | (go_at_call 17; (with_reducible refine (E1.out _).mono ?_); rintro e w2 ⟨rfl, b2⟩; have Bw2 := Lib.hid (below_box (below_more Bw1.out b2) (.cells #[.int .i64 A0, .int .i64 A1] 27)); have K2 := Lib.hid (show Bag _ [(_, A0, A1)] from ⟨Two.new w2 _ _ _, trivial⟩); clear b2 E1)
      | (go_at_call 17; (with_reducible refine (E2.out _).mono ?_); rintro e w3 ⟨rfl, b3⟩; have Bw3 := Lib.hid (below_box (below_more Bw2.out b3) (.cells #[.int .i64 B0, .int .i64 B1] 27)); have K3 := Lib.hid (K2.out.box b3 B0 B1); clear b3 E2)
      | (go_at_call 17; (with_reducible refine (E3.out _).mono ?_); rintro e w4 ⟨rfl, b4⟩; have Bw4 := Lib.hid (below_box (below_more Bw3.out b4) (.cells #[.int .i64 C0, .int .i64 C1] 27)); have K4 := Lib.hid (K3.out.box b4 C0 C1); clear b4 E3))
    go_ret
    exact ⟨by simp, Bw4.out⟩

set_option maxRecDepth 100000 in
set_option maxHeartbeats 8000000 in
theorem order_yes (G : Dft) (a b n m : Int) (h1 : RateOk (min a b)) (h2 : RateOk (max a b)) (h3 : StretchOk (min n m)) (h4 : StretchOk (max n m)) (w : World) :
    Calls Try.prog 5 #[.int .i64 a, .int .i64 b, .int .i64 n, .int .i64 m] w (Gives (.bool true) w) := by
  have HD := Lib.hid (head_true G w)
  obtain ⟨r, hr⟩ : ∃ r, min a b = r := ⟨_, rfl⟩
  obtain ⟨s, hs⟩ : ∃ s, max a b = s := ⟨_, rfl⟩
  obtain ⟨x, hx⟩ : ∃ x, min n m = x := ⟨_, rfl⟩
  obtain ⟨y, hy⟩ : ∃ y, max n m = y := ⟨_, rfl⟩
  rw [hr] at h1
  rw [hs] at h2
  rw [hx] at h3
  rw [hy] at h4
  have rs : r ≤ s := by omega
  have xy : x ≤ y := by omega
  have i0 : RateOk 0 := ⟨by omega, by omega⟩
  have E1 := Lib.hid (G.el r x ⟨by have := h1.1; omega, by have := h1.2; omega⟩ ⟨by have := h3.1; omega, by have := h3.2; omega⟩)
  have E2 := Lib.hid (G.el s x ⟨by have := h2.1; omega, by have := h2.2; omega⟩ ⟨by have := h3.1; omega, by have := h3.2; omega⟩)
  have E3 := Lib.hid (G.el r y ⟨by have := h1.1; omega, by have := h1.2; omega⟩ ⟨by have := h4.1; omega, by have := h4.2; omega⟩)
  have E4 := Lib.hid (G.el 0 x ⟨by omega, by omega⟩ ⟨by have := h3.1; omega, by have := h3.2; omega⟩)
  have C1 := Lib.hid (G.co r x ⟨by have := h1.1; omega, by have := h1.2; omega⟩ ⟨by have := h3.1; omega, by have := h3.2; omega⟩)
  have C2 := Lib.hid (G.co s x ⟨by have := h2.1; omega, by have := h2.2; omega⟩ ⟨by have := h3.1; omega, by have := h3.2; omega⟩)
  have C3 := Lib.hid (G.co r y ⟨by have := h1.1; omega, by have := h1.2; omega⟩ ⟨by have := h4.1; omega, by have := h4.2; omega⟩)
  have C4 := Lib.hid (G.co 0 x ⟨by omega, by omega⟩ ⟨by have := h3.1; omega, by have := h3.2; omega⟩)
  rw [elR_yes h1 h3] at E1
  rw [elR_yes h2 h3] at E2
  rw [elR_yes h1 h4] at E3
  rw [elR_yes i0 h3, (exact_el h3.1).1, (exact_el h3.1).2] at E4
  rw [coR_yes h1 h3] at C1
  rw [coR_yes h2 h3] at C2
  rw [coR_yes h1 h4] at C3
  rw [coR_yes i0 h3, exact_co.1, exact_co.2] at C4
  obtain ⟨r1, r2⟩ := h1
  obtain ⟨s1, s2⟩ := h2
  obtain ⟨x1, x2⟩ := h3
  have p1 := el_wider r1 rs s2 x1
  have p2 := el_later r1 r2 x1 xy
  have p3 := co_wider r1 rs x1
  have p4 := co_later r1 r2 xy
  have p5 := elLo_up r1 x1
  have p6 := up_elHi r1 r2 x1
  clear G
  generalize elLo r x = A0 at E1 p1 p2 p5
  generalize elHi r x = A1 at E1 p1 p2 p6
  generalize elLo s x = B0 at E2 p1
  generalize elHi s x = B1 at E2 p1
  generalize elLo r y = D0 at E3 p2
  generalize elHi r y = D1 at E3 p2
  generalize coLo r x = P0 at C1 p3 p4
  generalize coHi r x = P1 at C1 p3 p4
  generalize coLo s x = Q0 at C2 p3
  generalize coHi s x = Q1 at C2 p3
  generalize coLo r y = O0 at C3 p4
  generalize coHi r y = O1 at C3 p4
  have I1 := Lib.hid (within_any A0 A1 B0 B1)
  have I2 := Lib.hid (within_any P0 P1 Q0 Q1)
  rw [show withinR A0 A1 B0 B1 = true by simp [withinR]; omega] at I1
  rw [show withinR P0 P1 Q0 Q1 = true by simp [withinR]; omega] at I2
  obtain ⟨p21, p22⟩ := p2
  obtain ⟨p41, p42⟩ := p4
  clear p1 p3 h4 i0
  unfold rgV at E1 E2 E3 E4 C1 C2 C3 C4 I1 I2
  go_enter Try.func5, Try.ntmps5
  go_wp2_with (first
    | (go_at_call 9; refine HD.out.mono ?_; rintro e w1 ⟨rfl, b1⟩; have Bw1 := Lib.hid b1; clear b1)
    | (go_at_call 17; (with_reducible refine (E1.out _).mono ?_); rintro e w2 ⟨rfl, b2⟩; have Bw2 := Lib.hid (below_box (below_more Bw1.out b2) (.cells #[.int .i64 A0, .int .i64 A1] 27)); have K2 := Lib.hid (show Bag _ [(_, A0, A1)] from ⟨Two.new w2 _ _ _, trivial⟩); clear b2 E1)
    | (go_at_call 17; (with_reducible refine (E2.out _).mono ?_); rintro e w3 ⟨rfl, b3⟩; have Bw3 := Lib.hid (below_box (below_more Bw2.out b3) (.cells #[.int .i64 B0, .int .i64 B1] 27)); have K3 := Lib.hid (K2.out.box b3 B0 B1); clear b3 E2)
    | (go_at_call 17; (with_reducible refine (E3.out _).mono ?_); rintro e w4 ⟨rfl, b4⟩; have Bw4 := Lib.hid (below_box (below_more Bw3.out b4) (.cells #[.int .i64 D0, .int .i64 D1] 27)); have K4 := Lib.hid (K3.out.box b4 D0 D1); clear b4 E3)
    | (go_at_call 19; (with_reducible refine (C1.out _).mono ?_); rintro e w5 ⟨rfl, b5⟩; have Bw5 := Lib.hid (below_box (below_more Bw4.out b5) (.cells #[.int .i64 P0, .int .i64 P1] 27)); have K5 := Lib.hid (K4.out.box b5 P0 P1); clear b5 C1)
    | (go_at_call 19; (with_reducible refine (C2.out _).mono ?_); rintro e w6 ⟨rfl, b6⟩; have Bw6 := Lib.hid (below_box (below_more Bw5.out b6) (.cells #[.int .i64 Q0, .int .i64 Q1] 27)); have K6 := Lib.hid (K5.out.box b6 Q0 Q1); clear b6 C2)
    | (go_at_call 19; (with_reducible refine (C3.out _).mono ?_); rintro e w7 ⟨rfl, b7⟩; have Bw7 := Lib.hid (below_box (below_more Bw6.out b7) (.cells #[.int .i64 O0, .int .i64 O1] 27)); have K7 := Lib.hid (K6.out.box b7 O0 O1); clear b7 C3)
    | (go_at_call 17; (with_reducible refine (E4.out _).mono ?_); rintro e w8 ⟨rfl, b8⟩; have Bw8 := Lib.hid (below_box (below_more Bw7.out b8) (.cells #[.int .i64 x, .int .i64 x] 27)); have K8 := Lib.hid (K7.out.box b8 x x); clear b8 E4)
    | (go_at_call 19; (with_reducible refine (C4.out _).mono ?_); rintro e w9 ⟨rfl, b9⟩; have Bw9 := Lib.hid (below_box (below_more Bw8.out b9) (.cells #[.int .i64 x, .int .i64 x] 27)); have K9 := Lib.hid (K8.out.box b9 x x); clear b9 C4; have c00 := K9.out.1.c0; have c01 := K9.out.1.c1; have c02 := K9.out.1.lt; have c10 := K9.out.2.1.c0; have c11 := K9.out.2.1.c1; have c12 := K9.out.2.1.lt; have c20 := K9.out.2.2.1.c0; have c21 := K9.out.2.2.1.c1; have c22 := K9.out.2.2.1.lt; have c30 := K9.out.2.2.2.1.c0; have c31 := K9.out.2.2.2.1.c1; have c32 := K9.out.2.2.2.1.lt; have c40 := K9.out.2.2.2.2.1.c0; have c41 := K9.out.2.2.2.2.1.c1; have c42 := K9.out.2.2.2.2.1.lt; have c50 := K9.out.2.2.2.2.2.1.c0; have c51 := K9.out.2.2.2.2.2.1.c1; have c52 := K9.out.2.2.2.2.2.1.lt; have c60 := K9.out.2.2.2.2.2.2.1.c0; have c61 := K9.out.2.2.2.2.2.2.1.c1; have c62 := K9.out.2.2.2.2.2.2.1.lt; have c70 := K9.out.2.2.2.2.2.2.2.1.c0; have c71 := K9.out.2.2.2.2.2.2.2.1.c1; have c72 := K9.out.2.2.2.2.2.2.2.1.lt)
    | (go_at_call 25; (with_reducible refine (I1.out _).mono ?_); rintro e w10 ⟨rfl, b10⟩; have Bw10 := Lib.hid (below_more Bw9.out b10); have K10 := Lib.hid (Bag.step b10 K9.out); clear b10 I1; have c00 := K10.out.1.c0; have c01 := K10.out.1.c1; have c02 := K10.out.1.lt; have c10 := K10.out.2.1.c0; have c11 := K10.out.2.1.c1; have c12 := K10.out.2.1.lt; have c20 := K10.out.2.2.1.c0; have c21 := K10.out.2.2.1.c1; have c22 := K10.out.2.2.1.lt; have c30 := K10.out.2.2.2.1.c0; have c31 := K10.out.2.2.2.1.c1; have c32 := K10.out.2.2.2.1.lt; have c40 := K10.out.2.2.2.2.1.c0; have c41 := K10.out.2.2.2.2.1.c1; have c42 := K10.out.2.2.2.2.1.lt; have c50 := K10.out.2.2.2.2.2.1.c0; have c51 := K10.out.2.2.2.2.2.1.c1; have c52 := K10.out.2.2.2.2.2.1.lt; have c60 := K10.out.2.2.2.2.2.2.1.c0; have c61 := K10.out.2.2.2.2.2.2.1.c1; have c62 := K10.out.2.2.2.2.2.2.1.lt; have c70 := K10.out.2.2.2.2.2.2.2.1.c0; have c71 := K10.out.2.2.2.2.2.2.2.1.c1; have c72 := K10.out.2.2.2.2.2.2.2.1.lt)
    | (go_at_call 25; (with_reducible refine (I2.out _).mono ?_); rintro e w11 ⟨rfl, b11⟩; have Bw11 := Lib.hid (below_more Bw10.out b11); have K11 := Lib.hid (Bag.step b11 K10.out); clear b11 I2; have c00 := K11.out.1.c0; have c01 := K11.out.1.c1; have c02 := K11.out.1.lt; have c10 := K11.out.2.1.c0; have c11 := K11.out.2.1.c1; have c12 := K11.out.2.1.lt; have c20 := K11.out.2.2.1.c0; have c21 := K11.out.2.2.1.c1; have c22 := K11.out.2.2.1.lt; have c30 := K11.out.2.2.2.1.c0; have c31 := K11.out.2.2.2.1.c1; have c32 := K11.out.2.2.2.1.lt; have c40 := K11.out.2.2.2.2.1.c0; have c41 := K11.out.2.2.2.2.1.c1; have c42 := K11.out.2.2.2.2.1.lt; have c50 := K11.out.2.2.2.2.2.1.c0; have c51 := K11.out.2.2.2.2.2.1.c1; have c52 := K11.out.2.2.2.2.2.1.lt; have c60 := K11.out.2.2.2.2.2.2.1.c0; have c61 := K11.out.2.2.2.2.2.2.1.c1; have c62 := K11.out.2.2.2.2.2.2.1.lt; have c70 := K11.out.2.2.2.2.2.2.2.1.c0; have c71 := K11.out.2.2.2.2.2.2.2.1.c1; have c72 := K11.out.2.2.2.2.2.2.2.1.lt))
  go_ret
  exact ⟨by simp, Bw11.out⟩

theorem order_law (G : Dft) (a b n m : Int) (w : World) (ha : (Lit.int .i64 a).wf = true) (hb : (Lit.int .i64 b).wf = true) (hn : (Lit.int .i64 n).wf = true) (hm : (Lit.int .i64 m).wf = true) :
    Calls Try.prog 5 #[.int .i64 a, .int .i64 b, .int .i64 n, .int .i64 m] w (Gives (.bool true) w) := by
  by_cases h : (RateOk (min a b) ∧ StretchOk (min n m)) ∧ (RateOk (max a b) ∧ StretchOk (min n m)) ∧ RateOk (min a b) ∧ StretchOk (max n m)
  · exact order_yes G a b n m h.1.1 h.2.1.1 h.1.2 h.2.2.2 w
  · exact order_no G a b n m (i64_wf ha) (i64_wf hb) (i64_wf hn) (i64_wf hm) h w
end Go.Proofs.Ytjjpcgfhoncmeaa
