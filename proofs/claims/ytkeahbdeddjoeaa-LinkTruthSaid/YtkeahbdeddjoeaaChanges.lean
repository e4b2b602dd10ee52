/- Layer 10: LinkChanges (gen/gen_laws.py writes this). -/
import Derived.LoopTactic
import Derived.Deep.DeepMust
import Derived.Deep.CutBlock
import Derived.Deep.DeepCutAuto
import Derived.Test.YtkeahbdeddjoeaaRBounds
import Derived.Test.YtkeahbdeddjoeaaCReg
namespace Go.Proofs.Ytkeahbdeddjoeaa
open Go.RowKit Go
set_option linter.unusedVariables false
set_option linter.unusedSimpArgs false

set_option maxRecDepth 100000 in
set_option maxHeartbeats 16000000 in
theorem changes_walk (G : Lnk) (A : Option Addr) (len cap : Nat) (z : List Ch) (lo hi n t a b c d : Int) (hs : (Ch.mk t a b c d).Int64) (il : I64 lo) (ih : I64 hi) (jn : I64 n)
    (w : World) (hr : RowC w.heap.size w A len z) (hl : len ≤ cap) (hc : cap ≤ 9223372036854775807) (hnil : A = none → cap = 0) :
    Calls Try.prog 8 #[.slice A len cap, rgV lo hi, .int .i64 n, chV ⟨t, a, b, c, d⟩] w (Gives (.bool true) w) := by
  have HD := Lib.hid (head_true G)
  by_cases g1 : 19 < len
  · have dg1 : decide ((19 : Int) < (len : Int)) = true := by simp; omega
    have dg2 : decide (19 < len) = true := by simp; omega
    clear G hs il ih jn hr hl hc hnil
    unfold chV rgV
    dsimp only
    obtain ⟨W, hW⟩ : ∃ W, ((w.alloc (.cells #[.int .i64 lo, .int .i64 hi] 26)).alloc (.cells #[.int .i64 t, .int .i64 a, .int .i64 b, .int .i64 c, .int .i64 d] 24)) = W := ⟨_, rfl⟩
    have I : Hid (Two W (w.heap.size) 26 (.int .i64 lo) (.int .i64 hi)) := by
      rw [← hW]
      have k := Two.new w 26 (.int .i64 lo) (.int .i64 hi)
      exact (k).alloc _
    have C : Hid (Five W (w.heap.size + 1) 24 (.int .i64 t) (.int .i64 a) (.int .i64 b) (.int .i64 c) (.int .i64 d)) := by
      rw [← hW]
      have k := Five.new (w.alloc (.cells #[.int .i64 lo, .int .i64 hi] 26)) 24 (.int .i64 t) (.int .i64 a) (.int .i64 b) (.int .i64 c) (.int .i64 d)
      rw [show (w.alloc (.cells #[.int .i64 lo, .int .i64 hi] 26)).heap.size = w.heap.size + 1 by simp] at k
      exact k
    have BB : Hid (Below w.heap.size w W) := by rw [← hW]; exact (below_alloc w _).alloc (by simp) _
    have i_0 := I.out.c0
    have i_1 := I.out.c1
    have i_l := I.out.lt
    have c_0 := C.out.c0
    have c_1 := C.out.c1
    have c_2 := C.out.c2
    have c_3 := C.out.c3
    have c_4 := C.out.c4
    have c_l := C.out.lt
    go_enter Try.func8, Try.ntmps8
    go_wp2_with (go_at_call 9; (with_reducible refine (HD.out _).mono ?_); rintro e w1 ⟨rfl, b1⟩; replace I := Lib.hid (I.out.below b1 I.out.lt); replace C := Lib.hid (C.out.below b1 C.out.lt); replace BB := Lib.hid (below_more BB.out b1); replace i_0 := I.out.c0; replace i_1 := I.out.c1; replace i_l := I.out.lt; replace c_0 := C.out.c0; replace c_1 := C.out.c1; replace c_2 := C.out.c2; replace c_3 := C.out.c3; replace c_4 := C.out.c4; replace c_l := C.out.lt; clear b1 HD)
    go_ret
    exact ⟨by simp, BB.out⟩
  have dg1 : decide ((19 : Int) < (len : Int)) = false := by simp; omega
  have dg2 : decide (19 < len) = false := by simp; omega
  by_cases q1 : LkOk z
  case neg =>
    have KV := Lib.hid (fun w' (b : Below w.heap.size w w') => rlink_any A len cap z false ⟨fun h => (by cases h), fun h => absurd h q1⟩ w' (hr.step b) (by omega))
    clear G hs il ih jn hr hl hc hnil q1 g1
    unfold chV rgV
    dsimp only
    obtain ⟨W, hW⟩ : ∃ W, ((w.alloc (.cells #[.int .i64 lo, .int .i64 hi] 26)).alloc (.cells #[.int .i64 t, .int .i64 a, .int .i64 b, .int .i64 c, .int .i64 d] 24)) = W := ⟨_, rfl⟩
    have I : Hid (Two W (w.heap.size) 26 (.int .i64 lo) (.int .i64 hi)) := by
      rw [← hW]
      have k := Two.new w 26 (.int .i64 lo) (.int .i64 hi)
      exact (k).alloc _
    have C : Hid (Five W (w.heap.size + 1) 24 (.int .i64 t) (.int .i64 a) (.int .i64 b) (.int .i64 c) (.int .i64 d)) := by
      rw [← hW]
      have k := Five.new (w.alloc (.cells #[.int .i64 lo, .int .i64 hi] 26)) 24 (.int .i64 t) (.int .i64 a) (.int .i64 b) (.int .i64 c) (.int .i64 d)
      rw [show (w.alloc (.cells #[.int .i64 lo, .int .i64 hi] 26)).heap.size = w.heap.size + 1 by simp] at k
      exact k
    have BB : Hid (Below w.heap.size w W) := by rw [← hW]; exact (below_alloc w _).alloc (by simp) _
    have i_0 := I.out.c0
    have i_1 := I.out.c1
    have i_l := I.out.lt
    have c_0 := C.out.c0
    have c_1 := C.out.c1
    have c_2 := C.out.c2
    have c_3 := C.out.c3
    have c_4 := C.out.c4
    have c_l := C.out.lt
    go_enter Try.func8, Try.ntmps8
    go_wp2_with (first
      | (go_at_call 9; (with_reducible refine (HD.out _).mono ?_); rintro e w1 ⟨rfl, b1⟩; replace I := Lib.hid (I.out.below b1 I.out.lt); replace C := Lib.hid (C.out.below b1 C.out.lt); replace BB := Lib.hid (below_more BB.out b1); replace i_0 := I.out.c0; replace i_1 := I.out.c1; replace i_l := I.out.lt; replace c_0 := C.out.c0; replace c_1 := C.out.c1; replace c_2 := C.out.c2; replace c_3 := C.out.c3; replace c_4 := C.out.c4; replace c_l := C.out.lt; clear b1 HD)
      | (go_at_call 14; (with_reducible refine (KV.out _ BB.out).mono ?_); rintro e w2 ⟨rfl, b2⟩; replace I := Lib.hid (I.out.below b2 I.out.lt); replace C := Lib.hid (C.out.below b2 C.out.lt); replace BB := Lib.hid (below_more BB.out b2); replace i_0 := I.out.c0; replace i_1 := I.out.c1; replace i_l := I.out.lt; replace c_0 := C.out.c0; replace c_1 := C.out.c1; replace c_2 := C.out.c2; replace c_3 := C.out.c3; replace c_4 := C.out.c4; replace c_l := C.out.lt; clear b2 KV))
    go_ret
    exact ⟨by simp, BB.out⟩
  have KV := Lib.hid (fun w' (b : Below w.heap.size w w') => rlink_any A len cap z true ⟨fun _ => q1, fun _ => rfl⟩ w' (hr.step b) (by omega))
  by_cases q2 : IvOk lo hi
  case neg =>
    have VI := Lib.hid (rvalid_any lo hi false ⟨fun h => (by cases h), fun h => absurd h q2⟩)
    clear G hs il ih jn hr hl hc hnil q1 q2 g1
    unfold rgV at VI
    try dsimp only at VI
    unfold chV rgV
    dsimp only
    obtain ⟨W, hW⟩ : ∃ W, ((w.alloc (.cells #[.int .i64 lo, .int .i64 hi] 26)).alloc (.cells #[.int .i64 t, .int .i64 a, .int .i64 b, .int .i64 c, .int .i64 d] 24)) = W := ⟨_, rfl⟩
    have I : Hid (Two W (w.heap.size) 26 (.int .i64 lo) (.int .i64 hi)) := by
      rw [← hW]
      have k := Two.new w 26 (.int .i64 lo) (.int .i64 hi)
      exact (k).alloc _
    have C : Hid (Five W (w.heap.size + 1) 24 (.int .i64 t) (.int .i64 a) (.int .i64 b) (.int .i64 c) (.int .i64 d)) := by
      rw [← hW]
      have k := Five.new (w.alloc (.cells #[.int .i64 lo, .int .i64 hi] 26)) 24 (.int .i64 t) (.int .i64 a) (.int .i64 b) (.int .i64 c) (.int .i64 d)
      rw [show (w.alloc (.cells #[.int .i64 lo, .int .i64 hi] 26)).heap.size = w.heap.size + 1 by simp] at k
      exact k
    have BB : Hid (Below w.heap.size w W) := by rw [← hW]; exact (below_alloc w _).alloc (by simp) _
    have i_0 := I.out.c0
    have i_1 := I.out.c1
    have i_l := I.out.lt
    have c_0 := C.out.c0
    have c_1 := C.out.c1
    have c_2 := C.out.c2
    have c_3 := C.out.c3
    have c_4 := C.out.c4
    have c_l := C.out.lt
    go_enter Try.func8, Try.ntmps8
    go_wp2_with (first
      | (go_at_call 9; (with_reducible refine (HD.out _).mono ?_); rintro e w1 ⟨rfl, b1⟩; replace I := Lib.hid (I.out.below b1 I.out.lt); replace C := Lib.hid (C.out.below b1 C.out.lt); replace BB := Lib.hid (below_more BB.out b1); replace i_0 := I.out.c0; replace i_1 := I.out.c1; replace i_l := I.out.lt; replace c_0 := C.out.c0; replace c_1 := C.out.c1; replace c_2 := C.out.c2; replace c_3 := C.out.c3; replace c_4 := C.out.c4; replace c_l := C.out.lt; clear b1 HD)
      | (go_at_call 14; (with_reducible refine (KV.out _ BB.out).mono ?_); rintro e w2 ⟨rfl, b2⟩; replace I := Lib.hid (I.out.below b2 I.out.lt); replace C := Lib.hid (C.out.below b2 C.out.lt); replace BB := Lib.hid (below_more BB.out b2); replace i_0 := I.out.c0; replace i_1 := I.out.c1; replace i_l := I.out.lt; replace c_0 := C.out.c0; replace c_1 := C.out.c1; replace c_2 := C.out.c2; replace c_3 := C.out.c3; replace c_4 := C.out.c4; replace c_l := C.out.lt; clear b2 KV)
      | (go_at_call 25; (with_reducible refine (VI.out _).mono ?_); rintro e w3 ⟨rfl, b3⟩; replace I := Lib.hid (I.out.below b3 I.out.lt); replace C := Lib.hid (C.out.below b3 C.out.lt); replace BB := Lib.hid (below_more BB.out b3); replace i_0 := I.out.c0; replace i_1 := I.out.c1; replace i_l := I.out.lt; replace c_0 := C.out.c0; replace c_1 := C.out.c1; replace c_2 := C.out.c2; replace c_3 := C.out.c3; replace c_4 := C.out.c4; replace c_l := C.out.lt; clear b3 VI))
    go_ret
    exact ⟨by simp, BB.out⟩
  have VI := Lib.hid (rvalid_any lo hi true ⟨fun _ => q2, fun _ => rfl⟩)
  by_cases q3 : (Ch.mk t a b c d).Form
  case neg =>
    have FO := Lib.hid (rform_any ⟨t, a, b, c, d⟩ false ⟨fun h => (by cases h), fun h => absurd h q3⟩)
    clear G hs il ih jn hr hl hc hnil q1 q2 q3 g1
    unfold rgV at VI
    unfold chV at FO
    try dsimp only at VI FO
    unfold chV rgV
    dsimp only
    obtain ⟨W, hW⟩ : ∃ W, ((w.alloc (.cells #[.int .i64 lo, .int .i64 hi] 26)).alloc (.cells #[.int .i64 t, .int .i64 a, .int .i64 b, .int .i64 c, .int .i64 d] 24)) = W := ⟨_, rfl⟩
    have I : Hid (Two W (w.heap.size) 26 (.int .i64 lo) (.int .i64 hi)) := by
      rw [← hW]
      have k := Two.new w 26 (.int .i64 lo) (.int .i64 hi)
      exact (k).alloc _
    have C : Hid (Five W (w.heap.size + 1) 24 (.int .i64 t) (.int .i64 a) (.int .i64 b) (.int .i64 c) (.int .i64 d)) := by
      rw [← hW]
      have k := Five.new (w.alloc (.cells #[.int .i64 lo, .int .i64 hi] 26)) 24 (.int .i64 t) (.int .i64 a) (.int .i64 b) (.int .i64 c) (.int .i64 d)
      rw [show (w.alloc (.cells #[.int .i64 lo, .int .i64 hi] 26)).heap.size = w.heap.size + 1 by simp] at k
      exact k
    have BB : Hid (Below w.heap.size w W) := by rw [← hW]; exact (below_alloc w _).alloc (by simp) _
    have i_0 := I.out.c0
    have i_1 := I.out.c1
    have i_l := I.out.lt
    have c_0 := C.out.c0
    have c_1 := C.out.c1
    have c_2 := C.out.c2
    have c_3 := C.out.c3
    have c_4 := C.out.c4
    have c_l := C.out.lt
    go_enter Try.func8, Try.ntmps8
    go_wp2_with (first
      | (go_at_call 9; (with_reducible refine (HD.out _).mono ?_); rintro e w1 ⟨rfl, b1⟩; replace I := Lib.hid (I.out.below b1 I.out.lt); replace C := Lib.hid (C.out.below b1 C.out.lt); replace BB := Lib.hid (below_more BB.out b1); replace i_0 := I.out.c0; replace i_1 := I.out.c1; replace i_l := I.out.lt; replace c_0 := C.out.c0; replace c_1 := C.out.c1; replace c_2 := C.out.c2; replace c_3 := C.out.c3; replace c_4 := C.out.c4; replace c_l := C.out.lt; clear b1 HD)
      | (go_at_call 14; (with_reducible refine (KV.out _ BB.out).mono ?_); rintro e w2 ⟨rfl, b2⟩; replace I := Lib.hid (I.out.below b2 I.out.lt); replace C := Lib.hid (C.out.below b2 C.out.lt); replace BB := Lib.hid (below_more BB.out b2); replace i_0 := I.out.c0; replace i_1 := I.out.c1; replace i_l := I.out.lt; replace c_0 := C.out.c0; replace c_1 := C.out.c1; replace c_2 := C.out.c2; replace c_3 := C.out.c3; replace c_4 := C.out.c4; replace c_l := C.out.lt; clear b2 KV)
      | (go_at_call 25; (with_reducible refine (VI.out _).mono ?_); rintro e w3 ⟨rfl, b3⟩; replace I := Lib.hid (I.out.below b3 I.out.lt); replace C := Lib.hid (C.out.below b3 C.out.lt); replace BB := Lib.hid (below_more BB.out b3); replace i_0 := I.out.c0; replace i_1 := I.out.c1; replace i_l := I.out.lt; replace c_0 := C.out.c0; replace c_1 := C.out.c1; replace c_2 := C.out.c2; replace c_3 := C.out.c3; replace c_4 := C.out.c4; replace c_l := C.out.lt; clear b3 VI)
      | (go_at_call 21; (with_reducible refine (FO.out _).mono ?_); rintro e w4 ⟨rfl, b4⟩; replace I := Lib.hid (I.out.below b4 I.out.lt); replace C := Lib.hid (C.out.below b4 C.out.lt); replace BB := Lib.hid (below_more BB.out b4); replace i_0 := I.out.c0; replace i_1 := I.out.c1; replace i_l := I.out.lt; replace c_0 := C.out.c0; replace c_1 := C.out.c1; replace c_2 := C.out.c2; replace c_3 := C.out.c3; replace c_4 := C.out.c4; replace c_l := C.out.lt; clear b4 FO))
    go_ret
    exact ⟨by simp, BB.out⟩
  have FO := Lib.hid (rform_any ⟨t, a, b, c, d⟩ true ⟨fun _ => q3, fun _ => rfl⟩)
  have PL := Lib.hid (place_any lo hi n q2 jn)
  obtain ⟨y1, y2⟩ := place_in (l := lo) (h := hi) n q2.2.1
  generalize placeR lo hi n = s at PL y1 y2
  have iq := q2
  obtain ⟨i1, i2, i3⟩ := iq
  have qs : IvOk s s := ⟨by omega, by omega, by omega⟩
  have A1 := Lib.hid (fun w' (b : Below w.heap.size w w') => G.bounds A len cap z lo hi il ih w' (hr.step b) hl hc)
  have A2 := Lib.hid (fun w' (b : Below w.heap.size w w') => G.bounds A len cap z s s ⟨by omega, by omega⟩ ⟨by omega, by omega⟩ w' (hr.step b) hl hc)
  obtain ⟨x, hx1, hx2, hx3, hx4⟩ := bounds_is q1 q2
  have hy1 := bounds_one q1 qs
  have hw := bounds_wid q1 y1 y2
  rw [← hx4] at hw
  have hm := force_mem q1.1 s
  obtain ⟨y, hy2⟩ : ∃ y, forceR z s = y := ⟨_, rfl⟩
  rw [hy2] at hy1 hw hm
  rw [hx1] at A1
  rw [hy1] at A2
  dsimp only at A1 A2
  have HZ := Lib.hid (fun k (hk : k < len) => hr.at_ k hk)
  have HL := Lib.hid hr.1
  have HX := Lib.hid hx1
  have Q1 := Lib.hid q1
  have Q3 := Lib.hid q3
  have HS := Lib.hid hs
  have HR := Lib.hid hr
  have HG := Lib.hid G
  have N0 := Lib.hid (any_of (l := z) (p := fun k => k.a == x.a) (by obtain ⟨k, k1, k2⟩ := hx3.1; exact ⟨k, k1, by simp [k2]⟩))
  have N1 := Lib.hid (any_of (l := z) (p := fun k => k.b == x.b) (by obtain ⟨k, k1, k2⟩ := hx3.2.1; exact ⟨k, k1, by simp [k2]⟩))
  have N2 := Lib.hid (any_of (l := z) (p := fun k => k.c == x.c) (by obtain ⟨k, k1, k2⟩ := hx3.2.2.1; exact ⟨k, k1, by simp [k2]⟩))
  have N3 := Lib.hid (any_of (l := z) (p := fun k => k.d == x.d) (by obtain ⟨k, k1, k2⟩ := hx3.2.2.2; exact ⟨k, k1, by simp [k2]⟩))
  have N4 := Lib.hid (any_of (l := z) (p := fun k => decide ((⟨s, k.a, k.b, k.c, k.d⟩ : Ch) = ⟨s, y.a, y.b, y.c, y.d⟩)) ⟨y, hm, by simp⟩)
  obtain ⟨x0, xa, xb, xc, xd⟩ := x
  obtain ⟨y0, ya, yb, yc, yd⟩ := y
  dsimp only at hx2
  replace hx2 := hx2.symm
  subst hx2
  obtain ⟨v1, v2, v3, v4⟩ := hw
  have hv := Lib.hid hnil
  unfold chV rgV at A1 A2
  unfold rgV at VI PL
  unfold chV at FO
  dsimp only at VI FO PL A1 A2 v1 v2 v3 v4 N0 N1 N2 N3 N4
  clear q1 q2 q3 qs hx1 hx3 hx4 hy1 hy2 hm hs jn hr hnil il ih G
  unfold chV rgV
  dsimp only
  obtain ⟨W, hW⟩ : ∃ W, ((w.alloc (.cells #[.int .i64 lo, .int .i64 hi] 26)).alloc (.cells #[.int .i64 t, .int .i64 a, .int .i64 b, .int .i64 c, .int .i64 d] 24)) = W := ⟨_, rfl⟩
  have I : Hid (Two W (w.heap.size) 26 (.int .i64 lo) (.int .i64 hi)) := by
    rw [← hW]
    have k := Two.new w 26 (.int .i64 lo) (.int .i64 hi)
    exact (k).alloc _
  have C : Hid (Five W (w.heap.size + 1) 24 (.int .i64 t) (.int .i64 a) (.int .i64 b) (.int .i64 c) (.int .i64 d)) := by
    rw [← hW]
    have k := Five.new (w.alloc (.cells #[.int .i64 lo, .int .i64 hi] 26)) 24 (.int .i64 t) (.int .i64 a) (.int .i64 b) (.int .i64 c) (.int .i64 d)
    rw [show (w.alloc (.cells #[.int .i64 lo, .int .i64 hi] 26)).heap.size = w.heap.size + 1 by simp] at k
    exact k
  have BB : Hid (Below w.heap.size w W) := by rw [← hW]; exact (below_alloc w _).alloc (by simp) _
  have i_0 := I.out.c0
  have i_1 := I.out.c1
  have i_l := I.out.lt
  have c_0 := C.out.c0
  have c_1 := C.out.c1
  have c_2 := C.out.c2
  have c_3 := C.out.c3
  have c_4 := C.out.c4
  have c_l := C.out.lt
  have c_f0 := C.out.free 0
  have c_f1 := C.out.free 1
  have c_f2 := C.out.free 2
  have c_f3 := C.out.free 3
  have c_f4 := C.out.free 4
  go_enter Try.func8, Try.ntmps8
  go_wp2_with (first
    | (go_at_call 9; (with_reducible refine (HD.out _).mono ?_); rintro e w1 ⟨rfl, b1⟩; replace I := Lib.hid (I.out.below b1 I.out.lt); replace C := Lib.hid (C.out.below b1 C.out.lt); replace BB := Lib.hid (below_more BB.out b1); replace i_0 := I.out.c0; replace i_1 := I.out.c1; replace i_l := I.out.lt; replace c_0 := C.out.c0; replace c_1 := C.out.c1; replace c_2 := C.out.c2; replace c_3 := C.out.c3; replace c_4 := C.out.c4; replace c_l := C.out.lt; replace c_f0 := C.out.free 0; replace c_f1 := C.out.free 1; replace c_f2 := C.out.free 2; replace c_f3 := C.out.free 3; replace c_f4 := C.out.free 4; clear b1 HD)
    | (go_at_call 14; (with_reducible refine (KV.out _ BB.out).mono ?_); rintro e w2 ⟨rfl, b2⟩; replace I := Lib.hid (I.out.below b2 I.out.lt); replace C := Lib.hid (C.out.below b2 C.out.lt); replace BB := Lib.hid (below_more BB.out b2); replace i_0 := I.out.c0; replace i_1 := I.out.c1; replace i_l := I.out.lt; replace c_0 := C.out.c0; replace c_1 := C.out.c1; replace c_2 := C.out.c2; replace c_3 := C.out.c3; replace c_4 := C.out.c4; replace c_l := C.out.lt; replace c_f0 := C.out.free 0; replace c_f1 := C.out.free 1; replace c_f2 := C.out.free 2; replace c_f3 := C.out.free 3; replace c_f4 := C.out.free 4; clear b2 KV)
    | (go_at_call 25; (with_reducible refine (VI.out _).mono ?_); rintro e w3 ⟨rfl, b3⟩; replace I := Lib.hid (I.out.below b3 I.out.lt); replace C := Lib.hid (C.out.below b3 C.out.lt); replace BB := Lib.hid (below_more BB.out b3); replace i_0 := I.out.c0; replace i_1 := I.out.c1; replace i_l := I.out.lt; replace c_0 := C.out.c0; replace c_1 := C.out.c1; replace c_2 := C.out.c2; replace c_3 := C.out.c3; replace c_4 := C.out.c4; replace c_l := C.out.lt; replace c_f0 := C.out.free 0; replace c_f1 := C.out.free 1; replace c_f2 := C.out.free 2; replace c_f3 := C.out.free 3; replace c_f4 := C.out.free 4; clear b3 VI)
    | (go_at_call 21; (with_reducible refine (FO.out _).mono ?_); rintro e w4 ⟨rfl, b4⟩; replace I := Lib.hid (I.out.below b4 I.out.lt); replace C := Lib.hid (C.out.below b4 C.out.lt); replace BB := Lib.hid (below_more BB.out b4); replace i_0 := I.out.c0; replace i_1 := I.out.c1; replace i_l := I.out.lt; replace c_0 := C.out.c0; replace c_1 := C.out.c1; replace c_2 := C.out.c2; replace c_3 := C.out.c3; replace c_4 := C.out.c4; replace c_l := C.out.lt; replace c_f0 := C.out.free 0; replace c_f1 := C.out.free 1; replace c_f2 := C.out.free 2; replace c_f3 := C.out.free 3; replace c_f4 := C.out.free 4; clear b4 FO)
    | (go_at_call 23; (with_reducible refine (PL.out _).mono ?_); rintro e w5 ⟨rfl, b5⟩; replace I := Lib.hid (I.out.below b5 I.out.lt); replace C := Lib.hid (C.out.below b5 C.out.lt); replace BB := Lib.hid (below_more BB.out b5); replace i_0 := I.out.c0; replace i_1 := I.out.c1; replace i_l := I.out.lt; replace c_0 := C.out.c0; replace c_1 := C.out.c1; replace c_2 := C.out.c2; replace c_3 := C.out.c3; replace c_4 := C.out.c4; replace c_l := C.out.lt; replace c_f0 := C.out.free 0; replace c_f1 := C.out.free 1; replace c_f2 := C.out.free 2; replace c_f3 := C.out.free 3; replace c_f4 := C.out.free 4; clear b5 PL)
    | (go_at_call 11; (with_reducible refine (A1.out _ BB.out).mono ?_); rintro e w6 ⟨rfl, b6⟩; have NEca := Lib.hid (Nat.ne_of_lt (C.out.below b6 C.out.lt).lt); replace I := Lib.hid ((I.out.below b6 I.out.lt).alloc (.cells #[.int .i64 lo, .int .i64 xa, .int .i64 xb, .int .i64 xc, .int .i64 xd] 24)); replace C := Lib.hid ((C.out.below b6 C.out.lt).alloc (.cells #[.int .i64 lo, .int .i64 xa, .int .i64 xb, .int .i64 xc, .int .i64 xd] 24)); have A := Lib.hid (Five.new w6 24 (.int .i64 lo) (.int .i64 xa) (.int .i64 xb) (.int .i64 xc) (.int .i64 xd)); replace BB := Lib.hid (below_more BB.out b6); have Ga := Lib.hid BB.out.size; replace BB := Lib.hid (BB.out.alloc BB.out.size (.cells #[.int .i64 lo, .int .i64 xa, .int .i64 xb, .int .i64 xc, .int .i64 xd] 24)); replace i_0 := I.out.c0; replace i_1 := I.out.c1; replace i_l := I.out.lt; replace c_0 := C.out.c0; replace c_1 := C.out.c1; replace c_2 := C.out.c2; replace c_3 := C.out.c3; replace c_4 := C.out.c4; replace c_l := C.out.lt; replace c_f0 := C.out.free 0; replace c_f1 := C.out.free 1; replace c_f2 := C.out.free 2; replace c_f3 := C.out.free 3; replace c_f4 := C.out.free 4; replace a_0 := A.out.c0; replace a_1 := A.out.c1; replace a_2 := A.out.c2; replace a_3 := A.out.c3; replace a_4 := A.out.c4; replace a_l := A.out.lt; clear b6 A1)
    | (go_at_call 11; (with_reducible refine (A2.out _ BB.out).mono ?_); rintro e w7 ⟨rfl, b7⟩; have NEcb := Lib.hid (Nat.ne_of_lt (C.out.below b7 C.out.lt).lt); replace I := Lib.hid ((I.out.below b7 I.out.lt).alloc (.cells #[.int .i64 s, .int .i64 ya, .int .i64 yb, .int .i64 yc, .int .i64 yd] 24)); replace C := Lib.hid ((C.out.below b7 C.out.lt).alloc (.cells #[.int .i64 s, .int .i64 ya, .int .i64 yb, .int .i64 yc, .int .i64 yd] 24)); replace A := Lib.hid ((A.out.below b7 A.out.lt).alloc (.cells #[.int .i64 s, .int .i64 ya, .int .i64 yb, .int .i64 yc, .int .i64 yd] 24)); have B := Lib.hid (Five.new w7 24 (.int .i64 s) (.int .i64 ya) (.int .i64 yb) (.int .i64 yc) (.int .i64 yd)); replace BB := Lib.hid (below_more BB.out b7); have Gb := Lib.hid BB.out.size; replace BB := Lib.hid (BB.out.alloc BB.out.size (.cells #[.int .i64 s, .int .i64 ya, .int .i64 yb, .int .i64 yc, .int .i64 yd] 24)); replace i_0 := I.out.c0; replace i_1 := I.out.c1; replace i_l := I.out.lt; replace c_0 := C.out.c0; replace c_1 := C.out.c1; replace c_2 := C.out.c2; replace c_3 := C.out.c3; replace c_4 := C.out.c4; replace c_l := C.out.lt; replace c_f0 := C.out.free 0; replace c_f1 := C.out.free 1; replace c_f2 := C.out.free 2; replace c_f3 := C.out.free 3; replace c_f4 := C.out.free 4; replace a_0 := A.out.c0; replace a_1 := A.out.c1; replace a_2 := A.out.c2; replace a_3 := A.out.c3; replace a_4 := A.out.c4; replace a_l := A.out.lt; replace b_0 := B.out.c0; replace b_1 := B.out.c1; replace b_2 := B.out.c2; replace b_3 := B.out.c3; replace b_4 := B.out.c4; replace b_l := B.out.lt; have NEif := Lib.hid (show w.heap.size ≠ w7.heap.size + 1 from (by first | (simp; done) | (have k := Nat.ne_of_lt I.out.lt; simpa using k))); have NEcf := Lib.hid (show w.heap.size + 1 ≠ w7.heap.size + 1 from (by first | (simp; done) | (have k := Nat.ne_of_lt C.out.lt; simpa using k))); have NEaf := Lib.hid (show w6.heap.size ≠ w7.heap.size + 1 from (by first | (simp; done) | (have k := Nat.ne_of_lt A.out.lt; simpa using k))); have NEbf := Lib.hid (show w7.heap.size ≠ w7.heap.size + 1 from (by first | (simp; done) | (have k := Nat.ne_of_lt B.out.lt; simpa using k))); have Gf := Lib.hid (show w.heap.size ≤ w7.heap.size + 1 from (by have := BB.out.size; simpa using this)); have Ia := Lib.hid (I.out.alloc (.cells #[.bool false, .bool false, .bool false, .bool false, .bool false] 51)); have Ca := Lib.hid (C.out.alloc (.cells #[.bool false, .bool false, .bool false, .bool false, .bool false] 51)); have Aa := Lib.hid (A.out.alloc (.cells #[.bool false, .bool false, .bool false, .bool false, .bool false] 51)); have Ba := Lib.hid (B.out.alloc (.cells #[.bool false, .bool false, .bool false, .bool false, .bool false] 51)); have Fa : Hid (Five ((w7.alloc (.cells #[.int .i64 s, .int .i64 ya, .int .i64 yb, .int .i64 yc, .int .i64 yd] 24)).alloc (.cells #[.bool false, .bool false, .bool false, .bool false, .bool false] 51)) (w7.heap.size + 1) 51 (.bool false) (.bool false) (.bool false) (.bool false) (.bool false)) := (by have k := Five.new (w7.alloc (.cells #[.int .i64 s, .int .i64 ya, .int .i64 yb, .int .i64 yc, .int .i64 yd] 24)) 51 (.bool false) (.bool false) (.bool false) (.bool false) (.bool false); rwa [show (w7.alloc (.cells #[.int .i64 s, .int .i64 ya, .int .i64 yb, .int .i64 yc, .int .i64 yd] 24)).heap.size = w7.heap.size + 1 by simp] at k); have ia_0 := Ia.out.c0; have ia_1 := Ia.out.c1; have ia_l := Ia.out.lt; have ca_0 := Ca.out.c0; have ca_1 := Ca.out.c1; have ca_2 := Ca.out.c2; have ca_3 := Ca.out.c3; have ca_4 := Ca.out.c4; have ca_l := Ca.out.lt; have ca_f0 := Ca.out.free 0; have ca_f1 := Ca.out.free 1; have ca_f2 := Ca.out.free 2; have ca_f3 := Ca.out.free 3; have ca_f4 := Ca.out.free 4; have aa_0 := Aa.out.c0; have aa_1 := Aa.out.c1; have aa_2 := Aa.out.c2; have aa_3 := Aa.out.c3; have aa_4 := Aa.out.c4; have aa_l := Aa.out.lt; have ba_0 := Ba.out.c0; have ba_1 := Ba.out.c1; have ba_2 := Ba.out.c2; have ba_3 := Ba.out.c3; have ba_4 := Ba.out.c4; have ba_l := Ba.out.lt; have fa_0 := Fa.out.c0; have fa_1 := Fa.out.c1; have fa_2 := Fa.out.c2; have fa_3 := Fa.out.c3; have fa_4 := Fa.out.c4; have fa_l := Fa.out.lt; have fa_f0 := Fa.out.free 0; have fa_f1 := Fa.out.free 1; have fa_f2 := Fa.out.free 2; have fa_f3 := Fa.out.free 3; have fa_f4 := Fa.out.free 4; replace BB := Lib.hid (BB.out.alloc BB.out.size (.cells #[.bool false, .bool false, .bool false, .bool false, .bool false] 51)); replace I := Ia; replace C := Ca; replace A := Aa; replace B := Ba; have F := Fa; clear Ia Ca Aa Ba Fa; clear b7 A2))
  have NE : Hid (NeF w.heap.size (w7.heap.size + 1) (w6.heap.size) (w7.heap.size) (w.heap.size + 1) w.heap.size) := ⟨NEaf.out, NEbf.out, NEcf.out, NEif.out, Gf.out⟩
  have LP0 : Hid (Lp w _ (w7.heap.size + 1) (w6.heap.size) (w7.heap.size) (w.heap.size + 1) w.heap.size false false false false false ⟨lo, xa, xb, xc, xd⟩ ⟨s, ya, yb, yc, yd⟩ ⟨t, a, b, c, d⟩ lo hi) := Lp.mk F.out A.out B.out C.out I.out BB.out
  have NC : Hid (w6.heap.size ≠ w.heap.size + 1 ∧ w7.heap.size ≠ w.heap.size + 1) := ⟨Ne.symm NEca.out, Ne.symm NEcb.out⟩
  generalize w6.heap.size = ga at NE LP0 NC ⊢
  generalize w7.heap.size = gb at NE LP0 NC ⊢
  clear c_0 c_1 c_2 c_3 c_4 c_l i_0 i_1 i_l a_0 a_1 a_2 a_3 a_4 a_l b_0 b_1 b_2 b_3 b_4 b_l c_f0 c_f1 c_f2 c_f3 c_f4 NEaf NEbf NEcf NEif NEca NEcb Gf A B F C I BB
  go_loopw [108, 17] (fun i _ wr => ∃ k : Nat, k ≤ len ∧ i = .int .i64 k ∧ Hid (Lp w wr (gb + 1) ga gb (w.heap.size + 1) w.heap.size ((z.take k).any fun k => k.a == xa) ((z.take k).any fun k => k.b == xb) ((z.take k).any fun k => k.c == xc) ((z.take k).any fun k => k.d == xd) ((z.take k).any fun k => decide ((⟨s, k.a, k.b, k.c, k.d⟩ : Ch) = ⟨s, ya, yb, yc, yd⟩)) ⟨lo, xa, xb, xc, xd⟩ ⟨s, ya, yb, yc, yd⟩ ⟨t, a, b, c, d⟩ lo hi)) (fun i _ _ => len - (intOf i).toNat)
  case atStart => exact ⟨0, Nat.zero_le _, rfl, LP0.out⟩
  case round =>
    rename_i wr
    clear LP0
    obtain ⟨k, hk, rfl, LP⟩ := hrel
    by_cases hlt : k < len
    · obtain ⟨p, rfl, hp, hX, hI⟩ := HZ.out k hlt
      have S0 : Hid (((z.take (k + 1)).any fun k => k.a == xa) = (((z.take k).any fun k => k.a == xa) || ((z.getD k Ch.nil).a == xa))) := any_step z (fun k => k.a == xa) k (by rw [HL.out]; exact hlt)
      have S1 : Hid (((z.take (k + 1)).any fun k => k.b == xb) = (((z.take k).any fun k => k.b == xb) || ((z.getD k Ch.nil).b == xb))) := any_step z (fun k => k.b == xb) k (by rw [HL.out]; exact hlt)
      have S2 : Hid (((z.take (k + 1)).any fun k => k.c == xc) = (((z.take k).any fun k => k.c == xc) || ((z.getD k Ch.nil).c == xc))) := any_step z (fun k => k.c == xc) k (by rw [HL.out]; exact hlt)
      have S3 : Hid (((z.take (k + 1)).any fun k => k.d == xd) = (((z.take k).any fun k => k.d == xd) || ((z.getD k Ch.nil).d == xd))) := any_step z (fun k => k.d == xd) k (by rw [HL.out]; exact hlt)
      have S4 : Hid (((z.take (k + 1)).any fun k => decide ((⟨s, k.a, k.b, k.c, k.d⟩ : Ch) = ⟨s, ya, yb, yc, yd⟩)) = (((z.take k).any fun k => decide ((⟨s, k.a, k.b, k.c, k.d⟩ : Ch) = ⟨s, ya, yb, yc, yd⟩)) || (decide ((⟨s, (z.getD k Ch.nil).a, (z.getD k Ch.nil).b, (z.getD k Ch.nil).c, (z.getD k Ch.nil).d⟩ : Ch) = ⟨s, ya, yb, yc, yd⟩)))) := any_step z (fun k => decide ((⟨s, k.a, k.b, k.c, k.d⟩ : Ch) = ⟨s, ya, yb, yc, yd⟩)) k (by rw [HL.out]; exact hlt)
      have hX := Lib.hid (hX.below LP.out.bl (by rw [block_of_add]; exact hp))
      generalize z.getD k Ch.nil = e at hX S0 S1 S2 S3 S4 hI
      obtain ⟨kt, ka, kb, kc, kd⟩ := e
      obtain ⟨x0, x1, x2, x3, x4⟩ := hX.out
      dsimp only at x0 x1 x2 x3 x4 S0 S1 S2 S3 S4
      clear hX
      generalize ((z.take k).any fun k => k.a == xa) = f0 at LP S0
      generalize ((z.take k).any fun k => k.b == xb) = f1 at LP S1
      generalize ((z.take k).any fun k => k.c == xc) = f2 at LP S2
      generalize ((z.take k).any fun k => k.d == xd) = f3 at LP S3
      generalize ((z.take k).any fun k => decide ((⟨s, k.a, k.b, k.c, k.d⟩ : Ch) = ⟨s, ya, yb, yc, yd⟩)) = f4 at LP S4
      obtain ⟨P0, hP0⟩ : ∃ q, (ka == xa) = q := ⟨_, rfl⟩
      rw [hP0] at S0
      obtain ⟨P1, hP1⟩ : ∃ q, (kb == xb) = q := ⟨_, rfl⟩
      rw [hP1] at S1
      obtain ⟨P2, hP2⟩ : ∃ q, (kc == xc) = q := ⟨_, rfl⟩
      rw [hP2] at S2
      obtain ⟨P3, hP3⟩ : ∃ q, (kd == xd) = q := ⟨_, rfl⟩
      rw [hP3] at S3
      have EQ := fun W => eql_ch ⟨s, ka, kb, kc, kd⟩ ⟨s, ya, yb, yc, yd⟩ W
      obtain ⟨P4, hP4⟩ : ∃ q, decide ((⟨s, ka, kb, kc, kd⟩ : Ch) = ⟨s, ya, yb, yc, yd⟩) = q := ⟨_, rfl⟩
      rw [hP4] at S4
      simp only [hP4] at EQ
      clear hP4
      unfold chV at EQ
      dsimp only at EQ
      have LW := Lib.hid (LP.out.alloc (.cells #[.int .i64 kt, .int .i64 ka, .int .i64 kb, .int .i64 kc, .int .i64 kd] 24))
      have XW := Lib.hid (Five.new wr 24 (.int .i64 kt) (.int .i64 ka) (.int .i64 kb) (.int .i64 kc) (.int .i64 kd))
      have nf := Nat.ne_of_lt LP.out.f.lt
      have na := Nat.ne_of_lt LP.out.a.lt
      have nb := Nat.ne_of_lt LP.out.b.lt
      have nc := Nat.ne_of_lt LP.out.c.lt
      have ni := Nat.ne_of_lt LP.out.i.lt
      have nB := LP.out.bl.size
      obtain ⟨W, hW⟩ : ∃ W, wr.alloc (.cells #[.int .i64 kt, .int .i64 ka, .int .i64 kb, .int .i64 kc, .int .i64 kd] 24) = W := ⟨_, rfl⟩
      obtain ⟨gx, hgx⟩ : ∃ g, wr.heap.size = g := ⟨_, rfl⟩
      rw [hW] at LW XW
      rw [hgx] at XW nf na nb nc ni nB
      have NX := Lib.hid (show gb + 1 ≠ gx ∧ ga ≠ gx ∧ gb ≠ gx ∧ w.heap.size + 1 ≠ gx ∧ w.heap.size ≠ gx ∧ w.heap.size ≤ gx from ⟨nf, na, nb, nc, ni, nB⟩)
      clear nf na nb nc ni nB LP
      have q_0 := LW.out.f.c0
      have q_1 := LW.out.f.c1
      have q_2 := LW.out.f.c2
      have q_3 := LW.out.f.c3
      have q_4 := LW.out.f.c4
      have q_l := LW.out.f.lt
      have q_f0 := LW.out.f.free 0
      have q_f1 := LW.out.f.free 1
      have q_f2 := LW.out.f.free 2
      have q_f3 := LW.out.f.free 3
      have q_f4 := LW.out.f.free 4
      have r_0 := XW.out.c0
      have r_1 := XW.out.c1
      have r_2 := XW.out.c2
      have r_3 := XW.out.c3
      have r_4 := XW.out.c4
      have r_l := XW.out.lt
      have r_f0 := XW.out.free 0
      have r_f1 := XW.out.free 1
      have r_f2 := XW.out.free 2
      have r_f3 := XW.out.free 3
      have r_f4 := XW.out.free 4
      have v_0 := LW.out.a.c0
      have v_1 := LW.out.a.c1
      have v_2 := LW.out.a.c2
      have v_3 := LW.out.a.c3
      have v_4 := LW.out.a.c4
      have v_l := LW.out.a.lt
      have u_0 := LW.out.b.c0
      have u_1 := LW.out.b.c1
      have u_2 := LW.out.b.c2
      have u_3 := LW.out.b.c3
      have u_4 := LW.out.b.c4
      have u_l := LW.out.b.lt
      go_upto_region 14 with fail
      clear x0 x1 x2 x3 x4
      go_cut [17] (fun s wx => s = .pointer (some ⟨gx, 0, none⟩) ∧ wx = W.setCell ⟨gb + 1, 0, none⟩ (.bool (f0 || P0)))
      case first =>
        cases f0 with
        | true =>
          go_wp2_with fail
          go_meet
          exact ⟨rfl, rfl⟩
        | false =>
          cases P0 with
          | true =>
            go_wp2_with fail
            go_meet
            exact ⟨rfl, rfl⟩
          | false =>
            go_wp2_with fail
            go_meet
            exact ⟨rfl, rfl⟩
      case rest =>
      obtain ⟨rfl, rfl⟩ := hcut
      replace LW := Lib.hid (LW.out.put0 NE.out (f0 || P0))
      replace XW := Lib.hid (XW.out.other (p := ⟨gb + 1, 0, none⟩) (Ne.symm NX.out.1) (.bool (f0 || P0)))
      clear q_0 q_1 q_2 q_3 q_4 q_l r_0 r_1 r_2 r_3 r_4 r_l v_0 v_1 v_2 v_3 v_4 v_l u_0 u_1 u_2 u_3 u_4 u_l q_f0 q_f1 q_f2 q_f3 q_f4 r_f0 r_f1 r_f2 r_f3 r_f4
      generalize hV : W.setCell ⟨gb + 1, 0, none⟩ (.bool (f0 || P0)) = V at LW XW ⊢
      clear hV hW W
      obtain ⟨W, rfl⟩ : ∃ W : World, W = V := ⟨_, rfl⟩
      have q_0 := LW.out.f.c0
      have q_1 := LW.out.f.c1
      have q_2 := LW.out.f.c2
      have q_3 := LW.out.f.c3
      have q_4 := LW.out.f.c4
      have q_l := LW.out.f.lt
      have q_f0 := LW.out.f.free 0
      have q_f1 := LW.out.f.free 1
      have q_f2 := LW.out.f.free 2
      have q_f3 := LW.out.f.free 3
      have q_f4 := LW.out.f.free 4
      have r_0 := XW.out.c0
      have r_1 := XW.out.c1
      have r_2 := XW.out.c2
      have r_3 := XW.out.c3
      have r_4 := XW.out.c4
      have r_l := XW.out.lt
      have r_f0 := XW.out.free 0
      have r_f1 := XW.out.free 1
      have r_f2 := XW.out.free 2
      have r_f3 := XW.out.free 3
      have r_f4 := XW.out.free 4
      have v_0 := LW.out.a.c0
      have v_1 := LW.out.a.c1
      have v_2 := LW.out.a.c2
      have v_3 := LW.out.a.c3
      have v_4 := LW.out.a.c4
      have v_l := LW.out.a.lt
      have u_0 := LW.out.b.c0
      have u_1 := LW.out.b.c1
      have u_2 := LW.out.b.c2
      have u_3 := LW.out.b.c3
      have u_4 := LW.out.b.c4
      have u_l := LW.out.b.lt
      go_upto_region 15 with fail
      go_cut [17] (fun s wx => s = .pointer (some ⟨gx, 0, none⟩) ∧ wx = W.setCell ⟨gb + 1, 1, none⟩ (.bool (f1 || P1)))
      case first =>
        cases f1 with
        | true =>
          go_wp2_with fail
          go_meet
          exact ⟨rfl, rfl⟩
        | false =>
          cases P1 with
          | true =>
            go_wp2_with fail
            go_meet
            exact ⟨rfl, rfl⟩
          | false =>
            go_wp2_with fail
            go_meet
            exact ⟨rfl, rfl⟩
      case rest =>
      obtain ⟨rfl, rfl⟩ := hcut
      replace LW := Lib.hid (LW.out.put1 NE.out (f1 || P1))
      replace XW := Lib.hid (XW.out.other (p := ⟨gb + 1, 1, none⟩) (Ne.symm NX.out.1) (.bool (f1 || P1)))
      clear q_0 q_1 q_2 q_3 q_4 q_l r_0 r_1 r_2 r_3 r_4 r_l v_0 v_1 v_2 v_3 v_4 v_l u_0 u_1 u_2 u_3 u_4 u_l q_f0 q_f1 q_f2 q_f3 q_f4 r_f0 r_f1 r_f2 r_f3 r_f4
      generalize hV : W.setCell ⟨gb + 1, 1, none⟩ (.bool (f1 || P1)) = V at LW XW ⊢
      clear hV W
      obtain ⟨W, rfl⟩ : ∃ W : World, W = V := ⟨_, rfl⟩
      have q_0 := LW.out.f.c0
      have q_1 := LW.out.f.c1
      have q_2 := LW.out.f.c2
      have q_3 := LW.out.f.c3
      have q_4 := LW.out.f.c4
      have q_l := LW.out.f.lt
      have q_f0 := LW.out.f.free 0
      have q_f1 := LW.out.f.free 1
      have q_f2 := LW.out.f.free 2
      have q_f3 := LW.out.f.free 3
      have q_f4 := LW.out.f.free 4
      have r_0 := XW.out.c0
      have r_1 := XW.out.c1
      have r_2 := XW.out.c2
      have r_3 := XW.out.c3
      have r_4 := XW.out.c4
      have r_l := XW.out.lt
      have r_f0 := XW.out.free 0
      have r_f1 := XW.out.free 1
      have r_f2 := XW.out.free 2
      have r_f3 := XW.out.free 3
      have r_f4 := XW.out.free 4
      have v_0 := LW.out.a.c0
      have v_1 := LW.out.a.c1
      have v_2 := LW.out.a.c2
      have v_3 := LW.out.a.c3
      have v_4 := LW.out.a.c4
      have v_l := LW.out.a.lt
      have u_0 := LW.out.b.c0
      have u_1 := LW.out.b.c1
      have u_2 := LW.out.b.c2
      have u_3 := LW.out.b.c3
      have u_4 := LW.out.b.c4
      have u_l := LW.out.b.lt
      go_upto_region 16 with fail
      go_cut [17] (fun s wx => s = .pointer (some ⟨gx, 0, none⟩) ∧ wx = W.setCell ⟨gb + 1, 2, none⟩ (.bool (f2 || P2)))
      case first =>
        cases f2 with
        | true =>
          go_wp2_with fail
          go_meet
          exact ⟨rfl, rfl⟩
        | false =>
          cases P2 with
          | true =>
            go_wp2_with fail
            go_meet
            exact ⟨rfl, rfl⟩
          | false =>
            go_wp2_with fail
            go_meet
            exact ⟨rfl, rfl⟩
      case rest =>
      obtain ⟨rfl, rfl⟩ := hcut
      replace LW := Lib.hid (LW.out.put2 NE.out (f2 || P2))
      replace XW := Lib.hid (XW.out.other (p := ⟨gb + 1, 2, none⟩) (Ne.symm NX.out.1) (.bool (f2 || P2)))
      clear q_0 q_1 q_2 q_3 q_4 q_l r_0 r_1 r_2 r_3 r_4 r_l v_0 v_1 v_2 v_3 v_4 v_l u_0 u_1 u_2 u_3 u_4 u_l q_f0 q_f1 q_f2 q_f3 q_f4 r_f0 r_f1 r_f2 r_f3 r_f4
      generalize hV : W.setCell ⟨gb + 1, 2, none⟩ (.bool (f2 || P2)) = V at LW XW ⊢
      clear hV W
      obtain ⟨W, rfl⟩ : ∃ W : World, W = V := ⟨_, rfl⟩
      have q_0 := LW.out.f.c0
      have q_1 := LW.out.f.c1
      have q_2 := LW.out.f.c2
      have q_3 := LW.out.f.c3
      have q_4 := LW.out.f.c4
      have q_l := LW.out.f.lt
      have q_f0 := LW.out.f.free 0
      have q_f1 := LW.out.f.free 1
      have q_f2 := LW.out.f.free 2
      have q_f3 := LW.out.f.free 3
      have q_f4 := LW.out.f.free 4
      have r_0 := XW.out.c0
      have r_1 := XW.out.c1
      have r_2 := XW.out.c2
      have r_3 := XW.out.c3
      have r_4 := XW.out.c4
      have r_l := XW.out.lt
      have r_f0 := XW.out.free 0
      have r_f1 := XW.out.free 1
      have r_f2 := XW.out.free 2
      have r_f3 := XW.out.free 3
      have r_f4 := XW.out.free 4
      have v_0 := LW.out.a.c0
      have v_1 := LW.out.a.c1
      have v_2 := LW.out.a.c2
      have v_3 := LW.out.a.c3
      have v_4 := LW.out.a.c4
      have v_l := LW.out.a.lt
      have u_0 := LW.out.b.c0
      have u_1 := LW.out.b.c1
      have u_2 := LW.out.b.c2
      have u_3 := LW.out.b.c3
      have u_4 := LW.out.b.c4
      have u_l := LW.out.b.lt
      go_upto_region 17 with fail
      go_cut [17] (fun s wx => s = .pointer (some ⟨gx, 0, none⟩) ∧ wx = W.setCell ⟨gb + 1, 3, none⟩ (.bool (f3 || P3)))
      case first =>
        cases f3 with
        | true =>
          go_wp2_with fail
          go_meet
          exact ⟨rfl, rfl⟩
        | false =>
          cases P3 with
          | true =>
            go_wp2_with fail
            go_meet
            exact ⟨rfl, rfl⟩
          | false =>
            go_wp2_with fail
            go_meet
            exact ⟨rfl, rfl⟩
      case rest =>
      obtain ⟨rfl, rfl⟩ := hcut
      replace LW := Lib.hid (LW.out.put3 NE.out (f3 || P3))
      replace XW := Lib.hid (XW.out.other (p := ⟨gb + 1, 3, none⟩) (Ne.symm NX.out.1) (.bool (f3 || P3)))
      clear q_0 q_1 q_2 q_3 q_4 q_l r_0 r_1 r_2 r_3 r_4 r_l v_0 v_1 v_2 v_3 v_4 v_l u_0 u_1 u_2 u_3 u_4 u_l q_f0 q_f1 q_f2 q_f3 q_f4 r_f0 r_f1 r_f2 r_f3 r_f4
      generalize hV : W.setCell ⟨gb + 1, 3, none⟩ (.bool (f3 || P3)) = V at LW XW ⊢
      clear hV W
      obtain ⟨W, rfl⟩ : ∃ W : World, W = V := ⟨_, rfl⟩
      have q_0 := LW.out.f.c0
      have q_1 := LW.out.f.c1
      have q_2 := LW.out.f.c2
      have q_3 := LW.out.f.c3
      have q_4 := LW.out.f.c4
      have q_l := LW.out.f.lt
      have q_f0 := LW.out.f.free 0
      have q_f1 := LW.out.f.free 1
      have q_f2 := LW.out.f.free 2
      have q_f3 := LW.out.f.free 3
      have q_f4 := LW.out.f.free 4
      have r_0 := XW.out.c0
      have r_1 := XW.out.c1
      have r_2 := XW.out.c2
      have r_3 := XW.out.c3
      have r_4 := XW.out.c4
      have r_l := XW.out.lt
      have r_f0 := XW.out.free 0
      have r_f1 := XW.out.free 1
      have r_f2 := XW.out.free 2
      have r_f3 := XW.out.free 3
      have r_f4 := XW.out.free 4
      have v_0 := LW.out.a.c0
      have v_1 := LW.out.a.c1
      have v_2 := LW.out.a.c2
      have v_3 := LW.out.a.c3
      have v_4 := LW.out.a.c4
      have v_l := LW.out.a.lt
      have u_0 := LW.out.b.c0
      have u_1 := LW.out.b.c1
      have u_2 := LW.out.b.c2
      have u_3 := LW.out.b.c3
      have u_4 := LW.out.b.c4
      have u_l := LW.out.b.lt
      go_upto_region 19 with fail
      replace LW := Lib.hid (LW.out.other (q := ⟨gx, 0, none⟩) NX.out.1 NX.out.2.1 NX.out.2.2.1 NX.out.2.2.2.1 NX.out.2.2.2.2.1 NX.out.2.2.2.2.2 (.int .i64 s))
      replace XW := Lib.hid (XW.out.set0 (.int .i64 s))
      clear q_0 q_1 q_2 q_3 q_4 q_l r_0 r_1 r_2 r_3 r_4 r_l v_0 v_1 v_2 v_3 v_4 v_l u_0 u_1 u_2 u_3 u_4 u_l q_f0 q_f1 q_f2 q_f3 q_f4 r_f0 r_f1 r_f2 r_f3 r_f4
      generalize hV : W.setCell ⟨gx, 0, none⟩ (.int .i64 s) = V at LW XW ⊢
      clear hV W
      obtain ⟨W, rfl⟩ : ∃ W : World, W = V := ⟨_, rfl⟩
      have q_0 := LW.out.f.c0
      have q_1 := LW.out.f.c1
      have q_2 := LW.out.f.c2
      have q_3 := LW.out.f.c3
      have q_4 := LW.out.f.c4
      have q_l := LW.out.f.lt
      have q_f0 := LW.out.f.free 0
      have q_f1 := LW.out.f.free 1
      have q_f2 := LW.out.f.free 2
      have q_f3 := LW.out.f.free 3
      have q_f4 := LW.out.f.free 4
      have r_0 := XW.out.c0
      have r_1 := XW.out.c1
      have r_2 := XW.out.c2
      have r_3 := XW.out.c3
      have r_4 := XW.out.c4
      have r_l := XW.out.lt
      have r_f0 := XW.out.free 0
      have r_f1 := XW.out.free 1
      have r_f2 := XW.out.free 2
      have r_f3 := XW.out.free 3
      have r_f4 := XW.out.free 4
      have v_0 := LW.out.a.c0
      have v_1 := LW.out.a.c1
      have v_2 := LW.out.a.c2
      have v_3 := LW.out.a.c3
      have v_4 := LW.out.a.c4
      have v_l := LW.out.a.lt
      have u_0 := LW.out.b.c0
      have u_1 := LW.out.b.c1
      have u_2 := LW.out.b.c2
      have u_3 := LW.out.b.c3
      have u_4 := LW.out.b.c4
      have u_l := LW.out.b.lt
      have LV := Lib.hid (LW.out.put4 NE.out (f4 || P4))
      cases f4 with
      | true =>
        go_wp2_with fail
        go_roundw
        case rel => exact ⟨k + 1, by omega, by go_num, by unfold Hid; rw [S0.out, S1.out, S2.out, S3.out, S4.out]; exact LV.out⟩
        case measure => simp [intOf]; omega
      | false =>
        cases P4 with
        | true =>
          go_wp2_with fail
          go_roundw
          case rel => exact ⟨k + 1, by omega, by go_num, by unfold Hid; rw [S0.out, S1.out, S2.out, S3.out, S4.out]; exact LV.out⟩
          case measure => simp [intOf]; omega
        | false =>
          go_wp2_with fail
          go_roundw
          case rel => exact ⟨k + 1, by omega, by go_num, by unfold Hid; rw [S0.out, S1.out, S2.out, S3.out, S4.out]; exact LV.out⟩
          case measure => simp [intOf]; omega
    · obtain rfl : k = len := by omega
      have e0 : z.take k = z := List.take_of_length_le (by rw [HL.out]; exact Nat.le_refl _)
      rw [e0, N0.out, N1.out, N2.out, N3.out, N4.out] at LP
      clear e0 N0 N1 N2 N3 N4 hk
      obtain ⟨m, rfl⟩ : ∃ m, k = m + 1 := ⟨k - 1, by have := Q1.out.1; have := HL.out; omega⟩
      obtain ⟨p, rfl, hp, hX, hI⟩ := HZ.out m (by omega)
      obtain ⟨l1, l2, _⟩ := sum_ok Q1.out m (by rw [HL.out]; omega)
      replace hX := hX.below LP.out.bl (by rw [block_of_add]; exact hp)
      obtain ⟨e, he⟩ : ∃ e, z.getD m Ch.nil = e := ⟨_, rfl⟩
      rw [he] at hX hI l1 l2
      have HE := Lib.hid he
      clear he hI
      obtain ⟨kt, ka, kb, kc, kd⟩ := e
      obtain ⟨x0, x1, x2, x3, x4⟩ := hX
      dsimp only at x0 l1 l2
      clear x1 x2 x3 x4
      have q_0 := LP.out.f.c0
      have q_1 := LP.out.f.c1
      have q_2 := LP.out.f.c2
      have q_3 := LP.out.f.c3
      have q_4 := LP.out.f.c4
      have q_l := LP.out.f.lt
      have v_0 := LP.out.a.c0
      have v_1 := LP.out.a.c1
      have v_2 := LP.out.a.c2
      have v_3 := LP.out.a.c3
      have v_4 := LP.out.a.c4
      have v_l := LP.out.a.lt
      have u_0 := LP.out.b.c0
      have u_1 := LP.out.b.c1
      have u_2 := LP.out.b.c2
      have u_3 := LP.out.b.c3
      have u_4 := LP.out.b.c4
      have u_l := LP.out.b.lt
      have c_0 := LP.out.c.c0
      have c_1 := LP.out.c.c1
      have c_2 := LP.out.c.c2
      have c_3 := LP.out.c.c3
      have c_4 := LP.out.c.c4
      have c_l := LP.out.c.lt
      have c_f0 := LP.out.c.free 0
      have i_0 := LP.out.i.c0
      have i_1 := LP.out.i.c1
      have i_l := LP.out.i.lt
      have AT := fun W => five_true W
      by_cases c1 : 3000000000000000 ≤ hi
      · have d1 : decide (3000000000000000 ≤ hi) = true := by simp; omega
        clear c1
        go_wp2_with fail
        go_ret
        exact ⟨by simp, LP.out.bl⟩
      by_cases c2 : 3000000000000000 ≤ kt
      · have d1 : decide (3000000000000000 ≤ hi) = false := by simp; omega
        have d2 : decide (3000000000000000 ≤ kt) = true := by simp; omega
        clear c1 c2
        go_wp2_with fail
        go_ret
        exact ⟨by simp, LP.out.bl⟩
      have d1 : decide (3000000000000000 ≤ hi) = false := by simp; omega
      have d2 : decide (3000000000000000 ≤ kt) = false := by simp; omega
      obtain ⟨mx, hmx⟩ : ∃ x, max hi kt = x := ⟨_, rfl⟩
      obtain ⟨nx, hnx⟩ : ∃ x, mx + 1 = x := ⟨_, rfl⟩
      have m1 : 1 ≤ nx ∧ nx ≤ 3000000000000000 := by omega
      have HN := Lib.hid (show hi < nx ∧ kt < nx ∧ m + 1 ≤ 19 by omega)
      go_upto_region 27 with fail
      have LB : Hid (Lp w (wr.setCell ⟨w.heap.size + 1, 0, none⟩ (.int .i64 nx)) (gb + 1) ga gb (w.heap.size + 1) w.heap.size true true true true true ⟨lo, xa, xb, xc, xd⟩ ⟨s, ya, yb, yc, yd⟩ ⟨nx, a, b, c, d⟩ lo hi) :=
        ⟨LP.out.f.other (p := ⟨w.heap.size + 1, 0, none⟩) (Ne.symm NE.out.c) _, LP.out.a.other (p := ⟨w.heap.size + 1, 0, none⟩) NC.out.1 _, LP.out.b.other (p := ⟨w.heap.size + 1, 0, none⟩) NC.out.2 _, LP.out.c.set0 _,
          LP.out.i.other (p := ⟨w.heap.size + 1, 0, none⟩) (show w.heap.size ≠ w.heap.size + 1 by omega) _, LP.out.bl.setCell (p := ⟨w.heap.size + 1, 0, none⟩) (show w.heap.size ≤ w.heap.size + 1 by omega) _⟩
      clear x0 AT d1 d2 c1 c2 hmx
      clear q_0 q_1 q_2 q_3 q_4 q_l v_0 v_1 v_2 v_3 v_4 v_l u_0 u_1 u_2 u_3 u_4 u_l c_0 c_1 c_2 c_3 c_4 c_l i_0 i_1 i_l c_f0
      generalize wr.setCell ⟨w.heap.size + 1, 0, none⟩ (.int .i64 nx) = WB at LB ⊢
      have HRB := Lib.hid (HR.out.step LB.out.bl)
      have LK : Hid (LkOk (z ++ [⟨nx, a, b, c, d⟩])) := link_snoc Q1.out (by rw [HL.out]; exact HN.out.2.2) (show (Ch.mk nx a b c d).Form from Q3.out) (by rw [HL.out, show m + 1 - 1 = m by omega, HE.out]; exact HN.out.2.1) m1.2
      have HSN : Hid (∀ k ∈ z ++ [(⟨nx, a, b, c, d⟩ : Ch)], k.Int64) := by
        intro k hk
        rcases List.mem_append.1 hk with h | h
        · exact HR.out.2.2 k h
        · rw [List.mem_singleton] at h
          subst h
          exact ⟨⟨by dsimp only; omega, by dsimp only; omega⟩, HS.out.2⟩
      have KB : Hid (∀ (A' : Option Addr) (cap' : Nat) (w' : World), RowC w'.heap.size w' A' (m + 1 + 1) (z ++ [⟨nx, a, b, c, d⟩]) → m + 1 + 1 ≤ cap' → cap' ≤ 9223372036854775807 →
          Calls Try.prog 11 #[.slice A' (m + 1 + 1) cap', rgV lo hi] w' (Gives (.tuple #[chV ⟨lo, xa, xb, xc, xd⟩, .int .i64 0]) w')) := by
        intro A' cap' w' h1 h2 h3
        have := HG.out.bounds A' (m + 1 + 1) cap' (z ++ [⟨nx, a, b, c, d⟩]) lo hi ⟨by omega, by omega⟩ ⟨by omega, by omega⟩ w' h1 h2 h3
        rw [bounds_snoc Q1.out LK.out i2 HN.out.1, HX.out] at this
        exact this
      have HN' := HN
      clear LP Q1 Q3 HS HG HX HL HE HR HZ LK NE NC Ga Gb hW y1 y2 v1 v2 v3 v4 g1 dg1 dg2 hlt hnx HN' i1
      refine region_appcall WB _ (gc := w.heap.size + 1) (gi := w.heap.size) (f := 11) (A := some p) (len := m + 1) (cap := cap) (z := z) (c := ⟨nx, a, b, c, d⟩) (r := ⟨lo, xa, xb, xc, xd⟩) (lo := lo) (hi := hi)
        rfl (by kernel_rfl) (dep_of (by kernel_rfl)) rfl (by simp)
        ⟨_, rfl, rfl, rfl, (by intro ρ w; simp [go_sem, execOp]), fun L h => trivial⟩
        ⟨_, rfl, rfl, rfl, (by intro ρ w h; simp [go_sem, execOp, h]), fun L h => trivial⟩
        ⟨_, rfl, rfl, rfl, (by rfl), fun L h => ⟨h { on := 0, ground := Ground.data } (by simp) rfl, h { on := 1, ground := Ground.data } (by simp) rfl⟩⟩
        ⟨_, rfl, rfl, rfl, (by intro ρ w h x; have c0 := x.c0; have c1 := x.c1; have c2 := x.c2; have c3 := x.c3; have c4 := x.c4; simp [go_sem, execOp, h, c0, c1, c2, c3, c4, chV]), fun L h => trivial⟩
        ⟨_, rfl, rfl, rfl, (by intro ρ w h; simp [go_sem, execOp, h, chV, cellsC]), fun L h => h { on := 3, ground := Ground.data } (by simp) rfl⟩
        ⟨_, rfl, rfl, rfl, (by rfl), fun L h => ⟨h { on := 2, ground := Ground.data } (by simp) rfl, h { on := 4, ground := Ground.data } (by simp) rfl⟩⟩
        ⟨_, rfl, rfl, rfl, (by intro ρ w h x; have c0 := x.c0; have c1 := x.c1; simp [go_sem, execOp, h, c0, c1, rgV]), fun L h => trivial⟩
        ⟨_, rfl, rfl, rfl, (by intro A_ w x y h1 h2; simp [Act.eval] at h1 h2; simp [go_sem, execOp, h1, h2]), fun L h => ⟨h { on := 5, ground := Ground.data } (by simp) rfl, h { on := 6, ground := Ground.data } (by simp) rfl⟩⟩
        ⟨_, rfl, rfl, rfl, (by intro ρ w x h; simp [go_sem, execOp, h]), fun L h => h { on := 7, ground := Ground.data } (by simp) rfl⟩
        ⟨_, rfl, rfl, rfl, (by intro ρ w x y h; simp [go_sem, execOp, h]), fun L h => h { on := 8, ground := Ground.data } (by simp) rfl⟩
        ⟨_, rfl, rfl, rfl, (by intro ρ w x y h; simp [go_sem, execOp, h]), fun L h => h { on := 8, ground := Ground.data } (by simp) rfl⟩
        ⟨_, rfl, rfl, rfl, (by intro ρ w; simp [go_sem, execOp]), fun L h => trivial⟩
        ⟨_, rfl, rfl, rfl, (by intro ρ w g h1 h2 x; have c0 := x.c0; have c1 := x.c1; have c2 := x.c2; have c3 := x.c3; have c4 := x.c4; have l := x.lt; have f0 := x.free 0; have f1 := x.free 1; have f2 := x.free 2; have f3 := x.free 3; have f4 := x.free 4; simp [go_sem, execOp, h1, h2, chV, c0, c1, c2, c3, c4, l, f0, f1, f2, f3, f4]), fun L h => ⟨h { on := 7, ground := Ground.chain } (by simp) rfl, h { on := 9, ground := Ground.data } (by simp) rfl, h { on := 11, ground := Ground.data } (by simp) rfl⟩⟩
        ⟨_, rfl, rfl, rfl, (by intro ρ w x h; simp [go_sem, execOp, h]), fun L h => h { on := 10, ground := Ground.data } (by simp) rfl⟩
        rfl rfl rfl HRB.out hv.out (by have := HN.out; omega) LB.out.c LB.out.i HSN.out KB.out ?_
      intro u0 u1 u2 u3 u4 u5 u6 u7 u8 u9 u10 g wx FX FB0
      have FA := Lib.hid (LB.out.a.below FB0 LB.out.a.lt)
      have FB := Lib.hid (LB.out.bl.trans (FB0.mono LB.out.bl.size))
      have f_0 := FX.c0
      have a_0 := FA.out.c0
      have f_1 := FX.c1
      have a_1 := FA.out.c1
      have f_2 := FX.c2
      have a_2 := FA.out.c2
      have f_3 := FX.c3
      have a_3 := FA.out.c3
      have f_4 := FX.c4
      have a_4 := FA.out.c4
      have f_l := FX.lt
      have a_l := FA.out.lt
      clear FX FB0 LB HRB HSN KB
      go_wp2_with fail
      go_ret
      exact ⟨by simp, FB.out⟩
end Go.Proofs.Ytkeahbdeddjoeaa
