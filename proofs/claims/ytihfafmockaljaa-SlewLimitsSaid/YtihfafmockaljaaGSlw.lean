/- Layer 9: package slew's Start, Show, Steer, Left over the landed code, and the bundle (gen/gen_prog.py writes this). -/
import Derived.Test.YtihfafmockaljaaGShow
import Derived.Test.YtihfafmockaljaaGRate
namespace Go.Proofs.Ytihfafmockaljaa
open Go.RowKit Go
set_option linter.unusedVariables false
set_option linter.unusedSimpArgs false

theorem dec_yes {q : Prop} [Decidable q] (h : q) : true = decide q := by simp [h]
theorem dec_no {q : Prop} [Decidable q] (h : ¬ q) : false = decide q := by simp [h]
set_option maxHeartbeats 4000000 in
theorem gstart_any (a s : Int) (ia : I64 a) (is : I64 s) (w : World) :
    Calls Try.prog 16 #[.int .i64 a, .int .i64 s] w (Gives (.tuple #[clV (startR a s).1 (startR a s).2.1 (startR a s).2.2.1, .int .i64 (startR a s).2.2.2]) w) := by
  have E : startR a s = if TimeOk a ∧ TimeOk s then (a, s, 0, 0) else (0, 0, 0, 1) := rfl
  unfold clV
  by_cases q1 : TimeOk a
  · have TA := Lib.hid (gtime_any a true (dec_yes q1) ia)
    by_cases q2 : TimeOk s
    · have TS := Lib.hid (gtime_any s true (dec_yes q2) is)
      rw [E, if_pos ⟨q1, q2⟩]
      clear E q1 q2 ia is
      obtain ⟨W, hW⟩ : ∃ W, (w.alloc (.cells #[.int .i64 0, .int .i64 0, .int .i64 0] 23)) = W := ⟨_, rfl⟩
      have R : Hid (Three W (w.heap.size) 23 (.int .i64 0) (.int .i64 0) (.int .i64 0)) := by
        rw [← hW]
        have k := Three.new w 23 (.int .i64 0) (.int .i64 0) (.int .i64 0)
        exact k
      have BB : Hid (Below w.heap.size w W) := by rw [← hW]; exact below_alloc w _
      have r_0 := R.out.c0
      have r_1 := R.out.c1
      have r_2 := R.out.c2
      have r_l := R.out.lt
      have r_f0 := R.out.free 0
      have r_f1 := R.out.free 1
      have r_f2 := R.out.free 2
      go_enter Try.func16, Try.ntmps16
      go_wp2_with (first
        | (go_at_call 18; (with_reducible refine (TA.out _).mono ?_); rintro e w' ⟨rfl, rfl⟩; clear TA)
        | (go_at_call 18; (with_reducible refine (TS.out _).mono ?_); rintro e w' ⟨rfl, rfl⟩; clear TS))
      refine bodyPost_ret (v := .tuple #[.agg #[.int .i64 a, .int .i64 s, .int .i64 0], .int .i64 0]) (by simp [results, Try.results16, go_sem, r_0, r_1, r_2, r_l]) rfl ⟨rfl, ?_⟩
      exact (((BB.out.setCell (p := ⟨w.heap.size, 0, none⟩) (by show w.heap.size ≤ w.heap.size; omega) _).setCell (p := ⟨w.heap.size, 1, none⟩) (by show w.heap.size ≤ w.heap.size; omega) _).setCell (p := ⟨w.heap.size, 2, none⟩) (by show w.heap.size ≤ w.heap.size; omega) _)
    · have TS := Lib.hid (gtime_any s false (dec_no q2) is)
      rw [E, if_neg (fun k => q2 k.2)]
      clear E q1 q2 ia is
      obtain ⟨W, hW⟩ : ∃ W, (w.alloc (.cells #[.int .i64 0, .int .i64 0, .int .i64 0] 23)) = W := ⟨_, rfl⟩
      have R : Hid (Three W (w.heap.size) 23 (.int .i64 0) (.int .i64 0) (.int .i64 0)) := by
        rw [← hW]
        have k := Three.new w 23 (.int .i64 0) (.int .i64 0) (.int .i64 0)
        exact k
      have BB : Hid (Below w.heap.size w W) := by rw [← hW]; exact below_alloc w _
      have r_0 := R.out.c0
      have r_1 := R.out.c1
      have r_2 := R.out.c2
      have r_l := R.out.lt
      have r_f0 := R.out.free 0
      have r_f1 := R.out.free 1
      have r_f2 := R.out.free 2
      go_enter Try.func16, Try.ntmps16
      go_wp2_with (first
        | (go_at_call 18; (with_reducible refine (TA.out _).mono ?_); rintro e w' ⟨rfl, rfl⟩; clear TA)
        | (go_at_call 18; (with_reducible refine (TS.out _).mono ?_); rintro e w' ⟨rfl, rfl⟩; clear TS))
      refine bodyPost_ret (v := .tuple #[.agg #[.int .i64 0, .int .i64 0, .int .i64 0], .int .i64 1]) (by simp [results, Try.results16, go_sem, r_0, r_1, r_2, r_l]) rfl ⟨rfl, ?_⟩
      exact (((BB.out.setCell (p := ⟨w.heap.size, 0, none⟩) (by show w.heap.size ≤ w.heap.size; omega) _).setCell (p := ⟨w.heap.size, 1, none⟩) (by show w.heap.size ≤ w.heap.size; omega) _).setCell (p := ⟨w.heap.size, 2, none⟩) (by show w.heap.size ≤ w.heap.size; omega) _)
  · have TA := Lib.hid (gtime_any a false (dec_no q1) ia)
    rw [E, if_neg (fun k => q1 k.1)]
    clear E q1 ia is
    obtain ⟨W, hW⟩ : ∃ W, (w.alloc (.cells #[.int .i64 0, .int .i64 0, .int .i64 0] 23)) = W := ⟨_, rfl⟩
    have R : Hid (Three W (w.heap.size) 23 (.int .i64 0) (.int .i64 0) (.int .i64 0)) := by
      rw [← hW]
      have k := Three.new w 23 (.int .i64 0) (.int .i64 0) (.int .i64 0)
      exact k
    have BB : Hid (Below w.heap.size w W) := by rw [← hW]; exact below_alloc w _
    have r_0 := R.out.c0
    have r_1 := R.out.c1
    have r_2 := R.out.c2
    have r_l := R.out.lt
    have r_f0 := R.out.free 0
    have r_f1 := R.out.free 1
    have r_f2 := R.out.free 2
    go_enter Try.func16, Try.ntmps16
    go_wp2_with (go_at_call 18; (with_reducible refine (TA.out _).mono ?_); rintro e w' ⟨rfl, rfl⟩; clear TA)
    refine bodyPost_ret (v := .tuple #[.agg #[.int .i64 0, .int .i64 0, .int .i64 0], .int .i64 1]) (by simp [results, Try.results16, go_sem, r_0, r_1, r_2, r_l]) rfl ⟨rfl, ?_⟩
    exact (((BB.out.setCell (p := ⟨w.heap.size, 0, none⟩) (by show w.heap.size ≤ w.heap.size; omega) _).setCell (p := ⟨w.heap.size, 1, none⟩) (by show w.heap.size ≤ w.heap.size; omega) _).setCell (p := ⟨w.heap.size, 2, none⟩) (by show w.heap.size ≤ w.heap.size; omega) _)
set_option maxHeartbeats 4000000 in
theorem gshow_any (p s r a : Int) (ip : I64 p) (is : I64 s) (ir : I64 r) (ia : I64 a) (w : World) :
    Calls Try.prog 10 #[clV p s r, .int .i64 a] w (Gives (.tuple #[.int .i64 (showR p s r a).1, .int .i64 (showR p s r a).2]) w) := by
  by_cases q1 : ClOk p s r
  · have VB := Lib.hid (gvalid_any p s r true (dec_yes q1) ip is ir)
    by_cases q2 : TimeOk a
    · have TA := Lib.hid (gtime_any a true (dec_yes q2) ia)
      have SH := Lib.hid (gshown_any p s r a q1 q2)
      generalize showR p s r a = R at SH ⊢
      obtain ⟨x, er⟩ := R
      clear q1 q2 ip is ir ia
      unfold clV at VB SH ⊢
      dsimp only at SH ⊢
      obtain ⟨W, hW⟩ : ∃ W, ((w.alloc (.cells #[.int .i64 p, .int .i64 s, .int .i64 r] 23)).alloc (.cells #[.int .i64 p, .int .i64 s, .int .i64 r] 44)) = W := ⟨_, rfl⟩
      have O : Hid (Three W (w.heap.size) 23 (.int .i64 p) (.int .i64 s) (.int .i64 r)) := by
        rw [← hW]
        have k := Three.new w 23 (.int .i64 p) (.int .i64 s) (.int .i64 r)
        exact (k).alloc _
      have C : Hid (Three W (w.heap.size + 1) 44 (.int .i64 p) (.int .i64 s) (.int .i64 r)) := by
        rw [← hW]
        have k := Three.new (w.alloc (.cells #[.int .i64 p, .int .i64 s, .int .i64 r] 23)) 44 (.int .i64 p) (.int .i64 s) (.int .i64 r)
        rw [show (w.alloc (.cells #[.int .i64 p, .int .i64 s, .int .i64 r] 23)).heap.size = w.heap.size + 1 by simp] at k
        exact k
      have BB : Hid (Below w.heap.size w W) := by rw [← hW]; exact (below_alloc w _).alloc (by simp) _
      have o_0 := O.out.c0
      have o_1 := O.out.c1
      have o_2 := O.out.c2
      have o_l := O.out.lt
      have c_0 := C.out.c0
      have c_1 := C.out.c1
      have c_2 := C.out.c2
      have c_l := C.out.lt
      go_enter Try.func10, Try.ntmps10
      go_wp2_with (first
        | (go_at_call 17; (with_reducible refine (VB.out _).mono ?_); rintro e w1 ⟨rfl, b1⟩; replace O := Lib.hid (O.out.below b1 O.out.lt); replace C := Lib.hid (C.out.below b1 C.out.lt); replace BB := Lib.hid (below_more BB.out b1); replace o_0 := O.out.c0; replace o_1 := O.out.c1; replace o_2 := O.out.c2; replace o_l := O.out.lt; replace c_0 := C.out.c0; replace c_1 := C.out.c1; replace c_2 := C.out.c2; replace c_l := C.out.lt; clear b1 VB)
        | (go_at_call 18; (with_reducible refine (TA.out _).mono ?_); rintro e w' ⟨rfl, rfl⟩; clear TA)
        | (go_at_call 19; (with_reducible refine (SH.out _).mono ?_); rintro e w2 ⟨rfl, b2⟩; replace O := Lib.hid (O.out.below b2 O.out.lt); replace C := Lib.hid (C.out.below b2 C.out.lt); replace BB := Lib.hid (below_more BB.out b2); replace o_0 := O.out.c0; replace o_1 := O.out.c1; replace o_2 := O.out.c2; replace o_l := O.out.lt; replace c_0 := C.out.c0; replace c_1 := C.out.c1; replace c_2 := C.out.c2; replace c_l := C.out.lt; clear b2 SH))
      go_ret2
      exact ⟨rfl, BB.out⟩
    · have TA := Lib.hid (gtime_any a false (dec_no q2) ia)
      have E : showR p s r a = (0, 1) := by unfold showR; rw [if_neg (fun k => q2 k.2)]
      rw [E]
      clear E q1 q2 ip is ir ia
      unfold clV at VB ⊢
      obtain ⟨W, hW⟩ : ∃ W, ((w.alloc (.cells #[.int .i64 p, .int .i64 s, .int .i64 r] 23)).alloc (.cells #[.int .i64 p, .int .i64 s, .int .i64 r] 44)) = W := ⟨_, rfl⟩
      have O : Hid (Three W (w.heap.size) 23 (.int .i64 p) (.int .i64 s) (.int .i64 r)) := by
        rw [← hW]
        have k := Three.new w 23 (.int .i64 p) (.int .i64 s) (.int .i64 r)
        exact (k).alloc _
      have C : Hid (Three W (w.heap.size + 1) 44 (.int .i64 p) (.int .i64 s) (.int .i64 r)) := by
        rw [← hW]
        have k := Three.new (w.alloc (.cells #[.int .i64 p, .int .i64 s, .int .i64 r] 23)) 44 (.int .i64 p) (.int .i64 s) (.int .i64 r)
        rw [show (w.alloc (.cells #[.int .i64 p, .int .i64 s, .int .i64 r] 23)).heap.size = w.heap.size + 1 by simp] at k
        exact k
      have BB : Hid (Below w.heap.size w W) := by rw [← hW]; exact (below_alloc w _).alloc (by simp) _
      have o_0 := O.out.c0
      have o_1 := O.out.c1
      have o_2 := O.out.c2
      have o_l := O.out.lt
      have c_0 := C.out.c0
      have c_1 := C.out.c1
      have c_2 := C.out.c2
      have c_l := C.out.lt
      go_enter Try.func10, Try.ntmps10
      go_wp2_with (first
        | (go_at_call 17; (with_reducible refine (VB.out _).mono ?_); rintro e w1 ⟨rfl, b1⟩; replace O := Lib.hid (O.out.below b1 O.out.lt); replace C := Lib.hid (C.out.below b1 C.out.lt); replace BB := Lib.hid (below_more BB.out b1); replace o_0 := O.out.c0; replace o_1 := O.out.c1; replace o_2 := O.out.c2; replace o_l := O.out.lt; replace c_0 := C.out.c0; replace c_1 := C.out.c1; replace c_2 := C.out.c2; replace c_l := C.out.lt; clear b1 VB)
        | (go_at_call 18; (with_reducible refine (TA.out _).mono ?_); rintro e w' ⟨rfl, rfl⟩; clear TA))
      go_ret2
      exact ⟨rfl, BB.out⟩
  · have VB := Lib.hid (gvalid_any p s r false (dec_no q1) ip is ir)
    have E : showR p s r a = (0, 1) := by unfold showR; rw [if_neg (fun k => q1 k.1)]
    rw [E]
    clear E q1 ip is ir ia
    unfold clV at VB ⊢
    obtain ⟨W, hW⟩ : ∃ W, ((w.alloc (.cells #[.int .i64 p, .int .i64 s, .int .i64 r] 23)).alloc (.cells #[.int .i64 p, .int .i64 s, .int .i64 r] 44)) = W := ⟨_, rfl⟩
    have O : Hid (Three W (w.heap.size) 23 (.int .i64 p) (.int .i64 s) (.int .i64 r)) := by
      rw [← hW]
      have k := Three.new w 23 (.int .i64 p) (.int .i64 s) (.int .i64 r)
      exact (k).alloc _
    have C : Hid (Three W (w.heap.size + 1) 44 (.int .i64 p) (.int .i64 s) (.int .i64 r)) := by
      rw [← hW]
      have k := Three.new (w.alloc (.cells #[.int .i64 p, .int .i64 s, .int .i64 r] 23)) 44 (.int .i64 p) (.int .i64 s) (.int .i64 r)
      rw [show (w.alloc (.cells #[.int .i64 p, .int .i64 s, .int .i64 r] 23)).heap.size = w.heap.size + 1 by simp] at k
      exact k
    have BB : Hid (Below w.heap.size w W) := by rw [← hW]; exact (below_alloc w _).alloc (by simp) _
    have o_0 := O.out.c0
    have o_1 := O.out.c1
    have o_2 := O.out.c2
    have o_l := O.out.lt
    have c_0 := C.out.c0
    have c_1 := C.out.c1
    have c_2 := C.out.c2
    have c_l := C.out.lt
    go_enter Try.func10, Try.ntmps10
    go_wp2_with (go_at_call 17; (with_reducible refine (VB.out _).mono ?_); rintro e w1 ⟨rfl, b1⟩; replace O := Lib.hid (O.out.below b1 O.out.lt); replace C := Lib.hid (C.out.below b1 C.out.lt); replace BB := Lib.hid (below_more BB.out b1); replace o_0 := O.out.c0; replace o_1 := O.out.c1; replace o_2 := O.out.c2; replace o_l := O.out.lt; replace c_0 := C.out.c0; replace c_1 := C.out.c1; replace c_2 := C.out.c2; replace c_l := C.out.lt; clear b1 VB)
    go_ret2
    exact ⟨rfl, BB.out⟩
set_option maxHeartbeats 4000000 in
theorem gsteer_bad (p s r a v m h : Int) (ip : I64 p) (is : I64 s) (ir : I64 r) (ia : I64 a) (iv : I64 v) (im : I64 m) (ih : I64 h) (hno : ¬ StOk p s r a v m h) (w : World) :
    Calls Try.prog 12 #[clV p s r, .int .i64 a, .int .i64 v, .int .i64 m, .int .i64 h] w (Gives (.tuple #[clV 0 0 0, .int .i64 1]) w) := by
  unfold clV
  by_cases q1 : ClOk p s r
  rotate_left
  · have VB := Lib.hid (gvalid_any p s r false (dec_no q1) ip is ir)
    clear hno q1 ip is ir ia iv im ih
    unfold clV at VB
    obtain ⟨W, hW⟩ : ∃ W, (((w.alloc (.cells #[.int .i64 p, .int .i64 s, .int .i64 r] 23)).alloc (.cells #[.int .i64 0, .int .i64 0, .int .i64 0] 23)).alloc (.cells #[.int .i64 p, .int .i64 s, .int .i64 r] 44)) = W := ⟨_, rfl⟩
    have O : Hid (Three W (w.heap.size) 23 (.int .i64 p) (.int .i64 s) (.int .i64 r)) := by
      rw [← hW]
      have k := Three.new w 23 (.int .i64 p) (.int .i64 s) (.int .i64 r)
      exact ((k).alloc _).alloc _
    have R : Hid (Three W (w.heap.size + 1) 23 (.int .i64 0) (.int .i64 0) (.int .i64 0)) := by
      rw [← hW]
      have k := Three.new (w.alloc (.cells #[.int .i64 p, .int .i64 s, .int .i64 r] 23)) 23 (.int .i64 0) (.int .i64 0) (.int .i64 0)
      rw [show (w.alloc (.cells #[.int .i64 p, .int .i64 s, .int .i64 r] 23)).heap.size = w.heap.size + 1 by simp] at k
      exact (k).alloc _
    have C : Hid (Three W (w.heap.size + 1 + 1) 44 (.int .i64 p) (.int .i64 s) (.int .i64 r)) := by
      rw [← hW]
      have k := Three.new ((w.alloc (.cells #[.int .i64 p, .int .i64 s, .int .i64 r] 23)).alloc (.cells #[.int .i64 0, .int .i64 0, .int .i64 0] 23)) 44 (.int .i64 p) (.int .i64 s) (.int .i64 r)
      rw [show ((w.alloc (.cells #[.int .i64 p, .int .i64 s, .int .i64 r] 23)).alloc (.cells #[.int .i64 0, .int .i64 0, .int .i64 0] 23)).heap.size = w.heap.size + 1 + 1 by simp] at k
      exact k
    have BB : Hid (Below w.heap.size w W) := by rw [← hW]; exact ((below_alloc w _).alloc (by simp) _).alloc (by simp; omega) _
    have o_0 := O.out.c0
    have o_1 := O.out.c1
    have o_2 := O.out.c2
    have o_l := O.out.lt
    have r_0 := R.out.c0
    have r_1 := R.out.c1
    have r_2 := R.out.c2
    have r_l := R.out.lt
    have r_f0 := R.out.free 0
    have r_f1 := R.out.free 1
    have r_f2 := R.out.free 2
    have c_0 := C.out.c0
    have c_1 := C.out.c1
    have c_2 := C.out.c2
    have c_l := C.out.lt
    go_enter Try.func12, Try.ntmps12
    go_wp2_with (go_at_call 17; (with_reducible refine (VB.out _).mono ?_); rintro e w1 ⟨rfl, b1⟩; replace O := Lib.hid (O.out.below b1 O.out.lt); replace R := Lib.hid (R.out.below b1 R.out.lt); replace C := Lib.hid (C.out.below b1 C.out.lt); replace BB := Lib.hid (below_more BB.out b1); replace o_0 := O.out.c0; replace o_1 := O.out.c1; replace o_2 := O.out.c2; replace o_l := O.out.lt; replace r_0 := R.out.c0; replace r_1 := R.out.c1; replace r_2 := R.out.c2; replace r_l := R.out.lt; replace r_f0 := R.out.free 0; replace r_f1 := R.out.free 1; replace r_f2 := R.out.free 2; replace c_0 := C.out.c0; replace c_1 := C.out.c1; replace c_2 := C.out.c2; replace c_l := C.out.lt; clear b1 VB)
    refine bodyPost_ret (v := .tuple #[.agg #[.int .i64 0, .int .i64 0, .int .i64 0], .int .i64 1]) (by simp [results, Try.results12, go_sem, r_0, r_1, r_2, r_l]) rfl ⟨rfl, ?_⟩
    exact (((BB.out.setCell (p := ⟨w.heap.size + 1, 0, none⟩) (by show w.heap.size ≤ w.heap.size + 1; omega) _).setCell (p := ⟨w.heap.size + 1, 1, none⟩) (by show w.heap.size ≤ w.heap.size + 1; omega) _).setCell (p := ⟨w.heap.size + 1, 2, none⟩) (by show w.heap.size ≤ w.heap.size + 1; omega) _)
  have VB := Lib.hid (gvalid_any p s r true (dec_yes q1) ip is ir)
  by_cases q2 : TimeOk a
  rotate_left
  · have TA := Lib.hid (gtime_any a false (dec_no q2) ia)
    clear hno q1 q2 ip is ir ia iv im ih
    unfold clV at VB
    obtain ⟨W, hW⟩ : ∃ W, (((w.alloc (.cells #[.int .i64 p, .int .i64 s, .int .i64 r] 23)).alloc (.cells #[.int .i64 0, .int .i64 0, .int .i64 0] 23)).alloc (.cells #[.int .i64 p, .int .i64 s, .int .i64 r] 44)) = W := ⟨_, rfl⟩
    have O : Hid (Three W (w.heap.size) 23 (.int .i64 p) (.int .i64 s) (.int .i64 r)) := by
      rw [← hW]
      have k := Three.new w 23 (.int .i64 p) (.int .i64 s) (.int .i64 r)
      exact ((k).alloc _).alloc _
    have R : Hid (Three W (w.heap.size + 1) 23 (.int .i64 0) (.int .i64 0) (.int .i64 0)) := by
      rw [← hW]
      have k := Three.new (w.alloc (.cells #[.int .i64 p, .int .i64 s, .int .i64 r] 23)) 23 (.int .i64 0) (.int .i64 0) (.int .i64 0)
      rw [show (w.alloc (.cells #[.int .i64 p, .int .i64 s, .int .i64 r] 23)).heap.size = w.heap.size + 1 by simp] at k
      exact (k).alloc _
    have C : Hid (Three W (w.heap.size + 1 + 1) 44 (.int .i64 p) (.int .i64 s) (.int .i64 r)) := by
      rw [← hW]
      have k := Three.new ((w.alloc (.cells #[.int .i64 p, .int .i64 s, .int .i64 r] 23)).alloc (.cells #[.int .i64 0, .int .i64 0, .int .i64 0] 23)) 44 (.int .i64 p) (.int .i64 s) (.int .i64 r)
      rw [show ((w.alloc (.cells #[.int .i64 p, .int .i64 s, .int .i64 r] 23)).alloc (.cells #[.int .i64 0, .int .i64 0, .int .i64 0] 23)).heap.size = w.heap.size + 1 + 1 by simp] at k
      exact k
    have BB : Hid (Below w.heap.size w W) := by rw [← hW]; exact ((below_alloc w _).alloc (by simp) _).alloc (by simp; omega) _
    have o_0 := O.out.c0
    have o_1 := O.out.c1
    have o_2 := O.out.c2
    have o_l := O.out.lt
    have r_0 := R.out.c0
    have r_1 := R.out.c1
    have r_2 := R.out.c2
    have r_l := R.out.lt
    have r_f0 := R.out.free 0
    have r_f1 := R.out.free 1
    have r_f2 := R.out.free 2
    have c_0 := C.out.c0
    have c_1 := C.out.c1
    have c_2 := C.out.c2
    have c_l := C.out.lt
    go_enter Try.func12, Try.ntmps12
    go_wp2_with (first
      | (go_at_call 17; (with_reducible refine (VB.out _).mono ?_); rintro e w1 ⟨rfl, b1⟩; replace O := Lib.hid (O.out.below b1 O.out.lt); replace R := Lib.hid (R.out.below b1 R.out.lt); replace C := Lib.hid (C.out.below b1 C.out.lt); replace BB := Lib.hid (below_more BB.out b1); replace o_0 := O.out.c0; replace o_1 := O.out.c1; replace o_2 := O.out.c2; replace o_l := O.out.lt; replace r_0 := R.out.c0; replace r_1 := R.out.c1; replace r_2 := R.out.c2; replace r_l := R.out.lt; replace r_f0 := R.out.free 0; replace r_f1 := R.out.free 1; replace r_f2 := R.out.free 2; replace c_0 := C.out.c0; replace c_1 := C.out.c1; replace c_2 := C.out.c2; replace c_l := C.out.lt; clear b1 VB)
      | (go_at_call 18; (with_reducible refine (TA.out _).mono ?_); rintro e w' ⟨rfl, rfl⟩; clear TA))
    refine bodyPost_ret (v := .tuple #[.agg #[.int .i64 0, .int .i64 0, .int .i64 0], .int .i64 1]) (by simp [results, Try.results12, go_sem, r_0, r_1, r_2, r_l]) rfl ⟨rfl, ?_⟩
    exact (((BB.out.setCell (p := ⟨w.heap.size + 1, 0, none⟩) (by show w.heap.size ≤ w.heap.size + 1; omega) _).setCell (p := ⟨w.heap.size + 1, 1, none⟩) (by show w.heap.size ≤ w.heap.size + 1; omega) _).setCell (p := ⟨w.heap.size + 1, 2, none⟩) (by show w.heap.size ≤ w.heap.size + 1; omega) _)
  have TA := Lib.hid (gtime_any a true (dec_yes q2) ia)
  by_cases q3 : TimeOk v
  rotate_left
  · have TV := Lib.hid (gtime_any v false (dec_no q3) iv)
    clear hno q1 q2 q3 ip is ir ia iv im ih
    unfold clV at VB
    obtain ⟨W, hW⟩ : ∃ W, (((w.alloc (.cells #[.int .i64 p, .int .i64 s, .int .i64 r] 23)).alloc (.cells #[.int .i64 0, .int .i64 0, .int .i64 0] 23)).alloc (.cells #[.int .i64 p, .int .i64 s, .int .i64 r] 44)) = W := ⟨_, rfl⟩
    have O : Hid (Three W (w.heap.size) 23 (.int .i64 p) (.int .i64 s) (.int .i64 r)) := by
      rw [← hW]
      have k := Three.new w 23 (.int .i64 p) (.int .i64 s) (.int .i64 r)
      exact ((k).alloc _).alloc _
    have R : Hid (Three W (w.heap.size + 1) 23 (.int .i64 0) (.int .i64 0) (.int .i64 0)) := by
      rw [← hW]
      have k := Three.new (w.alloc (.cells #[.int .i64 p, .int .i64 s, .int .i64 r] 23)) 23 (.int .i64 0) (.int .i64 0) (.int .i64 0)
      rw [show (w.alloc (.cells #[.int .i64 p, .int .i64 s, .int .i64 r] 23)).heap.size = w.heap.size + 1 by simp] at k
      exact (k).alloc _
    have C : Hid (Three W (w.heap.size + 1 + 1) 44 (.int .i64 p) (.int .i64 s) (.int .i64 r)) := by
      rw [← hW]
      have k := Three.new ((w.alloc (.cells #[.int .i64 p, .int .i64 s, .int .i64 r] 23)).alloc (.cells #[.int .i64 0, .int .i64 0, .int .i64 0] 23)) 44 (.int .i64 p) (.int .i64 s) (.int .i64 r)
      rw [show ((w.alloc (.cells #[.int .i64 p, .int .i64 s, .int .i64 r] 23)).alloc (.cells #[.int .i64 0, .int .i64 0, .int .i64 0] 23)).heap.size = w.heap.size + 1 + 1 by simp] at k
      exact k
    have BB : Hid (Below w.heap.size w W) := by rw [← hW]; exact ((below_alloc w _).alloc (by simp) _).alloc (by simp; omega) _
    have o_0 := O.out.c0
    have o_1 := O.out.c1
    have o_2 := O.out.c2
    have o_l := O.out.lt
    have r_0 := R.out.c0
    have r_1 := R.out.c1
    have r_2 := R.out.c2
    have r_l := R.out.lt
    have r_f0 := R.out.free 0
    have r_f1 := R.out.free 1
    have r_f2 := R.out.free 2
    have c_0 := C.out.c0
    have c_1 := C.out.c1
    have c_2 := C.out.c2
    have c_l := C.out.lt
    go_enter Try.func12, Try.ntmps12
    go_wp2_with (first
      | (go_at_call 17; (with_reducible refine (VB.out _).mono ?_); rintro e w1 ⟨rfl, b1⟩; replace O := Lib.hid (O.out.below b1 O.out.lt); replace R := Lib.hid (R.out.below b1 R.out.lt); replace C := Lib.hid (C.out.below b1 C.out.lt); replace BB := Lib.hid (below_more BB.out b1); replace o_0 := O.out.c0; replace o_1 := O.out.c1; replace o_2 := O.out.c2; replace o_l := O.out.lt; replace r_0 := R.out.c0; replace r_1 := R.out.c1; replace r_2 := R.out.c2; replace r_l := R.out.lt; replace r_f0 := R.out.free 0; replace r_f1 := R.out.free 1; replace r_f2 := R.out.free 2; replace c_0 := C.out.c0; replace c_1 := C.out.c1; replace c_2 := C.out.c2; replace c_l := C.out.lt; clear b1 VB)
      | (go_at_call 18; (with_reducible refine (TA.out _).mono ?_); rintro e w' ⟨rfl, rfl⟩; clear TA)
      | (go_at_call 18; (with_reducible refine (TV.out _).mono ?_); rintro e w' ⟨rfl, rfl⟩; clear TV))
    refine bodyPost_ret (v := .tuple #[.agg #[.int .i64 0, .int .i64 0, .int .i64 0], .int .i64 1]) (by simp [results, Try.results12, go_sem, r_0, r_1, r_2, r_l]) rfl ⟨rfl, ?_⟩
    exact (((BB.out.setCell (p := ⟨w.heap.size + 1, 0, none⟩) (by show w.heap.size ≤ w.heap.size + 1; omega) _).setCell (p := ⟨w.heap.size + 1, 1, none⟩) (by show w.heap.size ≤ w.heap.size + 1; omega) _).setCell (p := ⟨w.heap.size + 1, 2, none⟩) (by show w.heap.size ≤ w.heap.size + 1; omega) _)
  have TV := Lib.hid (gtime_any v true (dec_yes q3) iv)
  by_cases q4 : 0 ≤ m ∧ m ≤ 100000000
  rotate_left
  · have LM := Lib.hid (glimit_any m false (dec_no q4) im)
    clear hno q1 q2 q3 q4 ip is ir ia iv im ih
    unfold clV at VB
    obtain ⟨W, hW⟩ : ∃ W, (((w.alloc (.cells #[.int .i64 p, .int .i64 s, .int .i64 r] 23)).alloc (.cells #[.int .i64 0, .int .i64 0, .int .i64 0] 23)).alloc (.cells #[.int .i64 p, .int .i64 s, .int .i64 r] 44)) = W := ⟨_, rfl⟩
    have O : Hid (Three W (w.heap.size) 23 (.int .i64 p) (.int .i64 s) (.int .i64 r)) := by
      rw [← hW]
      have k := Three.new w 23 (.int .i64 p) (.int .i64 s) (.int .i64 r)
      exact ((k).alloc _).alloc _
    have R : Hid (Three W (w.heap.size + 1) 23 (.int .i64 0) (.int .i64 0) (.int .i64 0)) := by
      rw [← hW]
      have k := Three.new (w.alloc (.cells #[.int .i64 p, .int .i64 s, .int .i64 r] 23)) 23 (.int .i64 0) (.int .i64 0) (.int .i64 0)
      rw [show (w.alloc (.cells #[.int .i64 p, .int .i64 s, .int .i64 r] 23)).heap.size = w.heap.size + 1 by simp] at k
      exact (k).alloc _
    have C : Hid (Three W (w.heap.size + 1 + 1) 44 (.int .i64 p) (.int .i64 s) (.int .i64 r)) := by
      rw [← hW]
      have k := Three.new ((w.alloc (.cells #[.int .i64 p, .int .i64 s, .int .i64 r] 23)).alloc (.cells #[.int .i64 0, .int .i64 0, .int .i64 0] 23)) 44 (.int .i64 p) (.int .i64 s) (.int .i64 r)
      rw [show ((w.alloc (.cells #[.int .i64 p, .int .i64 s, .int .i64 r] 23)).alloc (.cells #[.int .i64 0, .int .i64 0, .int .i64 0] 23)).heap.size = w.heap.size + 1 + 1 by simp] at k
      exact k
    have BB : Hid (Below w.heap.size w W) := by rw [← hW]; exact ((below_alloc w _).alloc (by simp) _).alloc (by simp; omega) _
    have o_0 := O.out.c0
    have o_1 := O.out.c1
    have o_2 := O.out.c2
    have o_l := O.out.lt
    have r_0 := R.out.c0
    have r_1 := R.out.c1
    have r_2 := R.out.c2
    have r_l := R.out.lt
    have r_f0 := R.out.free 0
    have r_f1 := R.out.free 1
    have r_f2 := R.out.free 2
    have c_0 := C.out.c0
    have c_1 := C.out.c1
    have c_2 := C.out.c2
    have c_l := C.out.lt
    go_enter Try.func12, Try.ntmps12
    go_wp2_with (first
      | (go_at_call 17; (with_reducible refine (VB.out _).mono ?_); rintro e w1 ⟨rfl, b1⟩; replace O := Lib.hid (O.out.below b1 O.out.lt); replace R := Lib.hid (R.out.below b1 R.out.lt); replace C := Lib.hid (C.out.below b1 C.out.lt); replace BB := Lib.hid (below_more BB.out b1); replace o_0 := O.out.c0; replace o_1 := O.out.c1; replace o_2 := O.out.c2; replace o_l := O.out.lt; replace r_0 := R.out.c0; replace r_1 := R.out.c1; replace r_2 := R.out.c2; replace r_l := R.out.lt; replace r_f0 := R.out.free 0; replace r_f1 := R.out.free 1; replace r_f2 := R.out.free 2; replace c_0 := C.out.c0; replace c_1 := C.out.c1; replace c_2 := C.out.c2; replace c_l := C.out.lt; clear b1 VB)
      | (go_at_call 18; (with_reducible refine (TA.out _).mono ?_); rintro e w' ⟨rfl, rfl⟩; clear TA)
      | (go_at_call 18; (with_reducible refine (TV.out _).mono ?_); rintro e w' ⟨rfl, rfl⟩; clear TV)
      | (go_at_call 21; (with_reducible refine (LM.out _).mono ?_); rintro e w' ⟨rfl, rfl⟩; clear LM))
    refine bodyPost_ret (v := .tuple #[.agg #[.int .i64 0, .int .i64 0, .int .i64 0], .int .i64 1]) (by simp [results, Try.results12, go_sem, r_0, r_1, r_2, r_l]) rfl ⟨rfl, ?_⟩
    exact (((BB.out.setCell (p := ⟨w.heap.size + 1, 0, none⟩) (by show w.heap.size ≤ w.heap.size + 1; omega) _).setCell (p := ⟨w.heap.size + 1, 1, none⟩) (by show w.heap.size ≤ w.heap.size + 1; omega) _).setCell (p := ⟨w.heap.size + 1, 2, none⟩) (by show w.heap.size ≤ w.heap.size + 1; omega) _)
  have LM := Lib.hid (glimit_any m true (dec_yes q4) im)
  by_cases q5 : 1 ≤ h ∧ h ≤ 1000000000000
  rotate_left
  · have HZ := Lib.hid (ghorizon_any h false (dec_no q5) ih)
    clear hno q1 q2 q3 q4 q5 ip is ir ia iv im ih
    unfold clV at VB
    obtain ⟨W, hW⟩ : ∃ W, (((w.alloc (.cells #[.int .i64 p, .int .i64 s, .int .i64 r] 23)).alloc (.cells #[.int .i64 0, .int .i64 0, .int .i64 0] 23)).alloc (.cells #[.int .i64 p, .int .i64 s, .int .i64 r] 44)) = W := ⟨_, rfl⟩
    have O : Hid (Three W (w.heap.size) 23 (.int .i64 p) (.int .i64 s) (.int .i64 r)) := by
      rw [← hW]
      have k := Three.new w 23 (.int .i64 p) (.int .i64 s) (.int .i64 r)
      exact ((k).alloc _).alloc _
    have R : Hid (Three W (w.heap.size + 1) 23 (.int .i64 0) (.int .i64 0) (.int .i64 0)) := by
      rw [← hW]
      have k := Three.new (w.alloc (.cells #[.int .i64 p, .int .i64 s, .int .i64 r] 23)) 23 (.int .i64 0) (.int .i64 0) (.int .i64 0)
      rw [show (w.alloc (.cells #[.int .i64 p, .int .i64 s, .int .i64 r] 23)).heap.size = w.heap.size + 1 by simp] at k
      exact (k).alloc _
    have C : Hid (Three W (w.heap.size + 1 + 1) 44 (.int .i64 p) (.int .i64 s) (.int .i64 r)) := by
      rw [← hW]
      have k := Three.new ((w.alloc (.cells #[.int .i64 p, .int .i64 s, .int .i64 r] 23)).alloc (.cells #[.int .i64 0, .int .i64 0, .int .i64 0] 23)) 44 (.int .i64 p) (.int .i64 s) (.int .i64 r)
      rw [show ((w.alloc (.cells #[.int .i64 p, .int .i64 s, .int .i64 r] 23)).alloc (.cells #[.int .i64 0, .int .i64 0, .int .i64 0] 23)).heap.size = w.heap.size + 1 + 1 by simp] at k
      exact k
    have BB : Hid (Below w.heap.size w W) := by rw [← hW]; exact ((below_alloc w _).alloc (by simp) _).alloc (by simp; omega) _
    have o_0 := O.out.c0
    have o_1 := O.out.c1
    have o_2 := O.out.c2
    have o_l := O.out.lt
    have r_0 := R.out.c0
    have r_1 := R.out.c1
    have r_2 := R.out.c2
    have r_l := R.out.lt
    have r_f0 := R.out.free 0
    have r_f1 := R.out.free 1
    have r_f2 := R.out.free 2
    have c_0 := C.out.c0
    have c_1 := C.out.c1
    have c_2 := C.out.c2
    have c_l := C.out.lt
    go_enter Try.func12, Try.ntmps12
    go_wp2_with (first
      | (go_at_call 17; (with_reducible refine (VB.out _).mono ?_); rintro e w1 ⟨rfl, b1⟩; replace O := Lib.hid (O.out.below b1 O.out.lt); replace R := Lib.hid (R.out.below b1 R.out.lt); replace C := Lib.hid (C.out.below b1 C.out.lt); replace BB := Lib.hid (below_more BB.out b1); replace o_0 := O.out.c0; replace o_1 := O.out.c1; replace o_2 := O.out.c2; replace o_l := O.out.lt; replace r_0 := R.out.c0; replace r_1 := R.out.c1; replace r_2 := R.out.c2; replace r_l := R.out.lt; replace r_f0 := R.out.free 0; replace r_f1 := R.out.free 1; replace r_f2 := R.out.free 2; replace c_0 := C.out.c0; replace c_1 := C.out.c1; replace c_2 := C.out.c2; replace c_l := C.out.lt; clear b1 VB)
      | (go_at_call 18; (with_reducible refine (TA.out _).mono ?_); rintro e w' ⟨rfl, rfl⟩; clear TA)
      | (go_at_call 18; (with_reducible refine (TV.out _).mono ?_); rintro e w' ⟨rfl, rfl⟩; clear TV)
      | (go_at_call 21; (with_reducible refine (LM.out _).mono ?_); rintro e w' ⟨rfl, rfl⟩; clear LM)
      | (go_at_call 22; (with_reducible refine (HZ.out _).mono ?_); rintro e w' ⟨rfl, rfl⟩; clear HZ))
    refine bodyPost_ret (v := .tuple #[.agg #[.int .i64 0, .int .i64 0, .int .i64 0], .int .i64 1]) (by simp [results, Try.results12, go_sem, r_0, r_1, r_2, r_l]) rfl ⟨rfl, ?_⟩
    exact (((BB.out.setCell (p := ⟨w.heap.size + 1, 0, none⟩) (by show w.heap.size ≤ w.heap.size + 1; omega) _).setCell (p := ⟨w.heap.size + 1, 1, none⟩) (by show w.heap.size ≤ w.heap.size + 1; omega) _).setCell (p := ⟨w.heap.size + 1, 2, none⟩) (by show w.heap.size ≤ w.heap.size + 1; omega) _)
  have HZ := Lib.hid (ghorizon_any h true (dec_yes q5) ih)
  exact absurd ⟨q1, q2, q3, q4.1, q4.2, q5.1, q5.2⟩ hno
set_option maxHeartbeats 4000000 in
theorem gsteer_good (p s r a v m h : Int) (ip : I64 p) (is : I64 s) (ir : I64 r) (ia : I64 a) (iv : I64 v) (im : I64 m) (ih : I64 h) (hy : StOk p s r a v m h) (w : World) :
    Calls Try.prog 12 #[clV p s r, .int .i64 a, .int .i64 v, .int .i64 m, .int .i64 h] w (Gives (.tuple #[clV (steerR p s r a v m h).1 (steerR p s r a v m h).2.1 (steerR p s r a v m h).2.2.1, .int .i64 (steerR p s r a v m h).2.2.2]) w) := by
  obtain ⟨q1, q2, q3, m1, m2, h1, h2⟩ := id hy
  have VB := Lib.hid (gvalid_any p s r true (dec_yes q1) ip is ir)
  have TA := Lib.hid (gtime_any a true (dec_yes q2) ia)
  have TV := Lib.hid (gtime_any v true (dec_yes q3) iv)
  have LM := Lib.hid (glimit_any m true (dec_yes ⟨m1, m2⟩) im)
  have HZ := Lib.hid (ghorizon_any h true (dec_yes ⟨h1, h2⟩) ih)
  have SH := Lib.hid (gshown_any p s r a q1 q2)
  obtain ⟨⟨u, er⟩, hs⟩ : ∃ q, showR p s r a = q := ⟨_, rfl⟩
  have E : steerR p s r a v m h = if er = 0 then (a, u, speedR (v - u) m h, 0) else (0, 0, 0, er) := by unfold steerR; rw [if_pos hy, hs]
  rw [hs] at SH
  unfold clV at VB SH ⊢
  by_cases c : er = 0
  · rw [E, if_pos c]
    subst c
    obtain ⟨-, -, -, -, ⟨u1, u2⟩, -⟩ := show_ok hs
    obtain ⟨v1, v2⟩ := q3
    obtain ⟨d, hd⟩ : ∃ d, v - u = d := ⟨_, rfl⟩
    have RF := Lib.hid (grate_any d h (by omega) (by omega) h1 h2)
    have ri := cut_rate (d := d) h1 m1 m2
    have rb : I64 (rateR d h) := by
      unfold rateR
      have n1 := nearD_up (m := min (-d) h) (h := h) (by omega) (by omega)
      have n2 := nearD_up (m := min d h) (h := h) (by omega) (by omega)
      by_cases k : d < 0
      · have n3 := nearD_nonneg (m := min (-d) h) (h := h) (by omega) (by omega)
        rw [if_pos k]; exact ⟨by omega, by omega⟩
      · have n3 := nearD_nonneg (m := min d h) (h := h) (by omega) (by omega)
        rw [if_neg k]; exact ⟨by omega, by omega⟩
    have CU := Lib.hid (gcut_any (rateR d h) m rb m1 m2)
    rw [ri] at CU
    rw [hd]
    generalize rateR d h = rr at RF CU
    generalize speedR d m h = z at CU ⊢
    clear ri rb E hs hy q1 q2 ip is ir ia iv im ih m1 m2 h1 h2
    obtain ⟨W, hW⟩ : ∃ W, (((w.alloc (.cells #[.int .i64 p, .int .i64 s, .int .i64 r] 23)).alloc (.cells #[.int .i64 0, .int .i64 0, .int .i64 0] 23)).alloc (.cells #[.int .i64 p, .int .i64 s, .int .i64 r] 44)) = W := ⟨_, rfl⟩
    have O : Hid (Three W (w.heap.size) 23 (.int .i64 p) (.int .i64 s) (.int .i64 r)) := by
      rw [← hW]
      have k := Three.new w 23 (.int .i64 p) (.int .i64 s) (.int .i64 r)
      exact ((k).alloc _).alloc _
    have R : Hid (Three W (w.heap.size + 1) 23 (.int .i64 0) (.int .i64 0) (.int .i64 0)) := by
      rw [← hW]
      have k := Three.new (w.alloc (.cells #[.int .i64 p, .int .i64 s, .int .i64 r] 23)) 23 (.int .i64 0) (.int .i64 0) (.int .i64 0)
      rw [show (w.alloc (.cells #[.int .i64 p, .int .i64 s, .int .i64 r] 23)).heap.size = w.heap.size + 1 by simp] at k
      exact (k).alloc _
    have C : Hid (Three W (w.heap.size + 1 + 1) 44 (.int .i64 p) (.int .i64 s) (.int .i64 r)) := by
      rw [← hW]
      have k := Three.new ((w.alloc (.cells #[.int .i64 p, .int .i64 s, .int .i64 r] 23)).alloc (.cells #[.int .i64 0, .int .i64 0, .int .i64 0] 23)) 44 (.int .i64 p) (.int .i64 s) (.int .i64 r)
      rw [show ((w.alloc (.cells #[.int .i64 p, .int .i64 s, .int .i64 r] 23)).alloc (.cells #[.int .i64 0, .int .i64 0, .int .i64 0] 23)).heap.size = w.heap.size + 1 + 1 by simp] at k
      exact k
    have BB : Hid (Below w.heap.size w W) := by rw [← hW]; exact ((below_alloc w _).alloc (by simp) _).alloc (by simp; omega) _
    have o_0 := O.out.c0
    have o_1 := O.out.c1
    have o_2 := O.out.c2
    have o_l := O.out.lt
    have r_0 := R.out.c0
    have r_1 := R.out.c1
    have r_2 := R.out.c2
    have r_l := R.out.lt
    have r_f0 := R.out.free 0
    have r_f1 := R.out.free 1
    have r_f2 := R.out.free 2
    have c_0 := C.out.c0
    have c_1 := C.out.c1
    have c_2 := C.out.c2
    have c_l := C.out.lt
    go_enter Try.func12, Try.ntmps12
    go_wp2_with (first
      | (go_at_call 17; (with_reducible refine (VB.out _).mono ?_); rintro e w1 ⟨rfl, b1⟩; replace O := Lib.hid (O.out.below b1 O.out.lt); replace R := Lib.hid (R.out.below b1 R.out.lt); replace C := Lib.hid (C.out.below b1 C.out.lt); replace BB := Lib.hid (below_more BB.out b1); replace o_0 := O.out.c0; replace o_1 := O.out.c1; replace o_2 := O.out.c2; replace o_l := O.out.lt; replace r_0 := R.out.c0; replace r_1 := R.out.c1; replace r_2 := R.out.c2; replace r_l := R.out.lt; replace r_f0 := R.out.free 0; replace r_f1 := R.out.free 1; replace r_f2 := R.out.free 2; replace c_0 := C.out.c0; replace c_1 := C.out.c1; replace c_2 := C.out.c2; replace c_l := C.out.lt; clear b1 VB)
      | (go_at_call 18; (with_reducible refine (TA.out _).mono ?_); rintro e w' ⟨rfl, rfl⟩; clear TA)
      | (go_at_call 18; (with_reducible refine (TV.out _).mono ?_); rintro e w' ⟨rfl, rfl⟩; clear TV)
      | (go_at_call 21; (with_reducible refine (LM.out _).mono ?_); rintro e w' ⟨rfl, rfl⟩; clear LM)
      | (go_at_call 22; (with_reducible refine (HZ.out _).mono ?_); rintro e w' ⟨rfl, rfl⟩; clear HZ)
      | (go_at_call 19; (with_reducible refine (SH.out _).mono ?_); rintro e w2 ⟨rfl, b2⟩; replace O := Lib.hid (O.out.below b2 O.out.lt); replace R := Lib.hid (R.out.below b2 R.out.lt); replace C := Lib.hid (C.out.below b2 C.out.lt); replace BB := Lib.hid (below_more BB.out b2); replace o_0 := O.out.c0; replace o_1 := O.out.c1; replace o_2 := O.out.c2; replace o_l := O.out.lt; replace r_0 := R.out.c0; replace r_1 := R.out.c1; replace r_2 := R.out.c2; replace r_l := R.out.lt; replace r_f0 := R.out.free 0; replace r_f1 := R.out.free 1; replace r_f2 := R.out.free 2; replace c_0 := C.out.c0; replace c_1 := C.out.c1; replace c_2 := C.out.c2; replace c_l := C.out.lt; clear b2 SH)
      | (go_at_call 24; (with_reducible refine (RF.out _).mono ?_); rintro e w3 ⟨rfl, b3⟩; replace O := Lib.hid (O.out.below b3 O.out.lt); replace R := Lib.hid (R.out.below b3 R.out.lt); replace C := Lib.hid (C.out.below b3 C.out.lt); replace BB := Lib.hid (below_more BB.out b3); replace o_0 := O.out.c0; replace o_1 := O.out.c1; replace o_2 := O.out.c2; replace o_l := O.out.lt; replace r_0 := R.out.c0; replace r_1 := R.out.c1; replace r_2 := R.out.c2; replace r_l := R.out.lt; replace r_f0 := R.out.free 0; replace r_f1 := R.out.free 1; replace r_f2 := R.out.free 2; replace c_0 := C.out.c0; replace c_1 := C.out.c1; replace c_2 := C.out.c2; replace c_l := C.out.lt; clear b3 RF)
      | (go_at_call 23; (with_reducible refine (CU.out _).mono ?_); rintro e w' ⟨rfl, rfl⟩; clear CU))
    refine bodyPost_ret (v := .tuple #[.agg #[.int .i64 a, .int .i64 u, .int .i64 z], .int .i64 0]) (by simp [results, Try.results12, go_sem, r_0, r_1, r_2, r_l]) rfl ⟨rfl, ?_⟩
    exact (((BB.out.setCell (p := ⟨w.heap.size + 1, 0, none⟩) (by show w.heap.size ≤ w.heap.size + 1; omega) _).setCell (p := ⟨w.heap.size + 1, 1, none⟩) (by show w.heap.size ≤ w.heap.size + 1; omega) _).setCell (p := ⟨w.heap.size + 1, 2, none⟩) (by show w.heap.size ≤ w.heap.size + 1; omega) _)
  · rw [E, if_neg c]
    have e1 : (er != 0) = true := by simpa using c
    clear c E hs hy q1 q2 q3 ip is ir ia iv im ih m1 m2 h1 h2
    obtain ⟨W, hW⟩ : ∃ W, (((w.alloc (.cells #[.int .i64 p, .int .i64 s, .int .i64 r] 23)).alloc (.cells #[.int .i64 0, .int .i64 0, .int .i64 0] 23)).alloc (.cells #[.int .i64 p, .int .i64 s, .int .i64 r] 44)) = W := ⟨_, rfl⟩
    have O : Hid (Three W (w.heap.size) 23 (.int .i64 p) (.int .i64 s) (.int .i64 r)) := by
      rw [← hW]
      have k := Three.new w 23 (.int .i64 p) (.int .i64 s) (.int .i64 r)
      exact ((k).alloc _).alloc _
    have R : Hid (Three W (w.heap.size + 1) 23 (.int .i64 0) (.int .i64 0) (.int .i64 0)) := by
      rw [← hW]
      have k := Three.new (w.alloc (.cells #[.int .i64 p, .int .i64 s, .int .i64 r] 23)) 23 (.int .i64 0) (.int .i64 0) (.int .i64 0)
      rw [show (w.alloc (.cells #[.int .i64 p, .int .i64 s, .int .i64 r] 23)).heap.size = w.heap.size + 1 by simp] at k
      exact (k).alloc _
    have C : Hid (Three W (w.heap.size + 1 + 1) 44 (.int .i64 p) (.int .i64 s) (.int .i64 r)) := by
      rw [← hW]
      have k := Three.new ((w.alloc (.cells #[.int .i64 p, .int .i64 s, .int .i64 r] 23)).alloc (.cells #[.int .i64 0, .int .i64 0, .int .i64 0] 23)) 44 (.int .i64 p) (.int .i64 s) (.int .i64 r)
      rw [show ((w.alloc (.cells #[.int .i64 p, .int .i64 s, .int .i64 r] 23)).alloc (.cells #[.int .i64 0, .int .i64 0, .int .i64 0] 23)).heap.size = w.heap.size + 1 + 1 by simp] at k
      exact k
    have BB : Hid (Below w.heap.size w W) := by rw [← hW]; exact ((below_alloc w _).alloc (by simp) _).alloc (by simp; omega) _
    have o_0 := O.out.c0
    have o_1 := O.out.c1
    have o_2 := O.out.c2
    have o_l := O.out.lt
    have r_0 := R.out.c0
    have r_1 := R.out.c1
    have r_2 := R.out.c2
    have r_l := R.out.lt
    have r_f0 := R.out.free 0
    have r_f1 := R.out.free 1
    have r_f2 := R.out.free 2
    have c_0 := C.out.c0
    have c_1 := C.out.c1
    have c_2 := C.out.c2
    have c_l := C.out.lt
    go_enter Try.func12, Try.ntmps12
    go_wp2_with (first
      | (go_at_call 17; (with_reducible refine (VB.out _).mono ?_); rintro e w1 ⟨rfl, b1⟩; replace O := Lib.hid (O.out.below b1 O.out.lt); replace R := Lib.hid (R.out.below b1 R.out.lt); replace C := Lib.hid (C.out.below b1 C.out.lt); replace BB := Lib.hid (below_more BB.out b1); replace o_0 := O.out.c0; replace o_1 := O.out.c1; replace o_2 := O.out.c2; replace o_l := O.out.lt; replace r_0 := R.out.c0; replace r_1 := R.out.c1; replace r_2 := R.out.c2; replace r_l := R.out.lt; replace r_f0 := R.out.free 0; replace r_f1 := R.out.free 1; replace r_f2 := R.out.free 2; replace c_0 := C.out.c0; replace c_1 := C.out.c1; replace c_2 := C.out.c2; replace c_l := C.out.lt; clear b1 VB)
      | (go_at_call 18; (with_reducible refine (TA.out _).mono ?_); rintro e w' ⟨rfl, rfl⟩; clear TA)
      | (go_at_call 18; (with_reducible refine (TV.out _).mono ?_); rintro e w' ⟨rfl, rfl⟩; clear TV)
      | (go_at_call 21; (with_reducible refine (LM.out _).mono ?_); rintro e w' ⟨rfl, rfl⟩; clear LM)
      | (go_at_call 22; (with_reducible refine (HZ.out _).mono ?_); rintro e w' ⟨rfl, rfl⟩; clear HZ)
      | (go_at_call 19; (with_reducible refine (SH.out _).mono ?_); rintro e w2 ⟨rfl, b2⟩; replace O := Lib.hid (O.out.below b2 O.out.lt); replace R := Lib.hid (R.out.below b2 R.out.lt); replace C := Lib.hid (C.out.below b2 C.out.lt); replace BB := Lib.hid (below_more BB.out b2); replace o_0 := O.out.c0; replace o_1 := O.out.c1; replace o_2 := O.out.c2; replace o_l := O.out.lt; replace r_0 := R.out.c0; replace r_1 := R.out.c1; replace r_2 := R.out.c2; replace r_l := R.out.lt; replace r_f0 := R.out.free 0; replace r_f1 := R.out.free 1; replace r_f2 := R.out.free 2; replace c_0 := C.out.c0; replace c_1 := C.out.c1; replace c_2 := C.out.c2; replace c_l := C.out.lt; clear b2 SH))
    refine bodyPost_ret (v := .tuple #[.agg #[.int .i64 0, .int .i64 0, .int .i64 0], .int .i64 er]) (by simp [results, Try.results12, go_sem, r_0, r_1, r_2, r_l]) rfl ⟨rfl, ?_⟩
    exact (((BB.out.setCell (p := ⟨w.heap.size + 1, 0, none⟩) (by show w.heap.size ≤ w.heap.size + 1; omega) _).setCell (p := ⟨w.heap.size + 1, 1, none⟩) (by show w.heap.size ≤ w.heap.size + 1; omega) _).setCell (p := ⟨w.heap.size + 1, 2, none⟩) (by show w.heap.size ≤ w.heap.size + 1; omega) _)
theorem gsteer_any (p s r a v m h : Int) (ip : I64 p) (is : I64 s) (ir : I64 r) (ia : I64 a) (iv : I64 v) (im : I64 m) (ih : I64 h) (w : World) :
    Calls Try.prog 12 #[clV p s r, .int .i64 a, .int .i64 v, .int .i64 m, .int .i64 h] w (Gives (.tuple #[clV (steerR p s r a v m h).1 (steerR p s r a v m h).2.1 (steerR p s r a v m h).2.2.1, .int .i64 (steerR p s r a v m h).2.2.2]) w) := by
  by_cases c : StOk p s r a v m h
  · exact gsteer_good p s r a v m h ip is ir ia iv im ih c w
  · have := gsteer_bad p s r a v m h ip is ir ia iv im ih c w
    rw [show steerR p s r a v m h = (0, 0, 0, 1) from if_neg c]
    exact this
set_option maxHeartbeats 4000000 in
theorem gleft_any (p s r a v m h : Int) (ip : I64 p) (is : I64 s) (ir : I64 r) (ia : I64 a) (iv : I64 v) (im : I64 m) (ih : I64 h) (w : World) :
    Calls Try.prog 13 #[clV p s r, .int .i64 a, .int .i64 v, .int .i64 m, .int .i64 h] w (Gives (.tuple #[.int .i64 (leftR p s r a v m h).1, .int .i64 (leftR p s r a v m h).2]) w) := by
  have SR := Lib.hid (gsteer_any p s r a v m h ip is ir ia iv im ih)
  obtain ⟨⟨x, y, z, er⟩, hs⟩ : ∃ q, steerR p s r a v m h = q := ⟨_, rfl⟩
  have E : leftR p s r a v m h = if er = 0 then (if a + h ≤ 3000000000000000 ∧ v + h ≤ 3000000000000000 then (if (showR a y z (a + h)).2 = 0 then (v + h - (showR a y z (a + h)).1, 0) else (0, (showR a y z (a + h)).2)) else (0, 3)) else (0, er) := by unfold leftR; rw [hs]
  rw [hs] at SR
  dsimp only at SR
  unfold clV at SR ⊢
  by_cases c : er = 0
  · rw [if_pos c] at E
    subst c
    obtain ⟨⟨q1, ⟨a1, a2⟩, ⟨v1, v2⟩, m1, m2, h1, h2⟩, rfl, hsh, hz, hcl, _, _⟩ := steer_ok hs
    obtain ⟨f, hf⟩ : ∃ f, x + h = f := ⟨_, rfl⟩
    obtain ⟨g, hg⟩ : ∃ g, v + h = g := ⟨_, rfl⟩
    rw [hf, hg] at E
    by_cases c1 : f ≤ 3000000000000000
    · have TE := Lib.hid (gtime_any f true (dec_yes ⟨by omega, c1⟩) ⟨by omega, by omega⟩)
      by_cases c2 : g ≤ 3000000000000000
      · have TG := Lib.hid (gtime_any g true (dec_yes ⟨by omega, c2⟩) ⟨by omega, by omega⟩)
        rw [if_pos ⟨c1, c2⟩] at E
        have SH := Lib.hid (gshown_any x y z f hcl ⟨by omega, c1⟩)
        obtain ⟨⟨u, er⟩, hu⟩ : ∃ q, showR x y z f = q := ⟨_, rfl⟩
        rw [hu] at SH E
        unfold clV at SH
        dsimp only at SH E
        by_cases c3 : er = 0
        · rw [if_pos c3] at E
          subst c3
          obtain ⟨-, -, -, -, ⟨u1, u2⟩, -⟩ := show_ok hu
          obtain ⟨res, hres⟩ : ∃ res, g - u = res := ⟨_, rfl⟩
          rw [E, hres]
          clear E hs hsh hz hcl q1 hu ip is ir iv im ih
          obtain ⟨W, hW⟩ : ∃ W, (w.alloc (.cells #[.int .i64 p, .int .i64 s, .int .i64 r] 23)) = W := ⟨_, rfl⟩
          have O : Hid (Three W (w.heap.size) 23 (.int .i64 p) (.int .i64 s) (.int .i64 r)) := by
            rw [← hW]
            have k := Three.new w 23 (.int .i64 p) (.int .i64 s) (.int .i64 r)
            exact k
          have BB : Hid (Below w.heap.size w W) := by rw [← hW]; exact below_alloc w _
          have o_0 := O.out.c0
          have o_1 := O.out.c1
          have o_2 := O.out.c2
          have o_l := O.out.lt
          go_enter Try.func13, Try.ntmps13
          go_wp2_with (first
            | (go_at_call 12; (with_reducible refine (SR.out _).mono ?_); rintro e w1 ⟨rfl, b1⟩; replace O := Lib.hid ((O.out.below b1 O.out.lt).alloc (.cells #[.int .i64 x, .int .i64 y, .int .i64 z] 23)); have T := Lib.hid (Three.new w1 23 (.int .i64 x) (.int .i64 y) (.int .i64 z)); replace BB := Lib.hid (below_more BB.out b1); have Gt := Lib.hid BB.out.size; replace BB := Lib.hid (BB.out.alloc BB.out.size (.cells #[.int .i64 x, .int .i64 y, .int .i64 z] 23)); replace o_0 := O.out.c0; replace o_1 := O.out.c1; replace o_2 := O.out.c2; replace o_l := O.out.lt; replace t_0 := T.out.c0; replace t_1 := T.out.c1; replace t_2 := T.out.c2; replace t_l := T.out.lt; clear b1 SR)
            | (go_at_call 18; (with_reducible refine (TE.out _).mono ?_); rintro e w' ⟨rfl, rfl⟩; clear TE)
            | (go_at_call 18; (with_reducible refine (TG.out _).mono ?_); rintro e w' ⟨rfl, rfl⟩; clear TG)
            | (go_at_call 19; (with_reducible refine (SH.out _).mono ?_); rintro e w2 ⟨rfl, b2⟩; replace O := Lib.hid (O.out.below b2 O.out.lt); replace T := Lib.hid (T.out.below b2 T.out.lt); replace BB := Lib.hid (below_more BB.out b2); replace o_0 := O.out.c0; replace o_1 := O.out.c1; replace o_2 := O.out.c2; replace o_l := O.out.lt; replace t_0 := T.out.c0; replace t_1 := T.out.c1; replace t_2 := T.out.c2; replace t_l := T.out.lt; clear b2 SH))
          go_ret2
          exact ⟨rfl, BB.out⟩
        · rw [if_neg c3] at E
          have e1 : (er != 0) = true := by simpa using c3
          rw [E]
          clear c3 E hs hsh hz hcl q1 hu ip is ir iv im ih
          obtain ⟨W, hW⟩ : ∃ W, (w.alloc (.cells #[.int .i64 p, .int .i64 s, .int .i64 r] 23)) = W := ⟨_, rfl⟩
          have O : Hid (Three W (w.heap.size) 23 (.int .i64 p) (.int .i64 s) (.int .i64 r)) := by
            rw [← hW]
            have k := Three.new w 23 (.int .i64 p) (.int .i64 s) (.int .i64 r)
            exact k
          have BB : Hid (Below w.heap.size w W) := by rw [← hW]; exact below_alloc w _
          have o_0 := O.out.c0
          have o_1 := O.out.c1
          have o_2 := O.out.c2
          have o_l := O.out.lt
          go_enter Try.func13, Try.ntmps13
          go_wp2_with (first
            | (go_at_call 12; (with_reducible refine (SR.out _).mono ?_); rintro e w1 ⟨rfl, b1⟩; replace O := Lib.hid ((O.out.below b1 O.out.lt).alloc (.cells #[.int .i64 x, .int .i64 y, .int .i64 z] 23)); have T := Lib.hid (Three.new w1 23 (.int .i64 x) (.int .i64 y) (.int .i64 z)); replace BB := Lib.hid (below_more BB.out b1); have Gt := Lib.hid BB.out.size; replace BB := Lib.hid (BB.out.alloc BB.out.size (.cells #[.int .i64 x, .int .i64 y, .int .i64 z] 23)); replace o_0 := O.out.c0; replace o_1 := O.out.c1; replace o_2 := O.out.c2; replace o_l := O.out.lt; replace t_0 := T.out.c0; replace t_1 := T.out.c1; replace t_2 := T.out.c2; replace t_l := T.out.lt; clear b1 SR)
            | (go_at_call 18; (with_reducible refine (TE.out _).mono ?_); rintro e w' ⟨rfl, rfl⟩; clear TE)
            | (go_at_call 18; (with_reducible refine (TG.out _).mono ?_); rintro e w' ⟨rfl, rfl⟩; clear TG)
            | (go_at_call 19; (with_reducible refine (SH.out _).mono ?_); rintro e w2 ⟨rfl, b2⟩; replace O := Lib.hid (O.out.below b2 O.out.lt); replace T := Lib.hid (T.out.below b2 T.out.lt); replace BB := Lib.hid (below_more BB.out b2); replace o_0 := O.out.c0; replace o_1 := O.out.c1; replace o_2 := O.out.c2; replace o_l := O.out.lt; replace t_0 := T.out.c0; replace t_1 := T.out.c1; replace t_2 := T.out.c2; replace t_l := T.out.lt; clear b2 SH))
          go_ret2
          exact ⟨rfl, BB.out⟩
      · have TG := Lib.hid (gtime_any g false (dec_no (fun k => c2 k.2)) ⟨by omega, by omega⟩)
        rw [if_neg (fun k => c2 k.2)] at E
        rw [E]
        clear E hs hsh hz hcl q1 ip is ir iv im ih
        obtain ⟨W, hW⟩ : ∃ W, (w.alloc (.cells #[.int .i64 p, .int .i64 s, .int .i64 r] 23)) = W := ⟨_, rfl⟩
        have O : Hid (Three W (w.heap.size) 23 (.int .i64 p) (.int .i64 s) (.int .i64 r)) := by
          rw [← hW]
          have k := Three.new w 23 (.int .i64 p) (.int .i64 s) (.int .i64 r)
          exact k
        have BB : Hid (Below w.heap.size w W) := by rw [← hW]; exact below_alloc w _
        have o_0 := O.out.c0
        have o_1 := O.out.c1
        have o_2 := O.out.c2
        have o_l := O.out.lt
        go_enter Try.func13, Try.ntmps13
        go_wp2_with (first
          | (go_at_call 12; (with_reducible refine (SR.out _).mono ?_); rintro e w1 ⟨rfl, b1⟩; replace O := Lib.hid ((O.out.below b1 O.out.lt).alloc (.cells #[.int .i64 x, .int .i64 y, .int .i64 z] 23)); have T := Lib.hid (Three.new w1 23 (.int .i64 x) (.int .i64 y) (.int .i64 z)); replace BB := Lib.hid (below_more BB.out b1); have Gt := Lib.hid BB.out.size; replace BB := Lib.hid (BB.out.alloc BB.out.size (.cells #[.int .i64 x, .int .i64 y, .int .i64 z] 23)); replace o_0 := O.out.c0; replace o_1 := O.out.c1; replace o_2 := O.out.c2; replace o_l := O.out.lt; replace t_0 := T.out.c0; replace t_1 := T.out.c1; replace t_2 := T.out.c2; replace t_l := T.out.lt; clear b1 SR)
          | (go_at_call 18; (with_reducible refine (TE.out _).mono ?_); rintro e w' ⟨rfl, rfl⟩; clear TE)
          | (go_at_call 18; (with_reducible refine (TG.out _).mono ?_); rintro e w' ⟨rfl, rfl⟩; clear TG))
        go_ret2
        exact ⟨rfl, BB.out⟩
    · have TE := Lib.hid (gtime_any f false (dec_no (fun k => c1 k.2)) ⟨by omega, by omega⟩)
      rw [if_neg (fun k => c1 k.1)] at E
      rw [E]
      clear E hs hsh hz hcl q1 ip is ir iv im ih
      obtain ⟨W, hW⟩ : ∃ W, (w.alloc (.cells #[.int .i64 p, .int .i64 s, .int .i64 r] 23)) = W := ⟨_, rfl⟩
      have O : Hid (Three W (w.heap.size) 23 (.int .i64 p) (.int .i64 s) (.int .i64 r)) := by
        rw [← hW]
        have k := Three.new w 23 (.int .i64 p) (.int .i64 s) (.int .i64 r)
        exact k
      have BB : Hid (Below w.heap.size w W) := by rw [← hW]; exact below_alloc w _
      have o_0 := O.out.c0
      have o_1 := O.out.c1
      have o_2 := O.out.c2
      have o_l := O.out.lt
      go_enter Try.func13, Try.ntmps13
      go_wp2_with (first
        | (go_at_call 12; (with_reducible refine (SR.out _).mono ?_); rintro e w1 ⟨rfl, b1⟩; replace O := Lib.hid ((O.out.below b1 O.out.lt).alloc (.cells #[.int .i64 x, .int .i64 y, .int .i64 z] 23)); have T := Lib.hid (Three.new w1 23 (.int .i64 x) (.int .i64 y) (.int .i64 z)); replace BB := Lib.hid (below_more BB.out b1); have Gt := Lib.hid BB.out.size; replace BB := Lib.hid (BB.out.alloc BB.out.size (.cells #[.int .i64 x, .int .i64 y, .int .i64 z] 23)); replace o_0 := O.out.c0; replace o_1 := O.out.c1; replace o_2 := O.out.c2; replace o_l := O.out.lt; replace t_0 := T.out.c0; replace t_1 := T.out.c1; replace t_2 := T.out.c2; replace t_l := T.out.lt; clear b1 SR)
        | (go_at_call 18; (with_reducible refine (TE.out _).mono ?_); rintro e w' ⟨rfl, rfl⟩; clear TE))
      go_ret2
      exact ⟨rfl, BB.out⟩
  · rw [if_neg c] at E
    rw [E]
    have e1 : (er != 0) = true := by simpa using c
    clear c E hs ip is ir ia iv im ih
    obtain ⟨W, hW⟩ : ∃ W, (w.alloc (.cells #[.int .i64 p, .int .i64 s, .int .i64 r] 23)) = W := ⟨_, rfl⟩
    have O : Hid (Three W (w.heap.size) 23 (.int .i64 p) (.int .i64 s) (.int .i64 r)) := by
      rw [← hW]
      have k := Three.new w 23 (.int .i64 p) (.int .i64 s) (.int .i64 r)
      exact k
    have BB : Hid (Below w.heap.size w W) := by rw [← hW]; exact below_alloc w _
    have o_0 := O.out.c0
    have o_1 := O.out.c1
    have o_2 := O.out.c2
    have o_l := O.out.lt
    go_enter Try.func13, Try.ntmps13
    go_wp2_with (go_at_call 12; (with_reducible refine (SR.out _).mono ?_); rintro e w1 ⟨rfl, b1⟩; replace O := Lib.hid ((O.out.below b1 O.out.lt).alloc (.cells #[.int .i64 x, .int .i64 y, .int .i64 z] 23)); have T := Lib.hid (Three.new w1 23 (.int .i64 x) (.int .i64 y) (.int .i64 z)); replace BB := Lib.hid (below_more BB.out b1); have Gt := Lib.hid BB.out.size; replace BB := Lib.hid (BB.out.alloc BB.out.size (.cells #[.int .i64 x, .int .i64 y, .int .i64 z] 23)); replace o_0 := O.out.c0; replace o_1 := O.out.c1; replace o_2 := O.out.c2; replace o_l := O.out.lt; replace t_0 := T.out.c0; replace t_1 := T.out.c1; replace t_2 := T.out.c2; replace t_l := T.out.lt; clear b1 SR)
    go_ret2
    exact ⟨rfl, BB.out⟩
theorem slw : Slw where
  start := fun a s ia is w => gstart_any a s ia is w
  shows := fun p s r a ip is ir ia w => gshow_any p s r a ip is ir ia w
  steer := fun p s r a v m h ip is ir ia iv im ih w => gsteer_any p s r a v m h ip is ir ia iv im ih w
  left := fun p s r a v m h ip is ir ia iv im ih w => gleft_any p s r a v m h ip is ir ia iv im ih w
end Go.Proofs.Ytihfafmockaljaa
