/- Layer 8: package belief's Meet over the landed code, and the bundle (gen/gen_prog.py writes this). -/
import Derived.Test.YtpfcjffpomdhbaaGAt
namespace Go.Proofs.Ytpfcjffpomdhbaa
open Go.RowKit Go
set_option linter.unusedVariables false
set_option linter.unusedSimpArgs false

set_option maxHeartbeats 4000000 in
theorem gmt_any (p l h i0 j0 : Int) (hp : I64 p) (w : World) :
    Calls Try.prog 18 #[blV p l h, rgV i0 j0] w (Gives (.tuple #[blV (meetR p l h i0 j0).1 (meetR p l h i0 j0).2.1 (meetR p l h i0 j0).2.2.1, .bool (meetR p l h i0 j0).2.2.2.1, .int .i64 (meetR p l h i0 j0).2.2.2.2]) w) := by
  have E0 : Hid (meetR p l h i0 j0 = if BOk p l h ∧ IvOk i0 j0 then (if max l i0 ≤ min h j0 then (p, max l i0, min h j0, true, 0) else (p, l, h, false, 0)) else (0, 0, 0, false, 1)) := rfl
  have EI : Hid (ivMeetR l h i0 j0 = if IvOk l h ∧ IvOk i0 j0 then (if max l i0 ≤ min h j0 then (max l i0, min h j0, true, 0) else (0, 0, false, 0)) else (0, 0, false, 1)) := rfl
  have VB := Lib.hid (fun q hq => held_any p l h q hq hp)
  have VI := Lib.hid (fun q hq => gvalid_any i0 j0 q hq)
  have MT := Lib.hid (gmeet_any l h i0 j0)
  unfold blV at VB ⊢
  unfold rgV at VI MT ⊢
  generalize meetR p l h i0 j0 = Q at E0 ⊢
  by_cases q1 : BOk p l h
  · have VB := Lib.hid (VB.out true ⟨fun _ => q1, fun _ => rfl⟩)
    by_cases q2 : IvOk i0 j0
    · have VI := Lib.hid (VI.out true ⟨fun _ => q2, fun _ => rfl⟩)
      have E := Lib.hid (E0.out.trans (if_pos ⟨q1, q2⟩))
      have EI := Lib.hid (EI.out.trans (if_pos ⟨q1.2, q2⟩))
      by_cases c : max l i0 ≤ min h j0
      · have E := Lib.hid (E.out.trans (if_pos c))
        have MT := MT.out
        rw [EI.out.trans (if_pos c)] at MT
        have MT := Lib.hid MT
        obtain ⟨x, hx⟩ : ∃ x, max l i0 = x := ⟨_, rfl⟩
        obtain ⟨y, hy⟩ : ∃ y, min h j0 = y := ⟨_, rfl⟩
        rw [hx, hy] at E MT
        clear c E0 EI hx hy q1 q2
        obtain ⟨W, hW⟩ : ∃ W, ((((w.alloc (.cells #[.int .i64 p, .int .i64 l, .int .i64 h] 25)).alloc (.cells #[.int .i64 i0, .int .i64 j0] 23)).alloc (.cells #[.int .i64 0, .int .i64 0, .int .i64 0] 25)).alloc (.cells #[.int .i64 p, .int .i64 l, .int .i64 h] 58)) = W := ⟨_, rfl⟩
        have B : Hid (Three W (w.heap.size) 25 (.int .i64 p) (.int .i64 l) (.int .i64 h)) := by
          rw [← hW]
          have k := Three.new w 25 (.int .i64 p) (.int .i64 l) (.int .i64 h)
          exact (((k).alloc _).alloc _).alloc _
        have I : Hid (Two W (w.heap.size + 1) 23 (.int .i64 i0) (.int .i64 j0)) := by
          rw [← hW]
          have k := Two.new (w.alloc (.cells #[.int .i64 p, .int .i64 l, .int .i64 h] 25)) 23 (.int .i64 i0) (.int .i64 j0)
          rw [show (w.alloc (.cells #[.int .i64 p, .int .i64 l, .int .i64 h] 25)).heap.size = w.heap.size + 1 by simp] at k
          exact ((k).alloc _).alloc _
        have R : Hid (Three W (w.heap.size + 1 + 1) 25 (.int .i64 0) (.int .i64 0) (.int .i64 0)) := by
          rw [← hW]
          have k := Three.new ((w.alloc (.cells #[.int .i64 p, .int .i64 l, .int .i64 h] 25)).alloc (.cells #[.int .i64 i0, .int .i64 j0] 23)) 25 (.int .i64 0) (.int .i64 0) (.int .i64 0)
          rw [show ((w.alloc (.cells #[.int .i64 p, .int .i64 l, .int .i64 h] 25)).alloc (.cells #[.int .i64 i0, .int .i64 j0] 23)).heap.size = w.heap.size + 1 + 1 by simp] at k
          exact (k).alloc _
        have H : Hid (Three W (w.heap.size + 1 + 1 + 1) 58 (.int .i64 p) (.int .i64 l) (.int .i64 h)) := by
          rw [← hW]
          have k := Three.new (((w.alloc (.cells #[.int .i64 p, .int .i64 l, .int .i64 h] 25)).alloc (.cells #[.int .i64 i0, .int .i64 j0] 23)).alloc (.cells #[.int .i64 0, .int .i64 0, .int .i64 0] 25)) 58 (.int .i64 p) (.int .i64 l) (.int .i64 h)
          rw [show (((w.alloc (.cells #[.int .i64 p, .int .i64 l, .int .i64 h] 25)).alloc (.cells #[.int .i64 i0, .int .i64 j0] 23)).alloc (.cells #[.int .i64 0, .int .i64 0, .int .i64 0] 25)).heap.size = w.heap.size + 1 + 1 + 1 by simp] at k
          exact k
        have BB : Hid (Below w.heap.size w W) := by rw [← hW]; exact (((below_alloc w _).alloc (by simp) _).alloc (by simp; omega) _).alloc (by simp; omega) _
        have b_0 := B.out.c0
        have b_1 := B.out.c1
        have b_2 := B.out.c2
        have b_l := B.out.lt
        have i_0 := I.out.c0
        have i_1 := I.out.c1
        have i_l := I.out.lt
        have r_0 := R.out.c0
        have r_1 := R.out.c1
        have r_2 := R.out.c2
        have r_l := R.out.lt
        have r_f0 := R.out.free 0
        have r_f1 := R.out.free 1
        have r_f2 := R.out.free 2
        have h_0 := H.out.c0
        have h_1 := H.out.c1
        have h_2 := H.out.c2
        have h_l := H.out.lt
        go_enter Try.func18, Try.ntmps18
        go_wp2_with (first
          | (go_at_call 29; (with_reducible refine (VB.out _).mono ?_); rintro e w1 ⟨rfl, b1⟩; replace B := Lib.hid (B.out.below b1 B.out.lt); replace I := Lib.hid (I.out.below b1 I.out.lt); replace R := Lib.hid (R.out.below b1 R.out.lt); replace H := Lib.hid (H.out.below b1 H.out.lt); replace BB := Lib.hid (below_more BB.out b1); replace b_0 := B.out.c0; replace b_1 := B.out.c1; replace b_2 := B.out.c2; replace b_l := B.out.lt; replace i_0 := I.out.c0; replace i_1 := I.out.c1; replace i_l := I.out.lt; replace r_0 := R.out.c0; replace r_1 := R.out.c1; replace r_2 := R.out.c2; replace r_l := R.out.lt; replace r_f0 := R.out.free 0; replace r_f1 := R.out.free 1; replace r_f2 := R.out.free 2; replace h_0 := H.out.c0; replace h_1 := H.out.c1; replace h_2 := H.out.c2; replace h_l := H.out.lt; clear b1 VB)
          | (go_at_call 34; (with_reducible refine (VI.out _).mono ?_); rintro e w2 ⟨rfl, b2⟩; replace B := Lib.hid (B.out.below b2 B.out.lt); replace I := Lib.hid (I.out.below b2 I.out.lt); replace R := Lib.hid (R.out.below b2 R.out.lt); replace H := Lib.hid (H.out.below b2 H.out.lt); replace BB := Lib.hid (below_more BB.out b2); replace b_0 := B.out.c0; replace b_1 := B.out.c1; replace b_2 := B.out.c2; replace b_l := B.out.lt; replace i_0 := I.out.c0; replace i_1 := I.out.c1; replace i_l := I.out.lt; replace r_0 := R.out.c0; replace r_1 := R.out.c1; replace r_2 := R.out.c2; replace r_l := R.out.lt; replace r_f0 := R.out.free 0; replace r_f1 := R.out.free 1; replace r_f2 := R.out.free 2; replace h_0 := H.out.c0; replace h_1 := H.out.c1; replace h_2 := H.out.c2; replace h_l := H.out.lt; clear b2 VI)
          | (go_at_call 35; (with_reducible refine (MT.out _).mono ?_); rintro e w3 ⟨rfl, b3⟩; have NErm := Lib.hid (Nat.ne_of_lt (R.out.below b3 R.out.lt).lt); replace B := Lib.hid ((B.out.below b3 B.out.lt).alloc (.cells #[.int .i64 x, .int .i64 y] 23)); replace I := Lib.hid ((I.out.below b3 I.out.lt).alloc (.cells #[.int .i64 x, .int .i64 y] 23)); replace R := Lib.hid ((R.out.below b3 R.out.lt).alloc (.cells #[.int .i64 x, .int .i64 y] 23)); replace H := Lib.hid ((H.out.below b3 H.out.lt).alloc (.cells #[.int .i64 x, .int .i64 y] 23)); have M := Lib.hid (Two.new w3 23 (.int .i64 x) (.int .i64 y)); replace BB := Lib.hid (below_more BB.out b3); have Gm := Lib.hid BB.out.size; replace BB := Lib.hid (BB.out.alloc BB.out.size (.cells #[.int .i64 x, .int .i64 y] 23)); replace b_0 := B.out.c0; replace b_1 := B.out.c1; replace b_2 := B.out.c2; replace b_l := B.out.lt; replace i_0 := I.out.c0; replace i_1 := I.out.c1; replace i_l := I.out.lt; replace r_0 := R.out.c0; replace r_1 := R.out.c1; replace r_2 := R.out.c2; replace r_l := R.out.lt; replace r_f0 := R.out.free 0; replace r_f1 := R.out.free 1; replace r_f2 := R.out.free 2; replace h_0 := H.out.c0; replace h_1 := H.out.c1; replace h_2 := H.out.c2; replace h_l := H.out.lt; replace m_0 := M.out.c0; replace m_1 := M.out.c1; replace m_l := M.out.lt; clear b3 MT))
        refine bodyPost_ret (v := .tuple #[.agg #[.int .i64 p, .int .i64 x, .int .i64 y], .bool true, .int .i64 0]) (by simp [results, Try.results18, go_sem, r_0, r_1, r_2, r_l]) rfl ⟨by rw [E.out], ?_⟩
        exact (((BB.out.setCell (p := ⟨w.heap.size + 1 + 1, 0, none⟩) (by show w.heap.size ≤ w.heap.size + 1 + 1; omega) _).setCell (p := ⟨w.heap.size + 1 + 1, 1, none⟩) (by show w.heap.size ≤ w.heap.size + 1 + 1; omega) _).setCell (p := ⟨w.heap.size + 1 + 1, 2, none⟩) (by show w.heap.size ≤ w.heap.size + 1 + 1; omega) _)
      · have E := Lib.hid (E.out.trans (if_neg c))
        have MT := MT.out
        rw [EI.out.trans (if_neg c)] at MT
        obtain ⟨x, hx⟩ : ∃ x : Int, 0 = x := ⟨_, rfl⟩
        obtain ⟨y, hy⟩ : ∃ y : Int, 0 = y := ⟨_, rfl⟩
        have MT : Hid (∀ w, Calls Try.prog 35 #[.agg #[.int .i64 l, .int .i64 h], .agg #[.int .i64 i0, .int .i64 j0]] w (Gives (.tuple #[.agg #[.int .i64 x, .int .i64 y], .bool false, .int .i64 0]) w)) := by subst hx hy; exact MT
        clear c E0 EI hx hy q1 q2
        obtain ⟨W, hW⟩ : ∃ W, ((((w.alloc (.cells #[.int .i64 p, .int .i64 l, .int .i64 h] 25)).alloc (.cells #[.int .i64 i0, .int .i64 j0] 23)).alloc (.cells #[.int .i64 0, .int .i64 0, .int .i64 0] 25)).alloc (.cells #[.int .i64 p, .int .i64 l, .int .i64 h] 58)) = W := ⟨_, rfl⟩
        have B : Hid (Three W (w.heap.size) 25 (.int .i64 p) (.int .i64 l) (.int .i64 h)) := by
          rw [← hW]
          have k := Three.new w 25 (.int .i64 p) (.int .i64 l) (.int .i64 h)
          exact (((k).alloc _).alloc _).alloc _
        have I : Hid (Two W (w.heap.size + 1) 23 (.int .i64 i0) (.int .i64 j0)) := by
          rw [← hW]
          have k := Two.new (w.alloc (.cells #[.int .i64 p, .int .i64 l, .int .i64 h] 25)) 23 (.int .i64 i0) (.int .i64 j0)
          rw [show (w.alloc (.cells #[.int .i64 p, .int .i64 l, .int .i64 h] 25)).heap.size = w.heap.size + 1 by simp] at k
          exact ((k).alloc _).alloc _
        have R : Hid (Three W (w.heap.size + 1 + 1) 25 (.int .i64 0) (.int .i64 0) (.int .i64 0)) := by
          rw [← hW]
          have k := Three.new ((w.alloc (.cells #[.int .i64 p, .int .i64 l, .int .i64 h] 25)).alloc (.cells #[.int .i64 i0, .int .i64 j0] 23)) 25 (.int .i64 0) (.int .i64 0) (.int .i64 0)
          rw [show ((w.alloc (.cells #[.int .i64 p, .int .i64 l, .int .i64 h] 25)).alloc (.cells #[.int .i64 i0, .int .i64 j0] 23)).heap.size = w.heap.size + 1 + 1 by simp] at k
          exact (k).alloc _
        have H : Hid (Three W (w.heap.size + 1 + 1 + 1) 58 (.int .i64 p) (.int .i64 l) (.int .i64 h)) := by
          rw [← hW]
          have k := Three.new (((w.alloc (.cells #[.int .i64 p, .int .i64 l, .int .i64 h] 25)).alloc (.cells #[.int .i64 i0, .int .i64 j0] 23)).alloc (.cells #[.int .i64 0, .int .i64 0, .int .i64 0] 25)) 58 (.int .i64 p) (.int .i64 l) (.int .i64 h)
          rw [show (((w.alloc (.cells #[.int .i64 p, .int .i64 l, .int .i64 h] 25)).alloc (.cells #[.int .i64 i0, .int .i64 j0] 23)).alloc (.cells #[.int .i64 0, .int .i64 0, .int .i64 0] 25)).heap.size = w.heap.size + 1 + 1 + 1 by simp] at k
          exact k
        have BB : Hid (Below w.heap.size w W) := by rw [← hW]; exact (((below_alloc w _).alloc (by simp) _).alloc (by simp; omega) _).alloc (by simp; omega) _
        have b_0 := B.out.c0
        have b_1 := B.out.c1
        have b_2 := B.out.c2
        have b_l := B.out.lt
        have i_0 := I.out.c0
        have i_1 := I.out.c1
        have i_l := I.out.lt
        have r_0 := R.out.c0
        have r_1 := R.out.c1
        have r_2 := R.out.c2
        have r_l := R.out.lt
        have r_f0 := R.out.free 0
        have r_f1 := R.out.free 1
        have r_f2 := R.out.free 2
        have h_0 := H.out.c0
        have h_1 := H.out.c1
        have h_2 := H.out.c2
        have h_l := H.out.lt
        go_enter Try.func18, Try.ntmps18
        go_wp2_with (first
          | (go_at_call 29; (with_reducible refine (VB.out _).mono ?_); rintro e w1 ⟨rfl, b1⟩; replace B := Lib.hid (B.out.below b1 B.out.lt); replace I := Lib.hid (I.out.below b1 I.out.lt); replace R := Lib.hid (R.out.below b1 R.out.lt); replace H := Lib.hid (H.out.below b1 H.out.lt); replace BB := Lib.hid (below_more BB.out b1); replace b_0 := B.out.c0; replace b_1 := B.out.c1; replace b_2 := B.out.c2; replace b_l := B.out.lt; replace i_0 := I.out.c0; replace i_1 := I.out.c1; replace i_l := I.out.lt; replace r_0 := R.out.c0; replace r_1 := R.out.c1; replace r_2 := R.out.c2; replace r_l := R.out.lt; replace r_f0 := R.out.free 0; replace r_f1 := R.out.free 1; replace r_f2 := R.out.free 2; replace h_0 := H.out.c0; replace h_1 := H.out.c1; replace h_2 := H.out.c2; replace h_l := H.out.lt; clear b1 VB)
          | (go_at_call 34; (with_reducible refine (VI.out _).mono ?_); rintro e w2 ⟨rfl, b2⟩; replace B := Lib.hid (B.out.below b2 B.out.lt); replace I := Lib.hid (I.out.below b2 I.out.lt); replace R := Lib.hid (R.out.below b2 R.out.lt); replace H := Lib.hid (H.out.below b2 H.out.lt); replace BB := Lib.hid (below_more BB.out b2); replace b_0 := B.out.c0; replace b_1 := B.out.c1; replace b_2 := B.out.c2; replace b_l := B.out.lt; replace i_0 := I.out.c0; replace i_1 := I.out.c1; replace i_l := I.out.lt; replace r_0 := R.out.c0; replace r_1 := R.out.c1; replace r_2 := R.out.c2; replace r_l := R.out.lt; replace r_f0 := R.out.free 0; replace r_f1 := R.out.free 1; replace r_f2 := R.out.free 2; replace h_0 := H.out.c0; replace h_1 := H.out.c1; replace h_2 := H.out.c2; replace h_l := H.out.lt; clear b2 VI)
          | (go_at_call 35; (with_reducible refine (MT.out _).mono ?_); rintro e w3 ⟨rfl, b3⟩; have NErm := Lib.hid (Nat.ne_of_lt (R.out.below b3 R.out.lt).lt); replace B := Lib.hid ((B.out.below b3 B.out.lt).alloc (.cells #[.int .i64 x, .int .i64 y] 23)); replace I := Lib.hid ((I.out.below b3 I.out.lt).alloc (.cells #[.int .i64 x, .int .i64 y] 23)); replace R := Lib.hid ((R.out.below b3 R.out.lt).alloc (.cells #[.int .i64 x, .int .i64 y] 23)); replace H := Lib.hid ((H.out.below b3 H.out.lt).alloc (.cells #[.int .i64 x, .int .i64 y] 23)); have M := Lib.hid (Two.new w3 23 (.int .i64 x) (.int .i64 y)); replace BB := Lib.hid (below_more BB.out b3); have Gm := Lib.hid BB.out.size; replace BB := Lib.hid (BB.out.alloc BB.out.size (.cells #[.int .i64 x, .int .i64 y] 23)); replace b_0 := B.out.c0; replace b_1 := B.out.c1; replace b_2 := B.out.c2; replace b_l := B.out.lt; replace i_0 := I.out.c0; replace i_1 := I.out.c1; replace i_l := I.out.lt; replace r_0 := R.out.c0; replace r_1 := R.out.c1; replace r_2 := R.out.c2; replace r_l := R.out.lt; replace r_f0 := R.out.free 0; replace r_f1 := R.out.free 1; replace r_f2 := R.out.free 2; replace h_0 := H.out.c0; replace h_1 := H.out.c1; replace h_2 := H.out.c2; replace h_l := H.out.lt; replace m_0 := M.out.c0; replace m_1 := M.out.c1; replace m_l := M.out.lt; clear b3 MT))
        refine bodyPost_ret (v := .tuple #[.agg #[.int .i64 p, .int .i64 l, .int .i64 h], .bool false, .int .i64 0]) (by simp [results, Try.results18, go_sem, r_0, r_1, r_2, r_l]) rfl ⟨by rw [E.out], ?_⟩
        exact (((BB.out.setCell (p := ⟨w.heap.size + 1 + 1, 0, none⟩) (by show w.heap.size ≤ w.heap.size + 1 + 1; omega) _).setCell (p := ⟨w.heap.size + 1 + 1, 1, none⟩) (by show w.heap.size ≤ w.heap.size + 1 + 1; omega) _).setCell (p := ⟨w.heap.size + 1 + 1, 2, none⟩) (by show w.heap.size ≤ w.heap.size + 1 + 1; omega) _)
    · have VI := Lib.hid (VI.out false ⟨fun h => (by cases h), fun h => absurd h q2⟩)
      have E := Lib.hid (E0.out.trans (if_neg (fun x => q2 x.2)))
      clear E0 EI q1 q2 MT
      obtain ⟨W, hW⟩ : ∃ W, ((((w.alloc (.cells #[.int .i64 p, .int .i64 l, .int .i64 h] 25)).alloc (.cells #[.int .i64 i0, .int .i64 j0] 23)).alloc (.cells #[.int .i64 0, .int .i64 0, .int .i64 0] 25)).alloc (.cells #[.int .i64 p, .int .i64 l, .int .i64 h] 58)) = W := ⟨_, rfl⟩
      have B : Hid (Three W (w.heap.size) 25 (.int .i64 p) (.int .i64 l) (.int .i64 h)) := by
        rw [← hW]
        have k := Three.new w 25 (.int .i64 p) (.int .i64 l) (.int .i64 h)
        exact (((k).alloc _).alloc _).alloc _
      have I : Hid (Two W (w.heap.size + 1) 23 (.int .i64 i0) (.int .i64 j0)) := by
        rw [← hW]
        have k := Two.new (w.alloc (.cells #[.int .i64 p, .int .i64 l, .int .i64 h] 25)) 23 (.int .i64 i0) (.int .i64 j0)
        rw [show (w.alloc (.cells #[.int .i64 p, .int .i64 l, .int .i64 h] 25)).heap.size = w.heap.size + 1 by simp] at k
        exact ((k).alloc _).alloc _
      have R : Hid (Three W (w.heap.size + 1 + 1) 25 (.int .i64 0) (.int .i64 0) (.int .i64 0)) := by
        rw [← hW]
        have k := Three.new ((w.alloc (.cells #[.int .i64 p, .int .i64 l, .int .i64 h] 25)).alloc (.cells #[.int .i64 i0, .int .i64 j0] 23)) 25 (.int .i64 0) (.int .i64 0) (.int .i64 0)
        rw [show ((w.alloc (.cells #[.int .i64 p, .int .i64 l, .int .i64 h] 25)).alloc (.cells #[.int .i64 i0, .int .i64 j0] 23)).heap.size = w.heap.size + 1 + 1 by simp] at k
        exact (k).alloc _
      have H : Hid (Three W (w.heap.size + 1 + 1 + 1) 58 (.int .i64 p) (.int .i64 l) (.int .i64 h)) := by
        rw [← hW]
        have k := Three.new (((w.alloc (.cells #[.int .i64 p, .int .i64 l, .int .i64 h] 25)).alloc (.cells #[.int .i64 i0, .int .i64 j0] 23)).alloc (.cells #[.int .i64 0, .int .i64 0, .int .i64 0] 25)) 58 (.int .i64 p) (.int .i64 l) (.int .i64 h)
        rw [show (((w.alloc (.cells #[.int .i64 p, .int .i64 l, .int .i64 h] 25)).alloc (.cells #[.int .i64 i0, .int .i64 j0] 23)).alloc (.cells #[.int .i64 0, .int .i64 0, .int .i64 0] 25)).heap.size = w.heap.size + 1 + 1 + 1 by simp] at k
        exact k
      have BB : Hid (Below w.heap.size w W) := by rw [← hW]; exact (((below_alloc w _).alloc (by simp) _).alloc (by simp; omega) _).alloc (by simp; omega) _
      have b_0 := B.out.c0
      have b_1 := B.out.c1
      have b_2 := B.out.c2
      have b_l := B.out.lt
      have i_0 := I.out.c0
      have i_1 := I.out.c1
      have i_l := I.out.lt
      have r_0 := R.out.c0
      have r_1 := R.out.c1
      have r_2 := R.out.c2
      have r_l := R.out.lt
      have r_f0 := R.out.free 0
      have r_f1 := R.out.free 1
      have r_f2 := R.out.free 2
      have h_0 := H.out.c0
      have h_1 := H.out.c1
      have h_2 := H.out.c2
      have h_l := H.out.lt
      go_enter Try.func18, Try.ntmps18
      go_wp2_with (first
        | (go_at_call 29; (with_reducible refine (VB.out _).mono ?_); rintro e w1 ⟨rfl, b1⟩; replace B := Lib.hid (B.out.below b1 B.out.lt); replace I := Lib.hid (I.out.below b1 I.out.lt); replace R := Lib.hid (R.out.below b1 R.out.lt); replace H := Lib.hid (H.out.below b1 H.out.lt); replace BB := Lib.hid (below_more BB.out b1); replace b_0 := B.out.c0; replace b_1 := B.out.c1; replace b_2 := B.out.c2; replace b_l := B.out.lt; replace i_0 := I.out.c0; replace i_1 := I.out.c1; replace i_l := I.out.lt; replace r_0 := R.out.c0; replace r_1 := R.out.c1; replace r_2 := R.out.c2; replace r_l := R.out.lt; replace r_f0 := R.out.free 0; replace r_f1 := R.out.free 1; replace r_f2 := R.out.free 2; replace h_0 := H.out.c0; replace h_1 := H.out.c1; replace h_2 := H.out.c2; replace h_l := H.out.lt; clear b1 VB)
        | (go_at_call 34; (with_reducible refine (VI.out _).mono ?_); rintro e w2 ⟨rfl, b2⟩; replace B := Lib.hid (B.out.below b2 B.out.lt); replace I := Lib.hid (I.out.below b2 I.out.lt); replace R := Lib.hid (R.out.below b2 R.out.lt); replace H := Lib.hid (H.out.below b2 H.out.lt); replace BB := Lib.hid (below_more BB.out b2); replace b_0 := B.out.c0; replace b_1 := B.out.c1; replace b_2 := B.out.c2; replace b_l := B.out.lt; replace i_0 := I.out.c0; replace i_1 := I.out.c1; replace i_l := I.out.lt; replace r_0 := R.out.c0; replace r_1 := R.out.c1; replace r_2 := R.out.c2; replace r_l := R.out.lt; replace r_f0 := R.out.free 0; replace r_f1 := R.out.free 1; replace r_f2 := R.out.free 2; replace h_0 := H.out.c0; replace h_1 := H.out.c1; replace h_2 := H.out.c2; replace h_l := H.out.lt; clear b2 VI))
      refine bodyPost_ret (v := .tuple #[.agg #[.int .i64 0, .int .i64 0, .int .i64 0], .bool false, .int .i64 1]) (by simp [results, Try.results18, go_sem, r_0, r_1, r_2, r_l]) rfl ⟨by rw [E.out], ?_⟩
      exact (((BB.out.setCell (p := ⟨w.heap.size + 1 + 1, 0, none⟩) (by show w.heap.size ≤ w.heap.size + 1 + 1; omega) _).setCell (p := ⟨w.heap.size + 1 + 1, 1, none⟩) (by show w.heap.size ≤ w.heap.size + 1 + 1; omega) _).setCell (p := ⟨w.heap.size + 1 + 1, 2, none⟩) (by show w.heap.size ≤ w.heap.size + 1 + 1; omega) _)
  · have VB := Lib.hid (VB.out false ⟨fun h => (by cases h), fun h => absurd h q1⟩)
    have E := Lib.hid (E0.out.trans (if_neg (fun x => q1 x.1)))
    clear E0 EI q1 MT VI
    obtain ⟨W, hW⟩ : ∃ W, ((((w.alloc (.cells #[.int .i64 p, .int .i64 l, .int .i64 h] 25)).alloc (.cells #[.int .i64 i0, .int .i64 j0] 23)).alloc (.cells #[.int .i64 0, .int .i64 0, .int .i64 0] 25)).alloc (.cells #[.int .i64 p, .int .i64 l, .int .i64 h] 58)) = W := ⟨_, rfl⟩
    have B : Hid (Three W (w.heap.size) 25 (.int .i64 p) (.int .i64 l) (.int .i64 h)) := by
      rw [← hW]
      have k := Three.new w 25 (.int .i64 p) (.int .i64 l) (.int .i64 h)
      exact (((k).alloc _).alloc _).alloc _
    have I : Hid (Two W (w.heap.size + 1) 23 (.int .i64 i0) (.int .i64 j0)) := by
      rw [← hW]
      have k := Two.new (w.alloc (.cells #[.int .i64 p, .int .i64 l, .int .i64 h] 25)) 23 (.int .i64 i0) (.int .i64 j0)
      rw [show (w.alloc (.cells #[.int .i64 p, .int .i64 l, .int .i64 h] 25)).heap.size = w.heap.size + 1 by simp] at k
      exact ((k).alloc _).alloc _
    have R : Hid (Three W (w.heap.size + 1 + 1) 25 (.int .i64 0) (.int .i64 0) (.int .i64 0)) := by
      rw [← hW]
      have k := Three.new ((w.alloc (.cells #[.int .i64 p, .int .i64 l, .int .i64 h] 25)).alloc (.cells #[.int .i64 i0, .int .i64 j0] 23)) 25 (.int .i64 0) (.int .i64 0) (.int .i64 0)
      rw [show ((w.alloc (.cells #[.int .i64 p, .int .i64 l, .int .i64 h] 25)).alloc (.cells #[.int .i64 i0, .int .i64 j0] 23)).heap.size = w.heap.size + 1 + 1 by simp] at k
      exact (k).alloc _
    have H : Hid (Three W (w.heap.size + 1 + 1 + 1) 58 (.int .i64 p) (.int .i64 l) (.int .i64 h)) := by
      rw [← hW]
      have k := Three.new (((w.alloc (.cells #[.int .i64 p, .int .i64 l, .int .i64 h] 25)).alloc (.cells #[.int .i64 i0, .int .i64 j0] 23)).alloc (.cells #[.int .i64 0, .int .i64 0, .int .i64 0] 25)) 58 (.int .i64 p) (.int .i64 l) (.int .i64 h)
      rw [show (((w.alloc (.cells #[.int .i64 p, .int .i64 l, .int .i64 h] 25)).alloc (.cells #[.int .i64 i0, .int .i64 j0] 23)).alloc (.cells #[.int .i64 0, .int .i64 0, .int .i64 0] 25)).heap.size = w.heap.size + 1 + 1 + 1 by simp] at k
      exact k
    have BB : Hid (Below w.heap.size w W) := by rw [← hW]; exact (((below_alloc w _).alloc (by simp) _).alloc (by simp; omega) _).alloc (by simp; omega) _
    have b_0 := B.out.c0
    have b_1 := B.out.c1
    have b_2 := B.out.c2
    have b_l := B.out.lt
    have i_0 := I.out.c0
    have i_1 := I.out.c1
    have i_l := I.out.lt
    have r_0 := R.out.c0
    have r_1 := R.out.c1
    have r_2 := R.out.c2
    have r_l := R.out.lt
    have r_f0 := R.out.free 0
    have r_f1 := R.out.free 1
    have r_f2 := R.out.free 2
    have h_0 := H.out.c0
    have h_1 := H.out.c1
    have h_2 := H.out.c2
    have h_l := H.out.lt
    go_enter Try.func18, Try.ntmps18
    go_wp2_with (go_at_call 29; (with_reducible refine (VB.out _).mono ?_); rintro e w1 ⟨rfl, b1⟩; replace B := Lib.hid (B.out.below b1 B.out.lt); replace I := Lib.hid (I.out.below b1 I.out.lt); replace R := Lib.hid (R.out.below b1 R.out.lt); replace H := Lib.hid (H.out.below b1 H.out.lt); replace BB := Lib.hid (below_more BB.out b1); replace b_0 := B.out.c0; replace b_1 := B.out.c1; replace b_2 := B.out.c2; replace b_l := B.out.lt; replace i_0 := I.out.c0; replace i_1 := I.out.c1; replace i_l := I.out.lt; replace r_0 := R.out.c0; replace r_1 := R.out.c1; replace r_2 := R.out.c2; replace r_l := R.out.lt; replace r_f0 := R.out.free 0; replace r_f1 := R.out.free 1; replace r_f2 := R.out.free 2; replace h_0 := H.out.c0; replace h_1 := H.out.c1; replace h_2 := H.out.c2; replace h_l := H.out.lt; clear b1 VB)
    refine bodyPost_ret (v := .tuple #[.agg #[.int .i64 0, .int .i64 0, .int .i64 0], .bool false, .int .i64 1]) (by simp [results, Try.results18, go_sem, r_0, r_1, r_2, r_l]) rfl ⟨by rw [E.out], ?_⟩
    exact (((BB.out.setCell (p := ⟨w.heap.size + 1 + 1, 0, none⟩) (by show w.heap.size ≤ w.heap.size + 1 + 1; omega) _).setCell (p := ⟨w.heap.size + 1 + 1, 1, none⟩) (by show w.heap.size ≤ w.heap.size + 1 + 1; omega) _).setCell (p := ⟨w.heap.size + 1 + 1, 2, none⟩) (by show w.heap.size ≤ w.heap.size + 1 + 1; omega) _)

theorem blf : Blf where
  start := fun a ha w => start_any a ha w
  at_ := fun p l h r a hp _ _ hr ha w => gat_any p l h r a hp hr ha w
  adv := fun p l h r a hp _ _ hr ha w => gadv_any p l h r a hp hr ha w
  meet := fun p l h i j hp _ _ _ _ w => gmt_any p l h i j hp w
  wrs := fun l h s _ _ hs w => worst_any l h s hs w
end Go.Proofs.Ytpfcjffpomdhbaa
