/- Layer 8: the reference's Start and At. -/
import Derived.Test.YtpfcjffpomdhbaaBel
namespace Go.Proofs.Ytpfcjffpomdhbaa
open Go.RowKit Go
set_option linter.unusedVariables false
set_option linter.unusedSimpArgs false

/-- The call's own blocks: the belief, the result. -/
structure Own2 (p l h : Int) (W : World) (g : Nat) : Prop where
  bl : Three W g 25 (.int .i64 p) (.int .i64 l) (.int .i64 h)
  res : Two W (g + 1) 23 (.int .i64 0) (.int .i64 0)
theorem Own2.far {p l h : Int} {W w' : World} {g : Nat} (o : Own2 p l h W g) (b : Below (g + 2) W w') : Own2 p l h w' g := ⟨o.bl.below b (by omega), o.res.below b (by omega)⟩
theorem Own2.new (p l h : Int) (w : World) : Own2 p l h ((w.alloc (.cells #[.int .i64 p, .int .i64 l, .int .i64 h] 25)).alloc (.cells #[.int .i64 0, .int .i64 0] 23)) w.heap.size := by
  refine ⟨(Three.new w _ _ _ _).alloc _, ?_⟩
  have k := Two.new (w.alloc (.cells #[.int .i64 p, .int .i64 l, .int .i64 h] 25)) 23 (.int .i64 0) (.int .i64 0)
  rwa [show (w.alloc (.cells #[.int .i64 p, .int .i64 l, .int .i64 h] 25)).heap.size = w.heap.size + 1 by simp] at k

theorem rstart_any (a : Int) (ha : I64 a) (w : World) :
    Calls Try.prog 13 #[.int .i64 a] w (Gives (.tuple #[blV (startR a).1 (startR a).2.1 (startR a).2.2.1, .int .i64 (startR a).2.2.2]) w) := by
  unfold blV
  obtain ⟨W, hW⟩ : ∃ W, w.alloc (.cells #[.int .i64 0, .int .i64 0, .int .i64 0] 25) = W := ⟨_, rfl⟩
  have T0 : Three W w.heap.size 25 (.int .i64 0) (.int .i64 0) (.int .i64 0) := by rw [← hW]; exact Three.new w _ _ _ _
  have BW : Hid (Below w.heap.size w W) := by rw [← hW]; exact below_alloc w _
  have t0 := T0.c0
  have t1 := T0.c1
  have t2 := T0.c2
  have t3 := T0.lt
  have t4 := T0.free 0
  have t5 := T0.free 1
  have t6 := T0.free 2
  clear T0
  by_cases q : TimeOk a
  · have K := Lib.hid (rtime_any a true ⟨fun _ => q, fun _ => rfl⟩ ha)
    have E : Hid (startR a = (a, 0, 3000000000000000, 0)) := if_pos q
    clear q
    go_enter Try.func13, Try.ntmps13
    go_wp2_with (go_at_call 28; (with_reducible refine (K.out _).mono ?_); rintro e w' ⟨rfl, rfl⟩)
    refine bodyPost_ret (v := .tuple #[.agg #[.int .i64 a, .int .i64 0, .int .i64 3000000000000000], .int .i64 0]) (by simp [results, Try.results13, go_sem, t0, t1, t2, t3]) rfl ⟨by rw [E.out], ?_⟩
    exact ((BW.out.setCell (p := ⟨w.heap.size, 0, none⟩) (by simp) _).setCell (p := ⟨w.heap.size, 1, none⟩) (by simp) _).setCell (p := ⟨w.heap.size, 2, none⟩) (by simp) _
  · have K := Lib.hid (rtime_any a false ⟨fun h => (by cases h), fun h => absurd h q⟩ ha)
    have E : Hid (startR a = (0, 0, 0, 1)) := if_neg q
    clear q
    go_enter Try.func13, Try.ntmps13
    go_wp2_with (go_at_call 28; (with_reducible refine (K.out _).mono ?_); rintro e w' ⟨rfl, rfl⟩)
    refine bodyPost_ret (v := .tuple #[.agg #[.int .i64 0, .int .i64 0, .int .i64 0], .int .i64 1]) (by simp [results, Try.results13, go_sem, t0, t1, t2, t3]) rfl ⟨by rw [E.out], ?_⟩
    exact ((BW.out.setCell (p := ⟨w.heap.size, 0, none⟩) (by simp) _).setCell (p := ⟨w.heap.size, 1, none⟩) (by simp) _).setCell (p := ⟨w.heap.size, 2, none⟩) (by simp) _

set_option maxHeartbeats 2000000 in
theorem rat_bad (p l h r a : Int) (hno : ¬ (BOk p l h ∧ RateOk r ∧ TimeOk a)) (hp : I64 p) (ha : I64 a) (w : World) :
    Calls Try.prog 15 #[blV p l h, .int .i64 r, .int .i64 a] w (Gives (.tuple #[rgV (atR p l h r a).1 (atR p l h r a).2.1, .int .i64 (atR p l h r a).2.2]) w) := by
  have E : Hid (atR p l h r a = (0, 0, 1)) := if_neg hno
  have VB := Lib.hid (fun q hq => rbel_any p l h q hq hp)
  have TM := Lib.hid (fun q hq => rtime_any a q hq ha)
  unfold blV at VB ⊢
  unfold rgV
  obtain ⟨W, hW⟩ : ∃ W, (w.alloc (.cells #[.int .i64 p, .int .i64 l, .int .i64 h] 25)).alloc (.cells #[.int .i64 0, .int .i64 0] 23) = W := ⟨_, rfl⟩
  have O0 : Hid (Own2 p l h W w.heap.size) := by rw [← hW]; exact Own2.new p l h w
  have BW : Hid (Below w.heap.size w W) := by rw [← hW]; exact ((below_alloc w _).alloc (by simp) _)
  have t0 := O0.out.bl.c0
  have t1 := O0.out.bl.c1
  have t2 := O0.out.bl.c2
  have t3 := O0.out.bl.lt
  have u0 := O0.out.res.c0
  have u1 := O0.out.res.c1
  have u2 := O0.out.res.free 0
  have u3 := O0.out.res.free 1
  have u4 := O0.out.res.lt
  by_cases q1 : BOk p l h
  · have VB := Lib.hid (VB.out true ⟨fun _ => q1, fun _ => rfl⟩)
    by_cases q2 : TimeOk a
    · have TM := Lib.hid (TM.out true ⟨fun _ => q2, fun _ => rfl⟩)
      have q3 : ¬ RateOk r := fun q => hno ⟨q1, q, q2⟩
      unfold RateOk at q3
      rcases (by omega : r < 0 ∨ (0 ≤ r ∧ 1000000 < r)) with c | ⟨c, c2⟩
      · have d1 : decide (r < 0) = true := by simp; omega
        clear q1 q2 q3 hno
        go_enter Try.func15, Try.ntmps15
        go_wp2_with (first
          | (go_at_call 22; (with_reducible refine (VB.out _).mono ?_); rintro e w1 ⟨rfl, b1⟩; have O1 := Lib.hid (O0.out.far (b1.mono O0.out.res.lt)); have B1 := Lib.hid (below_more BW.out b1); have t0 := O1.out.bl.c0; have t1 := O1.out.bl.c1; have t2 := O1.out.bl.c2; have t3 := O1.out.bl.lt; have u0 := O1.out.res.c0; have u1 := O1.out.res.c1; have u2 := O1.out.res.free 0; have u3 := O1.out.res.free 1; have u4 := O1.out.res.lt; clear b1 VB)
          | (go_at_call 28; (with_reducible refine (TM.out _).mono ?_); rintro e w' ⟨rfl, rfl⟩; clear TM))
        refine bodyPost_ret (v := .tuple #[.agg #[.int .i64 (0), .int .i64 (0)], .int .i64 1]) (by simp [results, Try.results15, go_sem, u0, u1, u4]) rfl ⟨by rw [E.out], ?_⟩
        exact (B1.out.setCell (p := ⟨w.heap.size + 1, 0, none⟩) (by simp) _).setCell (p := ⟨w.heap.size + 1, 1, none⟩) (by simp) _
      · have d1 : decide (r < 0) = false := by simp; omega
        have d2 : decide (1000000 < r) = true := by simp; omega
        clear q1 q2 q3 hno
        go_enter Try.func15, Try.ntmps15
        go_wp2_with (first
          | (go_at_call 22; (with_reducible refine (VB.out _).mono ?_); rintro e w1 ⟨rfl, b1⟩; have O1 := Lib.hid (O0.out.far (b1.mono O0.out.res.lt)); have B1 := Lib.hid (below_more BW.out b1); have t0 := O1.out.bl.c0; have t1 := O1.out.bl.c1; have t2 := O1.out.bl.c2; have t3 := O1.out.bl.lt; have u0 := O1.out.res.c0; have u1 := O1.out.res.c1; have u2 := O1.out.res.free 0; have u3 := O1.out.res.free 1; have u4 := O1.out.res.lt; clear b1 VB)
          | (go_at_call 28; (with_reducible refine (TM.out _).mono ?_); rintro e w' ⟨rfl, rfl⟩; clear TM))
        refine bodyPost_ret (v := .tuple #[.agg #[.int .i64 (0), .int .i64 (0)], .int .i64 1]) (by simp [results, Try.results15, go_sem, u0, u1, u4]) rfl ⟨by rw [E.out], ?_⟩
        exact (B1.out.setCell (p := ⟨w.heap.size + 1, 0, none⟩) (by simp) _).setCell (p := ⟨w.heap.size + 1, 1, none⟩) (by simp) _
    · have TM := Lib.hid (TM.out false ⟨fun h => (by cases h), fun h => absurd h q2⟩)
      clear q1 q2 hno
      go_enter Try.func15, Try.ntmps15
      go_wp2_with (first
        | (go_at_call 22; (with_reducible refine (VB.out _).mono ?_); rintro e w1 ⟨rfl, b1⟩; have O1 := Lib.hid (O0.out.far (b1.mono O0.out.res.lt)); have B1 := Lib.hid (below_more BW.out b1); have t0 := O1.out.bl.c0; have t1 := O1.out.bl.c1; have t2 := O1.out.bl.c2; have t3 := O1.out.bl.lt; have u0 := O1.out.res.c0; have u1 := O1.out.res.c1; have u2 := O1.out.res.free 0; have u3 := O1.out.res.free 1; have u4 := O1.out.res.lt; clear b1 VB)
        | (go_at_call 28; (with_reducible refine (TM.out _).mono ?_); rintro e w' ⟨rfl, rfl⟩; clear TM))
      refine bodyPost_ret (v := .tuple #[.agg #[.int .i64 (0), .int .i64 (0)], .int .i64 1]) (by simp [results, Try.results15, go_sem, u0, u1, u4]) rfl ⟨by rw [E.out], ?_⟩
      exact (B1.out.setCell (p := ⟨w.heap.size + 1, 0, none⟩) (by simp) _).setCell (p := ⟨w.heap.size + 1, 1, none⟩) (by simp) _
  · have VB := Lib.hid (VB.out false ⟨fun h => (by cases h), fun h => absurd h q1⟩)
    obtain ⟨q, hq⟩ : ∃ q : Bool, q = true ↔ TimeOk a := ⟨decide (TimeOk a), by simp⟩
    have TM := Lib.hid (TM.out q hq)
    clear q1 hno hq
    go_enter Try.func15, Try.ntmps15
    go_wp2_with (first
      | (go_at_call 22; (with_reducible refine (VB.out _).mono ?_); rintro e w1 ⟨rfl, b1⟩; have O1 := Lib.hid (O0.out.far (b1.mono O0.out.res.lt)); have B1 := Lib.hid (below_more BW.out b1); have t0 := O1.out.bl.c0; have t1 := O1.out.bl.c1; have t2 := O1.out.bl.c2; have t3 := O1.out.bl.lt; have u0 := O1.out.res.c0; have u1 := O1.out.res.c1; have u2 := O1.out.res.free 0; have u3 := O1.out.res.free 1; have u4 := O1.out.res.lt; clear b1 VB)
      | (go_at_call 28; (with_reducible refine (TM.out _).mono ?_); rintro e w' ⟨rfl, rfl⟩; clear TM))
    refine bodyPost_ret (v := .tuple #[.agg #[.int .i64 (0), .int .i64 (0)], .int .i64 1]) (by simp [results, Try.results15, go_sem, u0, u1, u4]) rfl ⟨by rw [E.out], ?_⟩
    exact (B1.out.setCell (p := ⟨w.heap.size + 1, 0, none⟩) (by simp) _).setCell (p := ⟨w.heap.size + 1, 1, none⟩) (by simp) _

set_option maxHeartbeats 4000000 in
theorem rat_good (p l h r a : Int) (hb : BOk p l h) (hr : RateOk r) (ht : TimeOk a) (hp : I64 p) (ha : I64 a) (w : World) :
    Calls Try.prog 15 #[blV p l h, .int .i64 r, .int .i64 a] w (Gives (.tuple #[rgV (atR p l h r a).1 (atR p l h r a).2.1, .int .i64 (atR p l h r a).2.2]) w) := by
  have E : Hid (atR p l h r a = if a < p then (0, 0, 30) else if StretchOk (a - p) then (min 3000000000000000 (l + elLo r (a - p)), min 3000000000000000 (h + elHi r (a - p)), 0) else (0, 0, 3)) := if_pos ⟨hb, hr, ht⟩
  have VB := Lib.hid (rbel_any p l h true ⟨fun _ => hb, fun _ => rfl⟩ hp)
  have TM := Lib.hid (rtime_any a true ⟨fun _ => ht, fun _ => rfl⟩ ha)
  obtain ⟨⟨g1, g2⟩, g3, g4, g5⟩ := hb
  obtain ⟨g6, g7⟩ := ht
  have HRT := Lib.hid hr
  obtain ⟨r1, r2⟩ := hr
  have d1 : decide (r < 0) = false := by simp; omega
  have d2 : decide (1000000 < r) = false := by simp; omega
  unfold blV at VB ⊢
  unfold rgV
  obtain ⟨W, hW⟩ : ∃ W, (w.alloc (.cells #[.int .i64 p, .int .i64 l, .int .i64 h] 25)).alloc (.cells #[.int .i64 0, .int .i64 0] 23) = W := ⟨_, rfl⟩
  have O0 : Hid (Own2 p l h W w.heap.size) := by rw [← hW]; exact Own2.new p l h w
  have BW : Hid (Below w.heap.size w W) := by rw [← hW]; exact ((below_alloc w _).alloc (by simp) _)
  have t0 := O0.out.bl.c0
  have t1 := O0.out.bl.c1
  have t2 := O0.out.bl.c2
  have t3 := O0.out.bl.lt
  have u0 := O0.out.res.c0
  have u1 := O0.out.res.c1
  have u2 := O0.out.res.free 0
  have u3 := O0.out.res.free 1
  have u4 := O0.out.res.lt
  by_cases c : a < p
  · have E := Lib.hid (E.out.trans (if_pos c))
    have d3 : decide (a < p) = true := by simp; omega
    go_enter Try.func15, Try.ntmps15
    go_wp2_with (first
      | (go_at_call 22; (with_reducible refine (VB.out _).mono ?_); rintro e w1 ⟨rfl, b1⟩; have O1 := Lib.hid (O0.out.far (b1.mono O0.out.res.lt)); have B1 := Lib.hid (below_more BW.out b1); have t0 := O1.out.bl.c0; have t1 := O1.out.bl.c1; have t2 := O1.out.bl.c2; have t3 := O1.out.bl.lt; have u0 := O1.out.res.c0; have u1 := O1.out.res.c1; have u2 := O1.out.res.free 0; have u3 := O1.out.res.free 1; have u4 := O1.out.res.lt; clear b1 VB)
      | (go_at_call 28; (with_reducible refine (TM.out _).mono ?_); rintro e w' ⟨rfl, rfl⟩; clear TM))
    refine bodyPost_ret (v := .tuple #[.agg #[.int .i64 (0), .int .i64 (0)], .int .i64 30]) (by simp [results, Try.results15, go_sem, u0, u1, u4]) rfl ⟨by rw [E.out], ?_⟩
    exact (B1.out.setCell (p := ⟨w.heap.size + 1, 0, none⟩) (by simp) _).setCell (p := ⟨w.heap.size + 1, 1, none⟩) (by simp) _
  · have E := Lib.hid (E.out.trans (if_neg c))
    have d3 : decide (a < p) = false := by simp; omega
    obtain ⟨n, hn⟩ : ∃ n, a - p = n := ⟨_, rfl⟩
    rw [hn] at E
    have n1 : 0 ≤ n := by omega
    have n2 : n ≤ 3000000000000000 := by omega
    by_cases q : StretchOk n
    · have E := Lib.hid (E.out.trans (if_pos q))
      have EL := Lib.hid (rel_yes r n HRT.out q)
      have z1 := elLo_nonneg HRT.out.1 q.1
      have z2 := elLo_up HRT.out.1 q.1
      have z3 := elHi_nonneg HRT.out.1 HRT.out.2 q.1
      have z4 := elHi_le HRT.out.1 HRT.out.2 q.1
      have q2 := q.2
      unfold rgV at EL
      generalize elLo r n = x at EL E z1 z2
      generalize elHi r n = y at EL E z3 z4
      clear q
      go_enter Try.func15, Try.ntmps15
      go_wp2_with (first
        | (go_at_call 22; (with_reducible refine (VB.out _).mono ?_); rintro e w1 ⟨rfl, b1⟩; have O1 := Lib.hid (O0.out.far (b1.mono O0.out.res.lt)); have B1 := Lib.hid (below_more BW.out b1); have t0 := O1.out.bl.c0; have t1 := O1.out.bl.c1; have t2 := O1.out.bl.c2; have t3 := O1.out.bl.lt; have u0 := O1.out.res.c0; have u1 := O1.out.res.c1; have u2 := O1.out.res.free 0; have u3 := O1.out.res.free 1; have u4 := O1.out.res.lt; clear b1 VB)
        | (go_at_call 28; (with_reducible refine (TM.out _).mono ?_); rintro e w' ⟨rfl, rfl⟩; clear TM)
        | (go_at_call 33; (with_reducible refine (EL.out _).mono ?_); rintro e w2 ⟨rfl, b2⟩; have O2 := Lib.hid (O1.out.far (b2.mono O1.out.res.lt)); have B2 := Lib.hid (below_more B1.out b2); have N2 := Lib.hid (B2.out.alloc B2.out.size (.cells #[.int .i64 x, .int .i64 y] 41)); have O3 := Lib.hid (O2.out.far (below_alloc w2 (.cells #[.int .i64 x, .int .i64 y] 41) |>.mono O2.out.res.lt)); have t0 := O3.out.bl.c0; have t1 := O3.out.bl.c1; have t2 := O3.out.bl.c2; have t3 := O3.out.bl.lt; have u0 := O3.out.res.c0; have u1 := O3.out.res.c1; have u2 := O3.out.res.free 0; have u3 := O3.out.res.free 1; have u4 := O3.out.res.lt; clear b2 EL))
      refine bodyPost_ret (v := .tuple #[.agg #[.int .i64 (min 3000000000000000 (l + x)), .int .i64 (min 3000000000000000 (h + y))], .int .i64 0]) (by simp [results, Try.results15, go_sem, u0, u1, u4]) rfl ⟨by rw [E.out], ?_⟩
      exact (N2.out.setCell (p := ⟨w.heap.size + 1, 0, none⟩) (by simp) _).setCell (p := ⟨w.heap.size + 1, 1, none⟩) (by simp) _
    · have E := Lib.hid (E.out.trans (if_neg q))
      obtain ⟨x, hx⟩ : ∃ x : Int, x = 0 := ⟨_, rfl⟩
      obtain ⟨y, hy⟩ : ∃ y : Int, y = 0 := ⟨_, rfl⟩
      have EL : Hid (∀ w, Calls Try.prog 33 #[.int .i64 r, .int .i64 n] w (Gives (.tuple #[.agg #[.int .i64 x, .int .i64 y], .int .i64 1]) w)) := by
        subst hx hy
        intro w
        have := rel_any r n ⟨by omega, by omega⟩ ⟨by omega, by omega⟩ w
        rwa [show elR r n = (0, 0, 1) from if_neg (fun z => q z.2)] at this
      clear q hx hy
      go_enter Try.func15, Try.ntmps15
      go_wp2_with (first
        | (go_at_call 22; (with_reducible refine (VB.out _).mono ?_); rintro e w1 ⟨rfl, b1⟩; have O1 := Lib.hid (O0.out.far (b1.mono O0.out.res.lt)); have B1 := Lib.hid (below_more BW.out b1); have t0 := O1.out.bl.c0; have t1 := O1.out.bl.c1; have t2 := O1.out.bl.c2; have t3 := O1.out.bl.lt; have u0 := O1.out.res.c0; have u1 := O1.out.res.c1; have u2 := O1.out.res.free 0; have u3 := O1.out.res.free 1; have u4 := O1.out.res.lt; clear b1 VB)
        | (go_at_call 28; (with_reducible refine (TM.out _).mono ?_); rintro e w' ⟨rfl, rfl⟩; clear TM)
        | (go_at_call 33; (with_reducible refine (EL.out _).mono ?_); rintro e w2 ⟨rfl, b2⟩; have O2 := Lib.hid (O1.out.far (b2.mono O1.out.res.lt)); have B2 := Lib.hid (below_more B1.out b2); have N2 := Lib.hid (B2.out.alloc B2.out.size (.cells #[.int .i64 x, .int .i64 y] 41)); have O3 := Lib.hid (O2.out.far (below_alloc w2 (.cells #[.int .i64 x, .int .i64 y] 41) |>.mono O2.out.res.lt)); have t0 := O3.out.bl.c0; have t1 := O3.out.bl.c1; have t2 := O3.out.bl.c2; have t3 := O3.out.bl.lt; have u0 := O3.out.res.c0; have u1 := O3.out.res.c1; have u2 := O3.out.res.free 0; have u3 := O3.out.res.free 1; have u4 := O3.out.res.lt; clear b2 EL))
      refine bodyPost_ret (v := .tuple #[.agg #[.int .i64 (0), .int .i64 (0)], .int .i64 3]) (by simp [results, Try.results15, go_sem, u0, u1, u4]) rfl ⟨by rw [E.out], ?_⟩
      exact (N2.out.setCell (p := ⟨w.heap.size + 1, 0, none⟩) (by simp) _).setCell (p := ⟨w.heap.size + 1, 1, none⟩) (by simp) _

theorem rat_any (p l h r a : Int) (hp : I64 p) (ha : I64 a) (w : World) :
    Calls Try.prog 15 #[blV p l h, .int .i64 r, .int .i64 a] w (Gives (.tuple #[rgV (atR p l h r a).1 (atR p l h r a).2.1, .int .i64 (atR p l h r a).2.2]) w) := by
  by_cases q : BOk p l h ∧ RateOk r ∧ TimeOk a
  · exact rat_good p l h r a q.1 q.2.1 q.2.2 hp ha w
  · exact rat_bad p l h r a q hp ha w
end Go.Proofs.Ytpfcjffpomdhbaa
