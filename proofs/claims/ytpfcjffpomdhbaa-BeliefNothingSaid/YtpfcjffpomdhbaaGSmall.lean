/- Layer 8: package belief's isTime, isRate, held.valid, held.later, Start and Worst, over the landed code. -/
import Derived.Test.YtpfcjffpomdhbaaIvl
import Derived.Test.YtpfcjffpomdhbaaCon
namespace Go.Proofs.Ytpfcjffpomdhbaa
open Go.RowKit Go
set_option linter.unusedVariables false
set_option linter.unusedSimpArgs false

theorem btime_any (x : Int) (q : Bool) (hq : q = true ↔ TimeOk x) (h1 : I64 x) (w : World) :
    Calls Try.prog 27 #[.int .i64 x] w fun e w' => e = .returned (.bool q) ∧ w = w' := by
  have hd : q = decide (0 ≤ x ∧ x ≤ 3000000000000000) := by rw [Bool.eq_iff_iff, decide_eq_true_iff]; exact hq
  obtain ⟨h1, h2⟩ := h1
  subst hd
  clear hq
  go_enter Try.func27, Try.ntmps27
  by_cases h : 0 ≤ x
  · go_wp2_with fail
    go_ret
    exact ⟨by simp_all <;> omega, rfl⟩
  · go_wp2_with fail
    go_ret
    exact ⟨by simp_all <;> omega, rfl⟩

theorem brate_any (x : Int) (q : Bool) (hq : q = true ↔ RateOk x) (h1 : I64 x) (w : World) :
    Calls Try.prog 30 #[.int .i64 x] w fun e w' => e = .returned (.bool q) ∧ w = w' := by
  have hd : q = decide (0 ≤ x ∧ x ≤ 1000000) := by rw [Bool.eq_iff_iff, decide_eq_true_iff]; exact hq
  obtain ⟨h1, h2⟩ := h1
  subst hd
  clear hq
  go_enter Try.func30, Try.ntmps30
  by_cases h : 0 ≤ x
  · go_wp2_with fail
    go_ret
    exact ⟨by simp_all <;> omega, rfl⟩
  · go_wp2_with fail
    go_ret
    exact ⟨by simp_all <;> omega, rfl⟩

theorem gvalid_any (l h : Int) (q : Bool) (hq : q = true ↔ IvOk l h) (w : World) :
    Calls Try.prog 34 #[rgV l h] w (Gives (.bool q) w) := by
  have e : validB (l, h) = q := by
    rw [Bool.eq_iff_iff, hq]
    simp [validB, IvOk]
  have := valid_any l h w
  rwa [e] at this

theorem gmeet_any (l h i j : Int) (w : World) :
    Calls Try.prog 35 #[rgV l h, rgV i j] w (Gives (.tuple #[rgV (ivMeetR l h i j).1 (ivMeetR l h i j).2.1, .bool (ivMeetR l h i j).2.2.1, .int .i64 (ivMeetR l h i j).2.2.2]) w) := by
  have k := ivp_any l h i j w
  have e : ivpR (l, h) (i, j) = (((ivMeetR l h i j).1, (ivMeetR l h i j).2.1), (ivMeetR l h i j).2.2.1, (ivMeetR l h i j).2.2.2) := by
    have e1 : (validB (l, h) && validB (i, j)) = true ↔ IvOk l h ∧ IvOk i j := by simp [validB, IvOk]
    unfold ivpR ivMeetR
    by_cases c : IvOk l h ∧ IvOk i j
    · rw [if_pos (e1.2 c), if_pos c]
      by_cases d : max l i ≤ min h j
      · rw [if_pos d, if_pos d]
      · rw [if_neg d, if_neg d]
    · rw [if_neg (fun x => c (e1.1 x)), if_neg c]
  rw [e] at k
  exact k

/-- A belief that can be asked. -/
theorem held_any (p l h : Int) (q : Bool) (hq : q = true ↔ BOk p l h) (hp : I64 p) (w : World) :
    Calls Try.prog 29 #[blV p l h] w (Gives (.bool q) w) := by
  obtain ⟨q1, hq1⟩ : ∃ q1 : Bool, q1 = decide (TimeOk p) := ⟨_, rfl⟩
  obtain ⟨q2, hq2⟩ : ∃ q2 : Bool, q2 = decide (IvOk l h) := ⟨_, rfl⟩
  have K1 := Lib.hid (btime_any p q1 (by simp [hq1]) hp)
  have K2 := Lib.hid (gvalid_any l h q2 (by simp [hq2]))
  have HQ : Hid (q = (q1 && q2)) := by
    unfold Hid
    rw [Bool.eq_iff_iff, hq, hq1, hq2]
    simp [BOk]
  clear hq hq1 hq2 hp
  unfold rgV at K2
  unfold blV
  obtain ⟨W, hW⟩ : ∃ W, w.alloc (.cells #[.int .i64 p, .int .i64 l, .int .i64 h] 58) = W := ⟨_, rfl⟩
  have T0 : Three W w.heap.size 58 (.int .i64 p) (.int .i64 l) (.int .i64 h) := by rw [← hW]; exact Three.new w _ _ _ _
  have hb : Hid (Below w.heap.size w W) := by rw [← hW]; exact below_alloc w _
  have t0 := T0.c0
  have t1 := T0.c1
  have t2 := T0.c2
  have t4 := T0.lt
  clear T0
  cases q1 with
  | true =>
    go_enter Try.func29, Try.ntmps29
    go_wp2_with (first
      | (go_at_call 27; (with_reducible refine (K1.out _).mono ?_); rintro e w' ⟨rfl, rfl⟩)
      | (go_at_call 34; (with_reducible refine (K2.out _).mono ?_); rintro e w2 ⟨rfl, b2⟩; have B2 := Lib.hid (below_more hb.out b2); clear b2))
    go_ret
    exact ⟨by rw [HQ.out]; rfl, B2.out⟩
  | false =>
    go_enter Try.func29, Try.ntmps29
    go_wp2_with (first
      | (go_at_call 27; (with_reducible refine (K1.out _).mono ?_); rintro e w' ⟨rfl, rfl⟩)
      | (go_at_call 34; (with_reducible refine (K2.out _).mono ?_); rintro e w2 ⟨rfl, b2⟩; have B2 := Lib.hid (below_more hb.out b2); clear b2))
    go_ret
    exact ⟨by rw [HQ.out]; rfl, hb.out⟩

theorem later_any (p l h x y : Int) (h1 : I64 (l + x)) (h2 : I64 (h + y)) (w : World) :
    Calls Try.prog 32 #[blV p l h, rgV x y] w (Gives (rgV (min 3000000000000000 (l + x)) (min 3000000000000000 (h + y))) w) := by
  obtain ⟨h1, h3⟩ := h1
  obtain ⟨h2, h4⟩ := h2
  have e1 : wrap64 (l + x) = l + x := by unfold wrap64; omega
  have e2 : wrap64 (h + y) = h + y := by unfold wrap64; omega
  obtain ⟨m, hm⟩ : ∃ m, min (l + x) 3000000000000000 = m := ⟨_, rfl⟩
  obtain ⟨n, hn⟩ : ∃ n, min (h + y) 3000000000000000 = n := ⟨_, rfl⟩
  have HM : Hid (min 3000000000000000 (l + x) = m) := (Int.min_comm _ _).trans hm
  have HN : Hid (min 3000000000000000 (h + y) = n) := (Int.min_comm _ _).trans hn
  rw [HM.out, HN.out]
  unfold rgV blV
  obtain ⟨W, hW⟩ : ∃ W, ((w.alloc (.cells #[.int .i64 p, .int .i64 l, .int .i64 h] 58)).alloc (.cells #[.int .i64 x, .int .i64 y] 41)).alloc (.cells #[.int .i64 0, .int .i64 0] 23) = W := ⟨_, rfl⟩
  have T0 : Three W w.heap.size 58 (.int .i64 p) (.int .i64 l) (.int .i64 h) := by rw [← hW]; exact ((Three.new w _ _ _ _).alloc _).alloc _
  have T1 : Two W (w.heap.size + 1) 41 (.int .i64 x) (.int .i64 y) := by
    rw [← hW]
    have k := Two.new (w.alloc (.cells #[.int .i64 p, .int .i64 l, .int .i64 h] 58)) 41 (.int .i64 x) (.int .i64 y)
    rw [show (w.alloc (.cells #[.int .i64 p, .int .i64 l, .int .i64 h] 58)).heap.size = w.heap.size + 1 by simp] at k
    exact k.alloc _
  have T2 : Two W (w.heap.size + 1 + 1) 23 (.int .i64 0) (.int .i64 0) := by
    rw [← hW]
    have k := Two.new ((w.alloc (.cells #[.int .i64 p, .int .i64 l, .int .i64 h] 58)).alloc (.cells #[.int .i64 x, .int .i64 y] 41)) 23 (.int .i64 0) (.int .i64 0)
    rwa [show ((w.alloc (.cells #[.int .i64 p, .int .i64 l, .int .i64 h] 58)).alloc (.cells #[.int .i64 x, .int .i64 y] 41)).heap.size = w.heap.size + 1 + 1 by simp] at k
  have BW : Hid (Below w.heap.size w W) := by rw [← hW]; exact (((below_alloc w _).alloc (by simp) _).alloc (by simp; omega) _)
  have t0 := T0.c0
  have t1 := T0.c1
  have t2 := T0.c2
  have t3 := T0.lt
  have u0 := T1.c0
  have u1 := T1.c1
  have u2 := T1.lt
  have v0 := T2.c0
  have v1 := T2.c1
  have v2 := T2.free 0
  have v3 := T2.free 1
  have v4 := T2.lt
  clear T0 T1 T2
  go_enter Try.func32, Try.ntmps32
  go_wp2_with fail
  refine bodyPost_ret (v := .agg #[.int .i64 m, .int .i64 n]) (by simp [results, Try.results32, go_sem, v0, v1, v4]) rfl ⟨rfl, ?_⟩
  exact (BW.out.setCell (p := ⟨w.heap.size + 1 + 1, 0, none⟩) (by simp; omega) _).setCell (p := ⟨w.heap.size + 1 + 1, 1, none⟩) (by simp; omega) _

theorem start_any (a : Int) (ha : I64 a) (w : World) :
    Calls Try.prog 12 #[.int .i64 a] w (Gives (.tuple #[blV (startR a).1 (startR a).2.1 (startR a).2.2.1, .int .i64 (startR a).2.2.2]) w) := by
  obtain ⟨W, hW⟩ : ∃ W, w.alloc (.cells #[.int .i64 0, .int .i64 0, .int .i64 0] 25) = W := ⟨_, rfl⟩
  have T0 : Three W w.heap.size 25 (.int .i64 0) (.int .i64 0) (.int .i64 0) := by rw [← hW]; exact Three.new w _ _ _ _
  have hb : Hid (Below w.heap.size w W) := by rw [← hW]; exact below_alloc w _
  have v0 := T0.c0
  have v1 := T0.c1
  have v5 := T0.c2
  have v2 := T0.free 0
  have v3 := T0.free 1
  have v6 := T0.free 2
  have v4 := T0.lt
  clear T0
  by_cases q : TimeOk a
  · have K := Lib.hid (btime_any a true (by simp [q]) ha)
    have E : startR a = (a, 0, 3000000000000000, 0) := if_pos q
    rw [E]
    clear q ha E
    unfold blV
    go_enter Try.func12, Try.ntmps12
    go_wp2_with (go_at_call 27; (with_reducible refine (K.out _).mono ?_); rintro e w' ⟨rfl, rfl⟩)
    refine bodyPost_ret (v := .tuple #[.agg #[.int .i64 a, .int .i64 0, .int .i64 3000000000000000], .int .i64 0]) (by simp [results, Try.results12, go_sem, v0, v1, v5, v4]) rfl ⟨rfl, ?_⟩
    exact ((hb.out.setCell (p := ⟨w.heap.size, 0, none⟩) (by simp) _).setCell (p := ⟨w.heap.size, 1, none⟩) (by simp) _).setCell (p := ⟨w.heap.size, 2, none⟩) (by simp) _
  · have K := Lib.hid (btime_any a false (by simp [q]) ha)
    have E : startR a = (0, 0, 0, 1) := if_neg q
    rw [E]
    clear q ha E
    unfold blV
    go_enter Try.func12, Try.ntmps12
    go_wp2_with (go_at_call 27; (with_reducible refine (K.out _).mono ?_); rintro e w' ⟨rfl, rfl⟩)
    refine bodyPost_ret (v := .tuple #[.agg #[.int .i64 0, .int .i64 0, .int .i64 0], .int .i64 1]) (by simp [results, Try.results12, go_sem, v0, v1, v5, v4]) rfl ⟨rfl, ?_⟩
    exact ((hb.out.setCell (p := ⟨w.heap.size, 0, none⟩) (by simp) _).setCell (p := ⟨w.heap.size, 1, none⟩) (by simp) _).setCell (p := ⟨w.heap.size, 2, none⟩) (by simp) _

theorem worst_any (l h s : Int) (hs : I64 s) (w : World) :
    Calls Try.prog 20 #[rgV l h, .int .i64 s] w (Gives (.tuple #[.int .i64 (wrsR l h s).1, .int .i64 (wrsR l h s).2]) w) := by
  obtain ⟨q1, hq1⟩ : ∃ q1 : Bool, q1 = decide (IvOk l h) := ⟨_, rfl⟩
  obtain ⟨q2, hq2⟩ : ∃ q2 : Bool, q2 = decide (TimeOk s) := ⟨_, rfl⟩
  have K1 := Lib.hid (gvalid_any l h q1 (by simp [hq1]))
  have K2 := Lib.hid (btime_any s q2 (by simp [hq2]) hs)
  unfold rgV at K1 ⊢
  obtain ⟨W, hW⟩ : ∃ W, w.alloc (.cells #[.int .i64 l, .int .i64 h] 23) = W := ⟨_, rfl⟩
  have T0 : Hid (Two W w.heap.size 23 (.int .i64 l) (.int .i64 h)) := by rw [← hW]; exact Two.new w _ _ _
  have hb : Hid (Below w.heap.size w W) := by rw [← hW]; exact below_alloc w _
  have t0 := T0.out.c0
  have t1 := T0.out.c1
  have t4 := T0.out.lt
  by_cases c : IvOk l h
  · obtain rfl : q1 = true := by simp [hq1, c]
    by_cases d : TimeOk s
    · obtain rfl : q2 = true := by simp [hq2, d]
      have E : Hid (wrsR l h s = (max (s - l) (h - s), 0)) := if_pos ⟨c, d⟩
      obtain ⟨c1, c2, c3⟩ := c
      obtain ⟨d1, d2⟩ := d
      rw [E.out]
      have e1 : wrap64 (s - l) = s - l := by unfold wrap64; omega
      have e2 : wrap64 (h - s) = h - s := by unfold wrap64; omega
      clear hq1 hq2 hs
      obtain ⟨m, hm⟩ : ∃ m, max (s - l) (h - s) = m := ⟨_, rfl⟩
      rw [hm]
      go_enter Try.func20, Try.ntmps20
      go_wp2_with (first
        | (go_at_call 27; (with_reducible refine (K2.out _).mono ?_); rintro e w' ⟨rfl, rfl⟩)
        | (go_at_call 34; (with_reducible refine (K1.out _).mono ?_); rintro e w2 ⟨rfl, b2⟩; have T2 := Lib.hid (T0.out.below b2 t4); have B2 := Lib.hid (below_more hb.out b2); have t0 := T2.out.c0; have t1 := T2.out.c1; have t4 := T2.out.lt; clear b2))
      go_ret2
      exact ⟨rfl, B2.out⟩
    · obtain rfl : q2 = false := by simp [hq2, d]
      have E : Hid (wrsR l h s = (0, 1)) := if_neg (fun x => d x.2)
      rw [E.out]
      clear hq1 hq2 hs c d
      go_enter Try.func20, Try.ntmps20
      go_wp2_with (first
        | (go_at_call 27; (with_reducible refine (K2.out _).mono ?_); rintro e w' ⟨rfl, rfl⟩)
        | (go_at_call 34; (with_reducible refine (K1.out _).mono ?_); rintro e w2 ⟨rfl, b2⟩; have B2 := Lib.hid (below_more hb.out b2); clear b2))
      go_ret2
      exact ⟨rfl, B2.out⟩
  · obtain rfl : q1 = false := by simp [hq1, c]
    have E : Hid (wrsR l h s = (0, 1)) := if_neg (fun x => c x.1)
    rw [E.out]
    clear hq1 hq2 hs c
    go_enter Try.func20, Try.ntmps20
    go_wp2_with (first
      | (go_at_call 27; (with_reducible refine (K2.out _).mono ?_); rintro e w' ⟨rfl, rfl⟩)
      | (go_at_call 34; (with_reducible refine (K1.out _).mono ?_); rintro e w2 ⟨rfl, b2⟩; have B2 := Lib.hid (below_more hb.out b2); clear b2))
    go_ret2
    exact ⟨rfl, B2.out⟩
end Go.Proofs.Ytpfcjffpomdhbaa
