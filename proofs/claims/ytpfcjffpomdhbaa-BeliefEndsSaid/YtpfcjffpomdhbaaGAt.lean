/- Layer 8: package belief's counted, At and Advance over the landed code (gen/gen_prog.py writes this). -/
import Derived.Test.YtpfcjffpomdhbaaGSmall
namespace Go.Proofs.Ytpfcjffpomdhbaa
open Go.RowKit Go
set_option linter.unusedVariables false
set_option linter.unusedSimpArgs false

set_option maxHeartbeats 4000000 in
theorem counted_yes (p l h r c x y m n : Int) (w : World)
    (EL : Hid (∀ w, Calls Try.prog 41 #[.int .i64 r, .int .i64 c] w (Gives (.tuple #[.agg #[.int .i64 x, .int .i64 y], .int .i64 0]) w)))
    (LT : Hid (∀ w, Calls Try.prog 32 #[.agg #[.int .i64 p, .int .i64 l, .int .i64 h], .agg #[.int .i64 x, .int .i64 y]] w (Gives (.agg #[.int .i64 m, .int .i64 n]) w))) :
    Calls Try.prog 31 #[.int .i64 r, .int .i64 c, .func (.func 32) #[.agg #[.int .i64 p, .int .i64 l, .int .i64 h]] #[]] w (Gives (.tuple #[.agg #[.int .i64 m, .int .i64 n], .int .i64 0]) w) := by
  have E : Hid True := trivial
  obtain ⟨W, hW⟩ : ∃ W, (w.alloc (.cells #[.int .i64 0, .int .i64 0] 23)) = W := ⟨_, rfl⟩
  have R : Hid (Two W (w.heap.size) 23 (.int .i64 0) (.int .i64 0)) := by
    rw [← hW]
    have k := Two.new w 23 (.int .i64 0) (.int .i64 0)
    exact k
  have BB : Hid (Below w.heap.size w W) := by rw [← hW]; exact below_alloc w _
  have r_0 := R.out.c0
  have r_1 := R.out.c1
  have r_l := R.out.lt
  have r_f0 := R.out.free 0
  have r_f1 := R.out.free 1
  go_enter Try.func31, Try.ntmps31
  go_wp2_with (first
    | (go_at_call 41; (with_reducible refine (EL.out _).mono ?_); rintro e w1 ⟨rfl, b1⟩; have NErp := Lib.hid (Nat.ne_of_lt (R.out.below b1 R.out.lt).lt); replace R := Lib.hid ((R.out.below b1 R.out.lt).alloc (.cells #[.int .i64 x, .int .i64 y] 41)); have P := Lib.hid (Two.new w1 41 (.int .i64 x) (.int .i64 y)); replace BB := Lib.hid (below_more BB.out b1); have Gp := Lib.hid BB.out.size; replace BB := Lib.hid (BB.out.alloc BB.out.size (.cells #[.int .i64 x, .int .i64 y] 41)); replace r_0 := R.out.c0; replace r_1 := R.out.c1; replace r_l := R.out.lt; replace r_f0 := R.out.free 0; replace r_f1 := R.out.free 1; replace p_0 := P.out.c0; replace p_1 := P.out.c1; replace p_l := P.out.lt; clear b1 EL)
    | (go_at_call 32; (with_reducible refine (LT.out _).mono ?_); rintro e w2 ⟨rfl, b2⟩; replace R := Lib.hid (R.out.below b2 R.out.lt); replace P := Lib.hid (P.out.below b2 P.out.lt); replace BB := Lib.hid (below_more BB.out b2); replace r_0 := R.out.c0; replace r_1 := R.out.c1; replace r_l := R.out.lt; replace r_f0 := R.out.free 0; replace r_f1 := R.out.free 1; replace p_0 := P.out.c0; replace p_1 := P.out.c1; replace p_l := P.out.lt; clear b2 LT))
  refine bodyPost_ret (v := .tuple #[.agg #[.int .i64 m, .int .i64 n], .int .i64 0]) (by simp [results, Try.results31, go_sem, r_0, r_1, r_l]) rfl ⟨rfl, ?_⟩
  exact ((BB.out.setCell (p := ⟨w.heap.size, 0, none⟩) (by show w.heap.size ≤ w.heap.size; omega) _).setCell (p := ⟨w.heap.size, 1, none⟩) (by show w.heap.size ≤ w.heap.size; omega) _)
set_option maxHeartbeats 4000000 in
theorem counted_no (p l h r c x y er : Int) (w : World) (he : er ≠ 0)
    (EL : Hid (∀ w, Calls Try.prog 41 #[.int .i64 r, .int .i64 c] w (Gives (.tuple #[.agg #[.int .i64 x, .int .i64 y], .int .i64 er]) w))) :
    Calls Try.prog 31 #[.int .i64 r, .int .i64 c, .func (.func 32) #[.agg #[.int .i64 p, .int .i64 l, .int .i64 h]] #[]] w (Gives (.tuple #[.agg #[.int .i64 0, .int .i64 0], .int .i64 3]) w) := by
  have e1 : (er != 0) = true := by simp; omega
  have e2 : (er == 0) = false := by simp; omega
  clear he
  obtain ⟨W, hW⟩ : ∃ W, (w.alloc (.cells #[.int .i64 0, .int .i64 0] 23)) = W := ⟨_, rfl⟩
  have R : Hid (Two W (w.heap.size) 23 (.int .i64 0) (.int .i64 0)) := by
    rw [← hW]
    have k := Two.new w 23 (.int .i64 0) (.int .i64 0)
    exact k
  have BB : Hid (Below w.heap.size w W) := by rw [← hW]; exact below_alloc w _
  have r_0 := R.out.c0
  have r_1 := R.out.c1
  have r_l := R.out.lt
  have r_f0 := R.out.free 0
  have r_f1 := R.out.free 1
  go_enter Try.func31, Try.ntmps31
  go_wp2_with (go_at_call 41; (with_reducible refine (EL.out _).mono ?_); rintro e w1 ⟨rfl, b1⟩; have NErp := Lib.hid (Nat.ne_of_lt (R.out.below b1 R.out.lt).lt); replace R := Lib.hid ((R.out.below b1 R.out.lt).alloc (.cells #[.int .i64 x, .int .i64 y] 41)); have P := Lib.hid (Two.new w1 41 (.int .i64 x) (.int .i64 y)); replace BB := Lib.hid (below_more BB.out b1); have Gp := Lib.hid BB.out.size; replace BB := Lib.hid (BB.out.alloc BB.out.size (.cells #[.int .i64 x, .int .i64 y] 41)); replace r_0 := R.out.c0; replace r_1 := R.out.c1; replace r_l := R.out.lt; replace r_f0 := R.out.free 0; replace r_f1 := R.out.free 1; replace p_0 := P.out.c0; replace p_1 := P.out.c1; replace p_l := P.out.lt; clear b1 EL)
  refine bodyPost_ret (v := .tuple #[.agg #[.int .i64 0, .int .i64 0], .int .i64 3]) (by simp [results, Try.results31, go_sem, r_0, r_1, r_l]) rfl ⟨rfl, ?_⟩
  exact ((BB.out.setCell (p := ⟨w.heap.size, 0, none⟩) (by show w.heap.size ≤ w.heap.size; omega) _).setCell (p := ⟨w.heap.size, 1, none⟩) (by show w.heap.size ≤ w.heap.size; omega) _)
set_option maxHeartbeats 4000000 in
theorem gat_bad (p l h r a : Int) (hno : ¬ (BOk p l h ∧ RateOk r ∧ TimeOk a)) (hp : I64 p) (hr : I64 r) (ha : I64 a) (w : World) :
    Calls Try.prog 14 #[blV p l h, .int .i64 r, .int .i64 a] w (Gives (.tuple #[rgV (atR p l h r a).1 (atR p l h r a).2.1, .int .i64 (atR p l h r a).2.2]) w) := by
  have E : Hid (atR p l h r a = (0, 0, 1)) := if_neg hno
  obtain ⟨q1, hq1⟩ : ∃ q1 : Bool, q1 = decide (BOk p l h) := ⟨_, rfl⟩
  obtain ⟨q2, hq2⟩ : ∃ q2 : Bool, q2 = decide (RateOk r) := ⟨_, rfl⟩
  obtain ⟨q3, hq3⟩ : ∃ q3 : Bool, q3 = decide (TimeOk a) := ⟨_, rfl⟩
  have VB := Lib.hid (held_any p l h q1 (by simp [hq1]) hp)
  have RT := Lib.hid (brate_any r q2 (by simp [hq2]) hr)
  have TM := Lib.hid (btime_any a q3 (by simp [hq3]) ha)
  have hq : q1 = false ∨ q2 = false ∨ q3 = false := by
    rw [hq1, hq2, hq3]
    simp only [decide_eq_false_iff_not]
    by_cases a1 : BOk p l h
    · by_cases a2 : RateOk r
      · exact .inr (.inr (fun a3 => hno ⟨a1, a2, a3⟩))
      · exact .inr (.inl a2)
    · exact .inl a1
  clear hq1 hq2 hq3 hno hp hr ha
  unfold blV at VB ⊢
  unfold rgV
  cases q1 with
  | false =>
    clear hq
    obtain ⟨W, hW⟩ : ∃ W, (((w.alloc (.cells #[.int .i64 p, .int .i64 l, .int .i64 h] 25)).alloc (.cells #[.int .i64 0, .int .i64 0] 23)).alloc (.cells #[.int .i64 p, .int .i64 l, .int .i64 h] 58)) = W := ⟨_, rfl⟩
    have B : Hid (Three W (w.heap.size) 25 (.int .i64 p) (.int .i64 l) (.int .i64 h)) := by
      rw [← hW]
      have k := Three.new w 25 (.int .i64 p) (.int .i64 l) (.int .i64 h)
      exact ((k.alloc _).alloc _)
    have R : Hid (Two W (w.heap.size + 1) 23 (.int .i64 0) (.int .i64 0)) := by
      rw [← hW]
      have k := Two.new (w.alloc (.cells #[.int .i64 p, .int .i64 l, .int .i64 h] 25)) 23 (.int .i64 0) (.int .i64 0)
      rw [show (w.alloc (.cells #[.int .i64 p, .int .i64 l, .int .i64 h] 25)).heap.size = w.heap.size + 1 by simp] at k
      exact k.alloc _
    have H : Hid (Three W (w.heap.size + 1 + 1) 58 (.int .i64 p) (.int .i64 l) (.int .i64 h)) := by
      rw [← hW]
      have k := Three.new ((w.alloc (.cells #[.int .i64 p, .int .i64 l, .int .i64 h] 25)).alloc (.cells #[.int .i64 0, .int .i64 0] 23)) 58 (.int .i64 p) (.int .i64 l) (.int .i64 h)
      rw [show ((w.alloc (.cells #[.int .i64 p, .int .i64 l, .int .i64 h] 25)).alloc (.cells #[.int .i64 0, .int .i64 0] 23)).heap.size = w.heap.size + 1 + 1 by simp] at k
      exact k
    have BB : Hid (Below w.heap.size w W) := by rw [← hW]; exact ((below_alloc w _).alloc (by simp) _).alloc (by simp; omega) _
    have b_0 := B.out.c0
    have b_1 := B.out.c1
    have b_2 := B.out.c2
    have b_l := B.out.lt
    have r_0 := R.out.c0
    have r_1 := R.out.c1
    have r_l := R.out.lt
    have r_f0 := R.out.free 0
    have r_f1 := R.out.free 1
    have h_0 := H.out.c0
    have h_1 := H.out.c1
    have h_2 := H.out.c2
    have h_l := H.out.lt
    go_enter Try.func14, Try.ntmps14
    go_wp2_with (first
      | (go_at_call 29; (with_reducible refine (VB.out _).mono ?_); rintro e w1 ⟨rfl, b1⟩; replace B := Lib.hid (B.out.below b1 B.out.lt); replace R := Lib.hid (R.out.below b1 R.out.lt); replace H := Lib.hid (H.out.below b1 H.out.lt); replace BB := Lib.hid (below_more BB.out b1); replace b_0 := B.out.c0; replace b_1 := B.out.c1; replace b_2 := B.out.c2; replace b_l := B.out.lt; replace r_0 := R.out.c0; replace r_1 := R.out.c1; replace r_l := R.out.lt; replace r_f0 := R.out.free 0; replace r_f1 := R.out.free 1; replace h_0 := H.out.c0; replace h_1 := H.out.c1; replace h_2 := H.out.c2; replace h_l := H.out.lt; clear b1 VB)
      | (go_at_call 30; (with_reducible refine (RT.out _).mono ?_); rintro e w' ⟨rfl, rfl⟩; clear RT)
      | (go_at_call 27; (with_reducible refine (TM.out _).mono ?_); rintro e w' ⟨rfl, rfl⟩; clear TM))
    refine bodyPost_ret (v := .tuple #[.agg #[.int .i64 0, .int .i64 0], .int .i64 1]) (by simp [results, Try.results14, go_sem, r_0, r_1, r_l]) rfl ⟨by rw [E.out], ?_⟩
    exact ((BB.out.setCell (p := ⟨w.heap.size + 1, 0, none⟩) (by show w.heap.size ≤ w.heap.size + 1; omega) _).setCell (p := ⟨w.heap.size + 1, 1, none⟩) (by show w.heap.size ≤ w.heap.size + 1; omega) _)
  | true =>
    cases q2 with
    | false =>
      clear hq
      obtain ⟨W, hW⟩ : ∃ W, (((w.alloc (.cells #[.int .i64 p, .int .i64 l, .int .i64 h] 25)).alloc (.cells #[.int .i64 0, .int .i64 0] 23)).alloc (.cells #[.int .i64 p, .int .i64 l, .int .i64 h] 58)) = W := ⟨_, rfl⟩
      have B : Hid (Three W (w.heap.size) 25 (.int .i64 p) (.int .i64 l) (.int .i64 h)) := by
        rw [← hW]
        have k := Three.new w 25 (.int .i64 p) (.int .i64 l) (.int .i64 h)
        exact ((k.alloc _).alloc _)
      have R : Hid (Two W (w.heap.size + 1) 23 (.int .i64 0) (.int .i64 0)) := by
        rw [← hW]
        have k := Two.new (w.alloc (.cells #[.int .i64 p, .int .i64 l, .int .i64 h] 25)) 23 (.int .i64 0) (.int .i64 0)
        rw [show (w.alloc (.cells #[.int .i64 p, .int .i64 l, .int .i64 h] 25)).heap.size = w.heap.size + 1 by simp] at k
        exact k.alloc _
      have H : Hid (Three W (w.heap.size + 1 + 1) 58 (.int .i64 p) (.int .i64 l) (.int .i64 h)) := by
        rw [← hW]
        have k := Three.new ((w.alloc (.cells #[.int .i64 p, .int .i64 l, .int .i64 h] 25)).alloc (.cells #[.int .i64 0, .int .i64 0] 23)) 58 (.int .i64 p) (.int .i64 l) (.int .i64 h)
        rw [show ((w.alloc (.cells #[.int .i64 p, .int .i64 l, .int .i64 h] 25)).alloc (.cells #[.int .i64 0, .int .i64 0] 23)).heap.size = w.heap.size + 1 + 1 by simp] at k
        exact k
      have BB : Hid (Below w.heap.size w W) := by rw [← hW]; exact ((below_alloc w _).alloc (by simp) _).alloc (by simp; omega) _
      have b_0 := B.out.c0
      have b_1 := B.out.c1
      have b_2 := B.out.c2
      have b_l := B.out.lt
      have r_0 := R.out.c0
      have r_1 := R.out.c1
      have r_l := R.out.lt
      have r_f0 := R.out.free 0
      have r_f1 := R.out.free 1
      have h_0 := H.out.c0
      have h_1 := H.out.c1
      have h_2 := H.out.c2
      have h_l := H.out.lt
      go_enter Try.func14, Try.ntmps14
      go_wp2_with (first
        | (go_at_call 29; (with_reducible refine (VB.out _).mono ?_); rintro e w1 ⟨rfl, b1⟩; replace B := Lib.hid (B.out.below b1 B.out.lt); replace R := Lib.hid (R.out.below b1 R.out.lt); replace H := Lib.hid (H.out.below b1 H.out.lt); replace BB := Lib.hid (below_more BB.out b1); replace b_0 := B.out.c0; replace b_1 := B.out.c1; replace b_2 := B.out.c2; replace b_l := B.out.lt; replace r_0 := R.out.c0; replace r_1 := R.out.c1; replace r_l := R.out.lt; replace r_f0 := R.out.free 0; replace r_f1 := R.out.free 1; replace h_0 := H.out.c0; replace h_1 := H.out.c1; replace h_2 := H.out.c2; replace h_l := H.out.lt; clear b1 VB)
        | (go_at_call 30; (with_reducible refine (RT.out _).mono ?_); rintro e w' ⟨rfl, rfl⟩; clear RT)
        | (go_at_call 27; (with_reducible refine (TM.out _).mono ?_); rintro e w' ⟨rfl, rfl⟩; clear TM))
      refine bodyPost_ret (v := .tuple #[.agg #[.int .i64 0, .int .i64 0], .int .i64 1]) (by simp [results, Try.results14, go_sem, r_0, r_1, r_l]) rfl ⟨by rw [E.out], ?_⟩
      exact ((BB.out.setCell (p := ⟨w.heap.size + 1, 0, none⟩) (by show w.heap.size ≤ w.heap.size + 1; omega) _).setCell (p := ⟨w.heap.size + 1, 1, none⟩) (by show w.heap.size ≤ w.heap.size + 1; omega) _)
    | true =>
      obtain rfl : q3 = false := by simpa using hq
      clear hq
      obtain ⟨W, hW⟩ : ∃ W, (((w.alloc (.cells #[.int .i64 p, .int .i64 l, .int .i64 h] 25)).alloc (.cells #[.int .i64 0, .int .i64 0] 23)).alloc (.cells #[.int .i64 p, .int .i64 l, .int .i64 h] 58)) = W := ⟨_, rfl⟩
      have B : Hid (Three W (w.heap.size) 25 (.int .i64 p) (.int .i64 l) (.int .i64 h)) := by
        rw [← hW]
        have k := Three.new w 25 (.int .i64 p) (.int .i64 l) (.int .i64 h)
        exact ((k.alloc _).alloc _)
      have R : Hid (Two W (w.heap.size + 1) 23 (.int .i64 0) (.int .i64 0)) := by
        rw [← hW]
        have k := Two.new (w.alloc (.cells #[.int .i64 p, .int .i64 l, .int .i64 h] 25)) 23 (.int .i64 0) (.int .i64 0)
        rw [show (w.alloc (.cells #[.int .i64 p, .int .i64 l, .int .i64 h] 25)).heap.size = w.heap.size + 1 by simp] at k
        exact k.alloc _
      have H : Hid (Three W (w.heap.size + 1 + 1) 58 (.int .i64 p) (.int .i64 l) (.int .i64 h)) := by
        rw [← hW]
        have k := Three.new ((w.alloc (.cells #[.int .i64 p, .int .i64 l, .int .i64 h] 25)).alloc (.cells #[.int .i64 0, .int .i64 0] 23)) 58 (.int .i64 p) (.int .i64 l) (.int .i64 h)
        rw [show ((w.alloc (.cells #[.int .i64 p, .int .i64 l, .int .i64 h] 25)).alloc (.cells #[.int .i64 0, .int .i64 0] 23)).heap.size = w.heap.size + 1 + 1 by simp] at k
        exact k
      have BB : Hid (Below w.heap.size w W) := by rw [← hW]; exact ((below_alloc w _).alloc (by simp) _).alloc (by simp; omega) _
      have b_0 := B.out.c0
      have b_1 := B.out.c1
      have b_2 := B.out.c2
      have b_l := B.out.lt
      have r_0 := R.out.c0
      have r_1 := R.out.c1
      have r_l := R.out.lt
      have r_f0 := R.out.free 0
      have r_f1 := R.out.free 1
      have h_0 := H.out.c0
      have h_1 := H.out.c1
      have h_2 := H.out.c2
      have h_l := H.out.lt
      go_enter Try.func14, Try.ntmps14
      go_wp2_with (first
        | (go_at_call 29; (with_reducible refine (VB.out _).mono ?_); rintro e w1 ⟨rfl, b1⟩; replace B := Lib.hid (B.out.below b1 B.out.lt); replace R := Lib.hid (R.out.below b1 R.out.lt); replace H := Lib.hid (H.out.below b1 H.out.lt); replace BB := Lib.hid (below_more BB.out b1); replace b_0 := B.out.c0; replace b_1 := B.out.c1; replace b_2 := B.out.c2; replace b_l := B.out.lt; replace r_0 := R.out.c0; replace r_1 := R.out.c1; replace r_l := R.out.lt; replace r_f0 := R.out.free 0; replace r_f1 := R.out.free 1; replace h_0 := H.out.c0; replace h_1 := H.out.c1; replace h_2 := H.out.c2; replace h_l := H.out.lt; clear b1 VB)
        | (go_at_call 30; (with_reducible refine (RT.out _).mono ?_); rintro e w' ⟨rfl, rfl⟩; clear RT)
        | (go_at_call 27; (with_reducible refine (TM.out _).mono ?_); rintro e w' ⟨rfl, rfl⟩; clear TM))
      refine bodyPost_ret (v := .tuple #[.agg #[.int .i64 0, .int .i64 0], .int .i64 1]) (by simp [results, Try.results14, go_sem, r_0, r_1, r_l]) rfl ⟨by rw [E.out], ?_⟩
      exact ((BB.out.setCell (p := ⟨w.heap.size + 1, 0, none⟩) (by show w.heap.size ≤ w.heap.size + 1; omega) _).setCell (p := ⟨w.heap.size + 1, 1, none⟩) (by show w.heap.size ≤ w.heap.size + 1; omega) _)
set_option maxHeartbeats 4000000 in
theorem gat_good (p l h r a : Int) (hb : BOk p l h) (hr : RateOk r) (ht : TimeOk a) (hp : I64 p) (ha : I64 a) (w : World) :
    Calls Try.prog 14 #[blV p l h, .int .i64 r, .int .i64 a] w (Gives (.tuple #[rgV (atR p l h r a).1 (atR p l h r a).2.1, .int .i64 (atR p l h r a).2.2]) w) := by
  have E : Hid (atR p l h r a = if a < p then (0, 0, 30) else if StretchOk (a - p) then (min 3000000000000000 (l + elLo r (a - p)), min 3000000000000000 (h + elHi r (a - p)), 0) else (0, 0, 3)) := if_pos ⟨hb, hr, ht⟩
  have VB := Lib.hid (held_any p l h true ⟨fun _ => hb, fun _ => rfl⟩ hp)
  have TM := Lib.hid (btime_any a true ⟨fun _ => ht, fun _ => rfl⟩ ha)
  have RT := Lib.hid (brate_any r true ⟨fun _ => hr, fun _ => rfl⟩ (by obtain ⟨a1, a2⟩ := hr; exact ⟨by omega, by omega⟩))
  obtain ⟨⟨g1, g2⟩, g3, g4, g5⟩ := hb
  obtain ⟨g6, g7⟩ := ht
  have HRT := Lib.hid hr
  obtain ⟨r1, r2⟩ := hr
  by_cases c : a < p
  · have E := Lib.hid (E.out.trans (if_pos c))
    have d3 : decide (a < p) = true := by simp; omega
    clear c
    unfold blV at VB ⊢
    unfold rgV
    obtain ⟨W, hW⟩ : ∃ W, (((w.alloc (.cells #[.int .i64 p, .int .i64 l, .int .i64 h] 25)).alloc (.cells #[.int .i64 0, .int .i64 0] 23)).alloc (.cells #[.int .i64 p, .int .i64 l, .int .i64 h] 58)) = W := ⟨_, rfl⟩
    have B : Hid (Three W (w.heap.size) 25 (.int .i64 p) (.int .i64 l) (.int .i64 h)) := by
      rw [← hW]
      have k := Three.new w 25 (.int .i64 p) (.int .i64 l) (.int .i64 h)
      exact ((k.alloc _).alloc _)
    have R : Hid (Two W (w.heap.size + 1) 23 (.int .i64 0) (.int .i64 0)) := by
      rw [← hW]
      have k := Two.new (w.alloc (.cells #[.int .i64 p, .int .i64 l, .int .i64 h] 25)) 23 (.int .i64 0) (.int .i64 0)
      rw [show (w.alloc (.cells #[.int .i64 p, .int .i64 l, .int .i64 h] 25)).heap.size = w.heap.size + 1 by simp] at k
      exact k.alloc _
    have H : Hid (Three W (w.heap.size + 1 + 1) 58 (.int .i64 p) (.int .i64 l) (.int .i64 h)) := by
      rw [← hW]
      have k := Three.new ((w.alloc (.cells #[.int .i64 p, .int .i64 l, .int .i64 h] 25)).alloc (.cells #[.int .i64 0, .int .i64 0] 23)) 58 (.int .i64 p) (.int .i64 l) (.int .i64 h)
      rw [show ((w.alloc (.cells #[.int .i64 p, .int .i64 l, .int .i64 h] 25)).alloc (.cells #[.int .i64 0, .int .i64 0] 23)).heap.size = w.heap.size + 1 + 1 by simp] at k
      exact k
    have BB : Hid (Below w.heap.size w W) := by rw [← hW]; exact ((below_alloc w _).alloc (by simp) _).alloc (by simp; omega) _
    have b_0 := B.out.c0
    have b_1 := B.out.c1
    have b_2 := B.out.c2
    have b_l := B.out.lt
    have r_0 := R.out.c0
    have r_1 := R.out.c1
    have r_l := R.out.lt
    have r_f0 := R.out.free 0
    have r_f1 := R.out.free 1
    have h_0 := H.out.c0
    have h_1 := H.out.c1
    have h_2 := H.out.c2
    have h_l := H.out.lt
    go_enter Try.func14, Try.ntmps14
    go_wp2_with (first
      | (go_at_call 29; (with_reducible refine (VB.out _).mono ?_); rintro e w1 ⟨rfl, b1⟩; replace B := Lib.hid (B.out.below b1 B.out.lt); replace R := Lib.hid (R.out.below b1 R.out.lt); replace H := Lib.hid (H.out.below b1 H.out.lt); replace BB := Lib.hid (below_more BB.out b1); replace b_0 := B.out.c0; replace b_1 := B.out.c1; replace b_2 := B.out.c2; replace b_l := B.out.lt; replace r_0 := R.out.c0; replace r_1 := R.out.c1; replace r_l := R.out.lt; replace r_f0 := R.out.free 0; replace r_f1 := R.out.free 1; replace h_0 := H.out.c0; replace h_1 := H.out.c1; replace h_2 := H.out.c2; replace h_l := H.out.lt; clear b1 VB)
      | (go_at_call 30; (with_reducible refine (RT.out _).mono ?_); rintro e w' ⟨rfl, rfl⟩; clear RT)
      | (go_at_call 27; (with_reducible refine (TM.out _).mono ?_); rintro e w' ⟨rfl, rfl⟩; clear TM))
    refine bodyPost_ret (v := .tuple #[.agg #[.int .i64 0, .int .i64 0], .int .i64 30]) (by simp [results, Try.results14, go_sem, r_0, r_1, r_l]) rfl ⟨by rw [E.out], ?_⟩
    exact ((BB.out.setCell (p := ⟨w.heap.size + 1, 0, none⟩) (by show w.heap.size ≤ w.heap.size + 1; omega) _).setCell (p := ⟨w.heap.size + 1, 1, none⟩) (by show w.heap.size ≤ w.heap.size + 1; omega) _)
  · have E := Lib.hid (E.out.trans (if_neg c))
    have d3 : decide (a < p) = false := by simp; omega
    obtain ⟨n, hn⟩ : ∃ n, a - p = n := ⟨_, rfl⟩
    rw [hn] at E
    have n1 : 0 ≤ n := by omega
    have n2 : n ≤ 3000000000000000 := by omega
    have en : wrap64 (a - p) = n := by unfold wrap64; omega
    by_cases q : StretchOk n
    · have E := Lib.hid (E.out.trans (if_pos q))
      have EL := Lib.hid (el_yes r n HRT.out q)
      have z1 := elLo_nonneg HRT.out.1 q.1
      have z2 := elLo_up HRT.out.1 q.1
      have z3 := elHi_nonneg HRT.out.1 HRT.out.2 q.1
      have z4 := elHi_le HRT.out.1 HRT.out.2 q.1
      have q2 := q.2
      generalize elLo r n = x at EL E z1 z2
      generalize elHi r n = y at EL E z3 z4
      have LT := Lib.hid (later_any p l h x y ⟨by omega, by omega⟩ ⟨by omega, by omega⟩)
      generalize min 3000000000000000 (l + x) = u at LT E
      generalize min 3000000000000000 (h + y) = v at LT E
      have CT := Lib.hid (fun w => counted_yes p l h r n x y u v w EL LT)
      clear q c en EL LT z1 z2 z3 z4 q2
      unfold blV at VB ⊢
      unfold rgV
      obtain ⟨W, hW⟩ : ∃ W, (((w.alloc (.cells #[.int .i64 p, .int .i64 l, .int .i64 h] 25)).alloc (.cells #[.int .i64 0, .int .i64 0] 23)).alloc (.cells #[.int .i64 p, .int .i64 l, .int .i64 h] 58)) = W := ⟨_, rfl⟩
      have B : Hid (Three W (w.heap.size) 25 (.int .i64 p) (.int .i64 l) (.int .i64 h)) := by
        rw [← hW]
        have k := Three.new w 25 (.int .i64 p) (.int .i64 l) (.int .i64 h)
        exact ((k.alloc _).alloc _)
      have R : Hid (Two W (w.heap.size + 1) 23 (.int .i64 0) (.int .i64 0)) := by
        rw [← hW]
        have k := Two.new (w.alloc (.cells #[.int .i64 p, .int .i64 l, .int .i64 h] 25)) 23 (.int .i64 0) (.int .i64 0)
        rw [show (w.alloc (.cells #[.int .i64 p, .int .i64 l, .int .i64 h] 25)).heap.size = w.heap.size + 1 by simp] at k
        exact k.alloc _
      have H : Hid (Three W (w.heap.size + 1 + 1) 58 (.int .i64 p) (.int .i64 l) (.int .i64 h)) := by
        rw [← hW]
        have k := Three.new ((w.alloc (.cells #[.int .i64 p, .int .i64 l, .int .i64 h] 25)).alloc (.cells #[.int .i64 0, .int .i64 0] 23)) 58 (.int .i64 p) (.int .i64 l) (.int .i64 h)
        rw [show ((w.alloc (.cells #[.int .i64 p, .int .i64 l, .int .i64 h] 25)).alloc (.cells #[.int .i64 0, .int .i64 0] 23)).heap.size = w.heap.size + 1 + 1 by simp] at k
        exact k
      have BB : Hid (Below w.heap.size w W) := by rw [← hW]; exact ((below_alloc w _).alloc (by simp) _).alloc (by simp; omega) _
      have b_0 := B.out.c0
      have b_1 := B.out.c1
      have b_2 := B.out.c2
      have b_l := B.out.lt
      have r_0 := R.out.c0
      have r_1 := R.out.c1
      have r_l := R.out.lt
      have r_f0 := R.out.free 0
      have r_f1 := R.out.free 1
      have h_0 := H.out.c0
      have h_1 := H.out.c1
      have h_2 := H.out.c2
      have h_l := H.out.lt
      go_enter Try.func14, Try.ntmps14
      go_wp2_with (first
        | (go_at_call 29; (with_reducible refine (VB.out _).mono ?_); rintro e w1 ⟨rfl, b1⟩; replace B := Lib.hid (B.out.below b1 B.out.lt); replace R := Lib.hid (R.out.below b1 R.out.lt); replace H := Lib.hid (H.out.below b1 H.out.lt); replace BB := Lib.hid (below_more BB.out b1); replace b_0 := B.out.c0; replace b_1 := B.out.c1; replace b_2 := B.out.c2; replace b_l := B.out.lt; replace r_0 := R.out.c0; replace r_1 := R.out.c1; replace r_l := R.out.lt; replace r_f0 := R.out.free 0; replace r_f1 := R.out.free 1; replace h_0 := H.out.c0; replace h_1 := H.out.c1; replace h_2 := H.out.c2; replace h_l := H.out.lt; clear b1 VB)
        | (go_at_call 30; (with_reducible refine (RT.out _).mono ?_); rintro e w' ⟨rfl, rfl⟩; clear RT)
        | (go_at_call 27; (with_reducible refine (TM.out _).mono ?_); rintro e w' ⟨rfl, rfl⟩; clear TM)
        | (go_at_call 31; (with_reducible refine (CT.out _).mono ?_); rintro e w2 ⟨rfl, b2⟩; replace B := Lib.hid (B.out.below b2 B.out.lt); replace R := Lib.hid (R.out.below b2 R.out.lt); replace H := Lib.hid (H.out.below b2 H.out.lt); replace BB := Lib.hid (below_more BB.out b2); replace b_0 := B.out.c0; replace b_1 := B.out.c1; replace b_2 := B.out.c2; replace b_l := B.out.lt; replace r_0 := R.out.c0; replace r_1 := R.out.c1; replace r_l := R.out.lt; replace r_f0 := R.out.free 0; replace r_f1 := R.out.free 1; replace h_0 := H.out.c0; replace h_1 := H.out.c1; replace h_2 := H.out.c2; replace h_l := H.out.lt; clear b2 CT))
      refine bodyPost_ret (v := .tuple #[.agg #[.int .i64 u, .int .i64 v], .int .i64 0]) (by simp [results, Try.results14, go_sem, r_0, r_1, r_l]) rfl ⟨by rw [E.out], ?_⟩
      exact ((BB.out.setCell (p := ⟨w.heap.size + 1, 0, none⟩) (by show w.heap.size ≤ w.heap.size + 1; omega) _).setCell (p := ⟨w.heap.size + 1, 1, none⟩) (by show w.heap.size ≤ w.heap.size + 1; omega) _)
    · have E := Lib.hid (E.out.trans (if_neg q))
      have CT := Lib.hid (fun w => counted_no p l h r n 0 0 1 w (by omega) (fun w => by
        have := elapsed_any r n ⟨by omega, by omega⟩ ⟨by omega, by omega⟩ w
        rwa [show elR r n = (0, 0, 1) from if_neg (fun z => q z.2)] at this))
      clear q c en
      unfold blV at VB ⊢
      unfold rgV
      obtain ⟨W, hW⟩ : ∃ W, (((w.alloc (.cells #[.int .i64 p, .int .i64 l, .int .i64 h] 25)).alloc (.cells #[.int .i64 0, .int .i64 0] 23)).alloc (.cells #[.int .i64 p, .int .i64 l, .int .i64 h] 58)) = W := ⟨_, rfl⟩
      have B : Hid (Three W (w.heap.size) 25 (.int .i64 p) (.int .i64 l) (.int .i64 h)) := by
        rw [← hW]
        have k := Three.new w 25 (.int .i64 p) (.int .i64 l) (.int .i64 h)
        exact ((k.alloc _).alloc _)
      have R : Hid (Two W (w.heap.size + 1) 23 (.int .i64 0) (.int .i64 0)) := by
        rw [← hW]
        have k := Two.new (w.alloc (.cells #[.int .i64 p, .int .i64 l, .int .i64 h] 25)) 23 (.int .i64 0) (.int .i64 0)
        rw [show (w.alloc (.cells #[.int .i64 p, .int .i64 l, .int .i64 h] 25)).heap.size = w.heap.size + 1 by simp] at k
        exact k.alloc _
      have H : Hid (Three W (w.heap.size + 1 + 1) 58 (.int .i64 p) (.int .i64 l) (.int .i64 h)) := by
        rw [← hW]
        have k := Three.new ((w.alloc (.cells #[.int .i64 p, .int .i64 l, .int .i64 h] 25)).alloc (.cells #[.int .i64 0, .int .i64 0] 23)) 58 (.int .i64 p) (.int .i64 l) (.int .i64 h)
        rw [show ((w.alloc (.cells #[.int .i64 p, .int .i64 l, .int .i64 h] 25)).alloc (.cells #[.int .i64 0, .int .i64 0] 23)).heap.size = w.heap.size + 1 + 1 by simp] at k
        exact k
      have BB : Hid (Below w.heap.size w W) := by rw [← hW]; exact ((below_alloc w _).alloc (by simp) _).alloc (by simp; omega) _
      have b_0 := B.out.c0
      have b_1 := B.out.c1
      have b_2 := B.out.c2
      have b_l := B.out.lt
      have r_0 := R.out.c0
      have r_1 := R.out.c1
      have r_l := R.out.lt
      have r_f0 := R.out.free 0
      have r_f1 := R.out.free 1
      have h_0 := H.out.c0
      have h_1 := H.out.c1
      have h_2 := H.out.c2
      have h_l := H.out.lt
      go_enter Try.func14, Try.ntmps14
      go_wp2_with (first
        | (go_at_call 29; (with_reducible refine (VB.out _).mono ?_); rintro e w1 ⟨rfl, b1⟩; replace B := Lib.hid (B.out.below b1 B.out.lt); replace R := Lib.hid (R.out.below b1 R.out.lt); replace H := Lib.hid (H.out.below b1 H.out.lt); replace BB := Lib.hid (below_more BB.out b1); replace b_0 := B.out.c0; replace b_1 := B.out.c1; replace b_2 := B.out.c2; replace b_l := B.out.lt; replace r_0 := R.out.c0; replace r_1 := R.out.c1; replace r_l := R.out.lt; replace r_f0 := R.out.free 0; replace r_f1 := R.out.free 1; replace h_0 := H.out.c0; replace h_1 := H.out.c1; replace h_2 := H.out.c2; replace h_l := H.out.lt; clear b1 VB)
        | (go_at_call 30; (with_reducible refine (RT.out _).mono ?_); rintro e w' ⟨rfl, rfl⟩; clear RT)
        | (go_at_call 27; (with_reducible refine (TM.out _).mono ?_); rintro e w' ⟨rfl, rfl⟩; clear TM)
        | (go_at_call 31; (with_reducible refine (CT.out _).mono ?_); rintro e w2 ⟨rfl, b2⟩; replace B := Lib.hid (B.out.below b2 B.out.lt); replace R := Lib.hid (R.out.below b2 R.out.lt); replace H := Lib.hid (H.out.below b2 H.out.lt); replace BB := Lib.hid (below_more BB.out b2); replace b_0 := B.out.c0; replace b_1 := B.out.c1; replace b_2 := B.out.c2; replace b_l := B.out.lt; replace r_0 := R.out.c0; replace r_1 := R.out.c1; replace r_l := R.out.lt; replace r_f0 := R.out.free 0; replace r_f1 := R.out.free 1; replace h_0 := H.out.c0; replace h_1 := H.out.c1; replace h_2 := H.out.c2; replace h_l := H.out.lt; clear b2 CT))
      refine bodyPost_ret (v := .tuple #[.agg #[.int .i64 0, .int .i64 0], .int .i64 3]) (by simp [results, Try.results14, go_sem, r_0, r_1, r_l]) rfl ⟨by rw [E.out], ?_⟩
      exact ((BB.out.setCell (p := ⟨w.heap.size + 1, 0, none⟩) (by show w.heap.size ≤ w.heap.size + 1; omega) _).setCell (p := ⟨w.heap.size + 1, 1, none⟩) (by show w.heap.size ≤ w.heap.size + 1; omega) _)

theorem gat_any (p l h r a : Int) (hp : I64 p) (hr : I64 r) (ha : I64 a) (w : World) :
    Calls Try.prog 14 #[blV p l h, .int .i64 r, .int .i64 a] w (Gives (.tuple #[rgV (atR p l h r a).1 (atR p l h r a).2.1, .int .i64 (atR p l h r a).2.2]) w) := by
  by_cases q : BOk p l h ∧ RateOk r ∧ TimeOk a
  · exact gat_good p l h r a q.1 q.2.1 q.2.2 hp ha w
  · exact gat_bad p l h r a q hp hr ha w

theorem gadv_any (p l h r a : Int) (hp : I64 p) (hr : I64 r) (ha : I64 a) (w : World) :
    Calls Try.prog 16 #[blV p l h, .int .i64 r, .int .i64 a] w (Gives (.tuple #[blV (advR p l h r a).1 (advR p l h r a).2.1 (advR p l h r a).2.2.1, .int .i64 (advR p l h r a).2.2.2]) w) := by
  have A := Lib.hid (gat_any p l h r a hp hr ha)
  have EA : Hid (advR p l h r a = if (atR p l h r a).2.2 = 0 then (a, (atR p l h r a).1, (atR p l h r a).2.1, 0) else (0, 0, 0, (atR p l h r a).2.2)) := rfl
  generalize advR p l h r a = R at EA ⊢
  generalize atR p l h r a = Q at A EA
  obtain ⟨x, y, er⟩ := Q
  dsimp only at A EA
  unfold rgV blV at A
  unfold blV
  obtain ⟨W, hW⟩ : ∃ W, (w.alloc (.cells #[.int .i64 p, .int .i64 l, .int .i64 h] 25)).alloc (.cells #[.int .i64 0, .int .i64 0, .int .i64 0] 25) = W := ⟨_, rfl⟩
  have O0 : Hid (Three W w.heap.size 25 (.int .i64 p) (.int .i64 l) (.int .i64 h) ∧ Three W (w.heap.size + 1) 25 (.int .i64 0) (.int .i64 0) (.int .i64 0)) := by
    rw [← hW]
    refine ⟨(Three.new w _ _ _ _).alloc _, ?_⟩
    have k := Three.new (w.alloc (.cells #[.int .i64 p, .int .i64 l, .int .i64 h] 25)) 25 (.int .i64 0) (.int .i64 0) (.int .i64 0)
    rwa [show (w.alloc (.cells #[.int .i64 p, .int .i64 l, .int .i64 h] 25)).heap.size = w.heap.size + 1 by simp] at k
  have BW : Hid (Below w.heap.size w W) := by rw [← hW]; exact ((below_alloc w _).alloc (by simp) _)
  have t0 := O0.out.1.c0
  have t1 := O0.out.1.c1
  have t2 := O0.out.1.c2
  have t3 := O0.out.1.lt
  have u0 := O0.out.2.c0
  have u1 := O0.out.2.c1
  have u2 := O0.out.2.c2
  have u3 := O0.out.2.free 0
  have u4 := O0.out.2.free 1
  have u5 := O0.out.2.free 2
  have u6 := O0.out.2.lt
  by_cases q : er = 0
  · subst q
    have E := Lib.hid (EA.out.trans (if_pos rfl))
    clear EA
    go_enter Try.func16, Try.ntmps16
    go_wp2_with (go_at_call 14; (with_reducible refine (A.out _).mono ?_); rintro e w1 ⟨rfl, b1⟩; have B1 := Lib.hid (below_more BW.out b1); have N1 := Lib.hid (B1.out.alloc B1.out.size (.cells #[.int .i64 x, .int .i64 y] 23)); have O1 : Hid (Three (w1.alloc (.cells #[.int .i64 x, .int .i64 y] 23)) w.heap.size 25 (.int .i64 p) (.int .i64 l) (.int .i64 h) ∧ Three (w1.alloc (.cells #[.int .i64 x, .int .i64 y] 23)) (w.heap.size + 1) 25 (.int .i64 0) (.int .i64 0) (.int .i64 0)) := ⟨(O0.out.1.below b1 O0.out.1.lt).alloc _, (O0.out.2.below b1 O0.out.2.lt).alloc _⟩; have X1 := Lib.hid (Two.new w1 23 (.int .i64 x) (.int .i64 y)); have x0 := X1.out.c0; have x1 := X1.out.c1; have x2 := X1.out.lt; have t0 := O1.out.1.c0; have t1 := O1.out.1.c1; have t2 := O1.out.1.c2; have t3 := O1.out.1.lt; have u0 := O1.out.2.c0; have u1 := O1.out.2.c1; have u2 := O1.out.2.c2; have u3 := O1.out.2.free 0; have u4 := O1.out.2.free 1; have u5 := O1.out.2.free 2; have u6 := O1.out.2.lt; clear b1 A)
    refine bodyPost_ret (v := .tuple #[.agg #[.int .i64 a, .int .i64 x, .int .i64 y], .int .i64 0]) (by simp [results, Try.results16, go_sem, u0, u1, u2, u6]) rfl ⟨by rw [E.out], ?_⟩
    exact ((N1.out.setCell (p := ⟨w.heap.size + 1, 0, none⟩) (by show w.heap.size ≤ w.heap.size + 1; omega) _).setCell (p := ⟨w.heap.size + 1, 1, none⟩) (by show w.heap.size ≤ w.heap.size + 1; omega) _).setCell (p := ⟨w.heap.size + 1, 2, none⟩) (by show w.heap.size ≤ w.heap.size + 1; omega) _
  · have E := Lib.hid (EA.out.trans (if_neg q))
    have e1 : (er != 0) = true := by simp; omega
    have e2 : (er == 0) = false := by simp; omega
    clear EA q
    go_enter Try.func16, Try.ntmps16
    go_wp2_with (go_at_call 14; (with_reducible refine (A.out _).mono ?_); rintro e w1 ⟨rfl, b1⟩; have B1 := Lib.hid (below_more BW.out b1); have N1 := Lib.hid (B1.out.alloc B1.out.size (.cells #[.int .i64 x, .int .i64 y] 23)); have O1 : Hid (Three (w1.alloc (.cells #[.int .i64 x, .int .i64 y] 23)) w.heap.size 25 (.int .i64 p) (.int .i64 l) (.int .i64 h) ∧ Three (w1.alloc (.cells #[.int .i64 x, .int .i64 y] 23)) (w.heap.size + 1) 25 (.int .i64 0) (.int .i64 0) (.int .i64 0)) := ⟨(O0.out.1.below b1 O0.out.1.lt).alloc _, (O0.out.2.below b1 O0.out.2.lt).alloc _⟩; have X1 := Lib.hid (Two.new w1 23 (.int .i64 x) (.int .i64 y)); have x0 := X1.out.c0; have x1 := X1.out.c1; have x2 := X1.out.lt; have t0 := O1.out.1.c0; have t1 := O1.out.1.c1; have t2 := O1.out.1.c2; have t3 := O1.out.1.lt; have u0 := O1.out.2.c0; have u1 := O1.out.2.c1; have u2 := O1.out.2.c2; have u3 := O1.out.2.free 0; have u4 := O1.out.2.free 1; have u5 := O1.out.2.free 2; have u6 := O1.out.2.lt; clear b1 A)
    refine bodyPost_ret (v := .tuple #[.agg #[.int .i64 0, .int .i64 0, .int .i64 0], .int .i64 er]) (by simp [results, Try.results16, go_sem, u0, u1, u2, u6]) rfl ⟨by rw [E.out], ?_⟩
    exact ((N1.out.setCell (p := ⟨w.heap.size + 1, 0, none⟩) (by show w.heap.size ≤ w.heap.size + 1; omega) _).setCell (p := ⟨w.heap.size + 1, 1, none⟩) (by show w.heap.size ≤ w.heap.size + 1; omega) _).setCell (p := ⟨w.heap.size + 1, 2, none⟩) (by show w.heap.size ≤ w.heap.size + 1; omega) _
end Go.Proofs.Ytpfcjffpomdhbaa
