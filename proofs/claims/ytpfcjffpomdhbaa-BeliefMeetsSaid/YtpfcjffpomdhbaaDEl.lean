/- Layer 8: drift's isRate, isStretch, elapsed, Elapsed and Counts (gen/from_s07.py writes this). -/
import Derived.Test.YtpfcjffpomdhbaaBase
namespace Go.Proofs.Ytpfcjffpomdhbaa
open Go.RowKit Go
set_option linter.unusedVariables false
set_option linter.unusedSimpArgs false

theorem isRate_any (x : Int) (q : Bool) (hq : q = true ↔ 0 ≤ x ∧ x ≤ 1000000) (h1 : -9223372036854775808 ≤ x) (h2 : x ≤ 9223372036854775807) (w : World) :
    Calls Try.prog 37 #[.int .i64 x] w fun e w' => e = .returned (.bool q) ∧ w = w' := by
  have hd : q = decide (0 ≤ x ∧ x ≤ 1000000) := by rw [Bool.eq_iff_iff, decide_eq_true_iff]; exact hq
  subst hd
  clear hq
  go_enter Try.func37, Try.ntmps37
  by_cases h : 0 ≤ x
  · go_wp2_with fail
    go_ret
    exact ⟨by simp_all <;> omega, rfl⟩
  · go_wp2_with fail
    go_ret
    exact ⟨by simp_all <;> omega, rfl⟩

theorem isStretch_any (x : Int) (q : Bool) (hq : q = true ↔ 0 ≤ x ∧ x ≤ 1000000000000000) (h1 : -9223372036854775808 ≤ x) (h2 : x ≤ 9223372036854775807) (w : World) :
    Calls Try.prog 38 #[.int .i64 x] w fun e w' => e = .returned (.bool q) ∧ w = w' := by
  have hd : q = decide (0 ≤ x ∧ x ≤ 1000000000000000) := by rw [Bool.eq_iff_iff, decide_eq_true_iff]; exact hq
  subst hd
  clear hq
  go_enter Try.func38, Try.ntmps38
  by_cases h : 0 ≤ x
  · go_wp2_with fail
    go_ret
    exact ⟨by simp_all <;> omega, rfl⟩
  · go_wp2_with fail
    go_ret
    exact ⟨by simp_all <;> omega, rfl⟩

/-- For the count 0 too. -/
theorem fl_el0 {r c : Int} (hr : RateOk r) (hc : StretchOk c) : floorR (c - 1) 1000000000 (1000000000 + r) = (elLo r c - 1, 0) := by
  rcases (by have := hc.1; omega : c = 0 ∨ 0 < c) with h | h
  · subst h
    obtain ⟨r1, r2⟩ := hr
    have e : (0 - 1) * 1000000000 / (1000000000 + r) = -1 := by
      rw [show ((0 : Int) - 1) * 1000000000 = -1000000000 by rfl]
      have a : -1000000000 / (1000000000 + r) < 0 := Int.ediv_neg_of_neg_of_pos (by omega) (by omega)
      have b : ¬ -1000000000 / (1000000000 + r) < -1 := by
        rw [Int.ediv_lt_iff_lt_mul (by omega)]; omega
      omega
    rw [floorR, if_pos (by unfold rOK; omega), e, finR_in (by omega) (by omega)]
    unfold elLo
    simp
  · exact fl_el hr hc h

theorem elapsedIn_any (r c : Int) (hr : RateOk r) (hc : StretchOk c) (w : World) :
    Calls Try.prog 50 #[.int .i64 r, .int .i64 c] w (Gives (rgV (elLo r c) (elHi r c)) w) := by
  have FL := Lib.hid (by have := floor_any (c - 1) 1000000000 (1000000000 + r); rwa [fl_el0 hr hc] at this)
  have CE := Lib.hid (by have := ceil_any (c + 1) 1000000000 (1000000000 - r); rwa [ce_el hr hc] at this)
  have b1 := elLo_nonneg hr.1 hc.1
  have b2 := elLo_up hr.1 hc.1
  have b3 := elHi_nonneg hr.1 hr.2 hc.1
  have b4 := elHi_le hr.1 hr.2 hc.1
  obtain ⟨hr1, hr2⟩ := hr
  obtain ⟨hc1, hc2⟩ := hc
  unfold pairV at FL CE
  unfold rgV
  generalize elLo r c = x at FL b1 b2 ⊢
  generalize elHi r c = y at CE b3 b4 ⊢
  obtain ⟨W, hW⟩ : ∃ W, w.alloc (.cells #[.int .i64 0, .int .i64 0] 67) = W := ⟨_, rfl⟩
  have T0 : Hid (Two W w.heap.size 67 (.int .i64 0) (.int .i64 0)) := by rw [← hW]; exact Two.new w _ _ _
  have hb : Hid (Below w.heap.size w W) := by rw [← hW]; exact below_alloc w _
  have t4 := T0.out.lt
  go_enter Try.func50, Try.ntmps50
  go_wp2_with (first
    | (go_at_call 39; (with_reducible refine (FL.out _).mono ?_); rintro e w1 ⟨rfl, b1⟩; have T1 := Lib.hid (T0.out.below b1 t4); have B1 := Lib.hid (below_more hb.out b1); clear b1 FL)
    | (go_at_call 40; (with_reducible refine (CE.out _).mono ?_); rintro e w2 ⟨rfl, b2⟩; have T2 := Lib.hid (T1.out.below b2 T1.out.lt); have B2 := Lib.hid (below_more B1.out b2); have t0 := T2.out.c0; have t1 := T2.out.c1; have t2 := T2.out.free 0; have t3 := T2.out.free 1; have t5 := T2.out.lt; clear b2 CE))
  refine bodyPost_ret (v := .agg #[.int .i64 x, .int .i64 y]) (by simp [results, Try.results50, go_sem, t0, t1, t5]) rfl ⟨rfl, ?_⟩
  exact (B2.out.setCell (p := ⟨w.heap.size, 0, none⟩) (by simp) _).setCell (p := ⟨w.heap.size, 1, none⟩) (by simp) _

theorem el_no (q1 q2 : Bool) (hq : q1 = false ∨ q2 = false) (r c : Int) (w : World)
    (K1 : Hid (∀ w, Calls Try.prog 37 #[.int .i64 r] w fun e w' => e = .returned (.bool q1) ∧ w = w'))
    (K2 : Hid (∀ w, Calls Try.prog 38 #[.int .i64 c] w fun e w' => e = .returned (.bool q2) ∧ w = w')) :
    Calls Try.prog 41 #[.int .i64 r, .int .i64 c] w (Gives (.tuple #[rgV 0 0, .int .i64 1]) w) := by
  obtain ⟨W, hW⟩ : ∃ W, w.alloc (.cells #[.int .i64 0, .int .i64 0] 41) = W := ⟨_, rfl⟩
  have T0 : Two W w.heap.size 41 (.int .i64 0) (.int .i64 0) := by rw [← hW]; exact Two.new w _ _ _
  have hb : Hid (Below w.heap.size w W) := by rw [← hW]; exact below_alloc w _
  have t0 := T0.c0
  have t1 := T0.c1
  have t2 := T0.free 0
  have t3 := T0.free 1
  have t4 := T0.lt
  clear T0
  cases q1 with
  | false =>
    go_enter Try.func41, Try.ntmps41
    go_wp2_with (go_at_call 37; refine (K1.out _).mono ?_; rintro e w' ⟨rfl, rfl⟩)
    refine bodyPost_ret (v := .tuple #[.agg #[.int .i64 0, .int .i64 0], .int .i64 1]) (by simp [results, Try.results41, go_sem, t0, t1]) rfl ⟨rfl, ?_⟩
    exact (hb.out.setCell (p := ⟨w.heap.size, 0, none⟩) (by simp) _).setCell (p := ⟨w.heap.size, 1, none⟩) (by simp) _
  | true =>
    obtain rfl : q2 = false := by simpa using hq
    go_enter Try.func41, Try.ntmps41
    go_wp2_with (first
      | (go_at_call 37; refine (K1.out _).mono ?_; rintro e w' ⟨rfl, rfl⟩; clear K1)
      | (go_at_call 38; refine (K2.out _).mono ?_; rintro e w' ⟨rfl, rfl⟩))
    refine bodyPost_ret (v := .tuple #[.agg #[.int .i64 0, .int .i64 0], .int .i64 1]) (by simp [results, Try.results41, go_sem, t0, t1]) rfl ⟨rfl, ?_⟩
    exact (hb.out.setCell (p := ⟨w.heap.size, 0, none⟩) (by simp) _).setCell (p := ⟨w.heap.size, 1, none⟩) (by simp) _


theorem el_yes (r c : Int) (hr : RateOk r) (hc : StretchOk c) (w : World) :
    Calls Try.prog 41 #[.int .i64 r, .int .i64 c] w (Gives (.tuple #[rgV (elLo r c) (elHi r c), .int .i64 0]) w) := by
  have K1 := Lib.hid (isRate_any r true (by simp; exact hr) (by have := hr.1; omega) (by have := hr.2; omega))
  have K2 := Lib.hid (isStretch_any c true (by simp; exact hc) (by have := hc.1; omega) (by have := hc.2; omega))
  have EL := Lib.hid (elapsedIn_any r c hr hc)
  unfold rgV at EL ⊢
  generalize elLo r c = x at EL ⊢
  generalize elHi r c = y at EL ⊢
  obtain ⟨W, hW⟩ : ∃ W, w.alloc (.cells #[.int .i64 0, .int .i64 0] 41) = W := ⟨_, rfl⟩
  have T0 : Hid (Two W w.heap.size 41 (.int .i64 0) (.int .i64 0)) := by rw [← hW]; exact Two.new w _ _ _
  have hb : Hid (Below w.heap.size w W) := by rw [← hW]; exact below_alloc w _
  have t4 := T0.out.lt
  go_enter Try.func41, Try.ntmps41
  go_wp2_with (first
    | (go_at_call 37; (with_reducible refine (K1.out _).mono ?_); rintro e w' ⟨rfl, rfl⟩; clear K1)
    | (go_at_call 38; (with_reducible refine (K2.out _).mono ?_); rintro e w' ⟨rfl, rfl⟩; clear K2)
    | (go_at_call 50; (with_reducible refine (EL.out _).mono ?_); rintro e w2 ⟨rfl, b2⟩; have T2 := Lib.hid (T0.out.below b2 T0.out.lt); have B2 := Lib.hid (below_more hb.out b2); have t0 := T2.out.c0; have t1 := T2.out.c1; have t2 := T2.out.free 0; have t3 := T2.out.free 1; have t5 := T2.out.lt; clear b2 EL))
  refine bodyPost_ret (v := .tuple #[.agg #[.int .i64 x, .int .i64 y], .int .i64 0]) (by simp [results, Try.results41, go_sem, t0, t1, t5]) rfl ⟨rfl, ?_⟩
  exact (B2.out.setCell (p := ⟨w.heap.size, 0, none⟩) (by simp) _).setCell (p := ⟨w.heap.size, 1, none⟩) (by simp) _

theorem elapsed_any (r c : Int) (hr : I64 r) (hc : I64 c) (w : World) :
    Calls Try.prog 41 #[.int .i64 r, .int .i64 c] w (Gives (.tuple #[rgV (elR r c).1 (elR r c).2.1, .int .i64 (elR r c).2.2]) w) := by
  by_cases h : RateOk r ∧ StretchOk c
  · have e : elR r c = (elLo r c, elHi r c, 0) := if_pos h
    rw [e]
    exact el_yes r c h.1 h.2 w
  · have e : elR r c = (0, 0, 1) := if_neg h
    rw [e]
    refine el_no (decide (RateOk r)) (decide (StretchOk c)) ?_ r c w (isRate_any r _ (by simp; rfl) hr.1 hr.2) (isStretch_any c _ (by simp; rfl) hc.1 hc.2)
    by_cases q : RateOk r
    · exact .inr (by simp; exact fun x => h ⟨q, x⟩)
    · exact .inl (by simp [q])

theorem co_no (q1 q2 : Bool) (hq : q1 = false ∨ q2 = false) (r c : Int) (w : World)
    (K1 : Hid (∀ w, Calls Try.prog 37 #[.int .i64 r] w fun e w' => e = .returned (.bool q1) ∧ w = w'))
    (K2 : Hid (∀ w, Calls Try.prog 38 #[.int .i64 c] w fun e w' => e = .returned (.bool q2) ∧ w = w')) :
    Calls Try.prog 23 #[.int .i64 r, .int .i64 c] w (Gives (.tuple #[rgV 0 0, .int .i64 1]) w) := by
  obtain ⟨W, hW⟩ : ∃ W, w.alloc (.cells #[.int .i64 0, .int .i64 0] 41) = W := ⟨_, rfl⟩
  have T0 : Two W w.heap.size 41 (.int .i64 0) (.int .i64 0) := by rw [← hW]; exact Two.new w _ _ _
  have hb : Hid (Below w.heap.size w W) := by rw [← hW]; exact below_alloc w _
  have t0 := T0.c0
  have t1 := T0.c1
  have t2 := T0.free 0
  have t3 := T0.free 1
  have t4 := T0.lt
  clear T0
  cases q1 with
  | false =>
    go_enter Try.func23, Try.ntmps23
    go_wp2_with (go_at_call 37; refine (K1.out _).mono ?_; rintro e w' ⟨rfl, rfl⟩)
    refine bodyPost_ret (v := .tuple #[.agg #[.int .i64 0, .int .i64 0], .int .i64 1]) (by simp [results, Try.results23, go_sem, t0, t1]) rfl ⟨rfl, ?_⟩
    exact (hb.out.setCell (p := ⟨w.heap.size, 0, none⟩) (by simp) _).setCell (p := ⟨w.heap.size, 1, none⟩) (by simp) _
  | true =>
    obtain rfl : q2 = false := by simpa using hq
    go_enter Try.func23, Try.ntmps23
    go_wp2_with (first
      | (go_at_call 37; refine (K1.out _).mono ?_; rintro e w' ⟨rfl, rfl⟩; clear K1)
      | (go_at_call 38; refine (K2.out _).mono ?_; rintro e w' ⟨rfl, rfl⟩))
    refine bodyPost_ret (v := .tuple #[.agg #[.int .i64 0, .int .i64 0], .int .i64 1]) (by simp [results, Try.results23, go_sem, t0, t1]) rfl ⟨rfl, ?_⟩
    exact (hb.out.setCell (p := ⟨w.heap.size, 0, none⟩) (by simp) _).setCell (p := ⟨w.heap.size, 1, none⟩) (by simp) _

theorem co_yes (r c : Int) (hr : RateOk r) (hc : StretchOk c) (w : World) :
    Calls Try.prog 23 #[.int .i64 r, .int .i64 c] w (Gives (.tuple #[rgV (coLo r c) (coHi r c), .int .i64 0]) w) := by
  have K1 := Lib.hid (isRate_any r true (by simp; exact hr) (by have := hr.1; omega) (by have := hr.2; omega))
  have K2 := Lib.hid (isStretch_any c true (by simp; exact hc) (by have := hc.1; omega) (by have := hc.2; omega))
  have FL := Lib.hid (by have := floor_any c (1000000000 - r) 1000000000; rwa [fl_co hr hc] at this)
  have CE := Lib.hid (by have := ceil_any c (1000000000 + r) 1000000000; rwa [ce_co hr hc] at this)
  obtain ⟨hr1, hr2⟩ := hr
  obtain ⟨hc1, hc2⟩ := hc
  unfold pairV at FL CE
  generalize coLo r c = x at FL ⊢
  generalize coHi r c = y at CE ⊢
  obtain ⟨W, hW⟩ : ∃ W, w.alloc (.cells #[.int .i64 0, .int .i64 0] 41) = W := ⟨_, rfl⟩
  have T0 : Hid (Two W w.heap.size 41 (.int .i64 0) (.int .i64 0)) := by rw [← hW]; exact Two.new w _ _ _
  have hb : Hid (Below w.heap.size w W) := by rw [← hW]; exact below_alloc w _
  have t4 := T0.out.lt
  go_enter Try.func23, Try.ntmps23
  go_wp2_with (first
    | (go_at_call 37; refine (K1.out _).mono ?_; rintro e w' ⟨rfl, rfl⟩; clear K1)
    | (go_at_call 38; refine (K2.out _).mono ?_; rintro e w' ⟨rfl, rfl⟩; clear K2)
    | (go_at_call 39; refine (FL.out _).mono ?_; rintro e w1 ⟨rfl, b1⟩; have T1 := Lib.hid (T0.out.below b1 t4); have B1 := Lib.hid (below_more hb.out b1); clear b1)
    | (go_at_call 40; refine (CE.out _).mono ?_; rintro e w2 ⟨rfl, b2⟩; have T2 := Lib.hid (T1.out.below b2 T1.out.lt); have B2 := Lib.hid (below_more B1.out b2); have t0 := T2.out.c0; have t1 := T2.out.c1; have t2 := T2.out.free 0; have t3 := T2.out.free 1; have t5 := T2.out.lt; clear b2))
  refine bodyPost_ret (v := .tuple #[.agg #[.int .i64 x, .int .i64 y], .int .i64 0]) (by simp [results, Try.results23, go_sem, t0, t1, t5]) rfl ⟨rfl, ?_⟩
  exact (B2.out.setCell (p := ⟨w.heap.size, 0, none⟩) (by simp) _).setCell (p := ⟨w.heap.size, 1, none⟩) (by simp) _

theorem counts_any (r c : Int) (hr : I64 r) (hc : I64 c) (w : World) :
    Calls Try.prog 23 #[.int .i64 r, .int .i64 c] w (Gives (.tuple #[rgV (coR r c).1 (coR r c).2.1, .int .i64 (coR r c).2.2]) w) := by
  by_cases h : RateOk r ∧ StretchOk c
  · have e : coR r c = (coLo r c, coHi r c, 0) := if_pos h
    rw [e]
    exact co_yes r c h.1 h.2 w
  · have e : coR r c = (0, 0, 1) := if_neg h
    rw [e]
    refine co_no (decide (RateOk r)) (decide (StretchOk c)) ?_ r c w (isRate_any r _ (by simp; rfl) hr.1 hr.2) (isStretch_any c _ (by simp; rfl) hc.1 hc.2)
    by_cases q : RateOk r
    · exact .inr (by simp; exact fun x => h ⟨q, x⟩)
    · exact .inl (by simp [q])

end Go.Proofs.Ytpfcjffpomdhbaa
