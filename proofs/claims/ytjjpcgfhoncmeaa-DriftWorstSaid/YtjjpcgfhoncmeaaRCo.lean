/- Layer 7: the reference's Counts and Can. -/
import Derived.Test.YtjjpcgfhoncmeaaREl
namespace Go.Proofs.Ytjjpcgfhoncmeaa
open Go.RowKit Go
set_option linter.unusedVariables false
set_option linter.unusedSimpArgs false

theorem rco_no (q1 q2 : Bool) (hq : q1 = false ∨ q2 = false) (r c : Int) (w : World)
    (K1 : Hid (∀ w, Calls Try.prog 33 #[.int .i64 r] w fun e w' => e = .returned (.bool q1) ∧ w = w'))
    (K2 : Hid (∀ w, Calls Try.prog 39 #[.int .i64 c] w fun e w' => e = .returned (.bool q2) ∧ w = w')) :
    Calls Try.prog 20 #[.int .i64 r, .int .i64 c] w (Gives (.tuple #[rgV 0 0, .int .i64 1]) w) := by
  obtain ⟨W, hW⟩ : ∃ W, w.alloc (.cells #[.int .i64 0, .int .i64 0] 27) = W := ⟨_, rfl⟩
  have T0 : Two W w.heap.size 27 (.int .i64 0) (.int .i64 0) := by rw [← hW]; exact Two.new w _ _ _
  have hb : Hid (Below w.heap.size w W) := by rw [← hW]; exact below_alloc w _
  have t0 := T0.c0
  have t1 := T0.c1
  have t2 := T0.free 0
  have t3 := T0.free 1
  have t4 := T0.lt
  clear T0
  cases q1 with
  | false =>
    go_enter Try.func20, Try.ntmps20
    go_wp2_with (go_at_call 33; refine (K1.out _).mono ?_; rintro e w' ⟨rfl, rfl⟩)
    refine bodyPost_ret (v := .tuple #[.agg #[.int .i64 0, .int .i64 0], .int .i64 1]) (by simp [results, Try.results20, go_sem, t0, t1]) rfl ⟨rfl, ?_⟩
    exact (hb.out.setCell (p := ⟨w.heap.size, 0, none⟩) (by simp) _).setCell (p := ⟨w.heap.size, 1, none⟩) (by simp) _
  | true =>
    obtain rfl : q2 = false := by simpa using hq
    go_enter Try.func20, Try.ntmps20
    go_wp2_with (first
      | (go_at_call 33; refine (K1.out _).mono ?_; rintro e w' ⟨rfl, rfl⟩; clear K1)
      | (go_at_call 39; refine (K2.out _).mono ?_; rintro e w' ⟨rfl, rfl⟩))
    refine bodyPost_ret (v := .tuple #[.agg #[.int .i64 0, .int .i64 0], .int .i64 1]) (by simp [results, Try.results20, go_sem, t0, t1]) rfl ⟨rfl, ?_⟩
    exact (hb.out.setCell (p := ⟨w.heap.size, 0, none⟩) (by simp) _).setCell (p := ⟨w.heap.size, 1, none⟩) (by simp) _

theorem rco_yes (r c : Int) (hr : RateOk r) (hc : StretchOk c) (w : World) :
    Calls Try.prog 20 #[.int .i64 r, .int .i64 c] w (Gives (.tuple #[rgV (coLo r c) (coHi r c), .int .i64 0]) w) := by
  have K1 := Lib.hid (rbound_any r true (by simp; exact hr) (by have := hr.1; omega) (by have := hr.2; omega))
  have K2 := Lib.hid (rstretch_any c true (by simp; exact hc) (by have := hc.1; omega) (by have := hc.2; omega))
  have FL := Lib.hid (by have := refFloor_any c (1000000000 - r) 1000000000; rwa [fl_co hr hc] at this)
  have CE := Lib.hid (by have := refCeil_any c (1000000000 + r) 1000000000; rwa [ce_co hr hc] at this)
  obtain ⟨hr1, hr2⟩ := hr
  obtain ⟨hc1, hc2⟩ := hc
  unfold pairV at FL CE
  generalize coLo r c = x at FL ⊢
  generalize coHi r c = y at CE ⊢
  obtain ⟨W, hW⟩ : ∃ W, w.alloc (.cells #[.int .i64 0, .int .i64 0] 27) = W := ⟨_, rfl⟩
  have T0 : Hid (Two W w.heap.size 27 (.int .i64 0) (.int .i64 0)) := by rw [← hW]; exact Two.new w _ _ _
  have hb : Hid (Below w.heap.size w W) := by rw [← hW]; exact below_alloc w _
  have t4 := T0.out.lt
  go_enter Try.func20, Try.ntmps20
  go_wp2_with (first
    | (go_at_call 33; refine (K1.out _).mono ?_; rintro e w' ⟨rfl, rfl⟩; clear K1)
    | (go_at_call 39; refine (K2.out _).mono ?_; rintro e w' ⟨rfl, rfl⟩; clear K2)
    | (go_at_call 40; refine (FL.out _).mono ?_; rintro e w1 ⟨rfl, b1⟩; have T1 := Lib.hid (T0.out.below b1 t4); have B1 := Lib.hid (below_more hb.out b1); clear b1)
    | (go_at_call 41; refine (CE.out _).mono ?_; rintro e w2 ⟨rfl, b2⟩; have T2 := Lib.hid (T1.out.below b2 T1.out.lt); have B2 := Lib.hid (below_more B1.out b2); have t0 := T2.out.c0; have t1 := T2.out.c1; have t2 := T2.out.free 0; have t3 := T2.out.free 1; have t5 := T2.out.lt; clear b2))
  refine bodyPost_ret (v := .tuple #[.agg #[.int .i64 x, .int .i64 y], .int .i64 0]) (by simp [results, Try.results20, go_sem, t0, t1, t5]) rfl ⟨rfl, ?_⟩
  exact (B2.out.setCell (p := ⟨w.heap.size, 0, none⟩) (by simp) _).setCell (p := ⟨w.heap.size, 1, none⟩) (by simp) _

theorem rco_any (r c : Int) (hr : I64 r) (hc : I64 c) (w : World) :
    Calls Try.prog 20 #[.int .i64 r, .int .i64 c] w (Gives (.tuple #[rgV (coR r c).1 (coR r c).2.1, .int .i64 (coR r c).2.2]) w) := by
  by_cases h : RateOk r ∧ StretchOk c
  · have e : coR r c = (coLo r c, coHi r c, 0) := if_pos h
    rw [e]
    exact rco_yes r c h.1 h.2 w
  · have e : coR r c = (0, 0, 1) := if_neg h
    rw [e]
    refine rco_no (decide (RateOk r)) (decide (StretchOk c)) ?_ r c w (rbound_any r _ (by simp; rfl) hr.1 hr.2) (rstretch_any c _ (by simp; rfl) hc.1 hc.2)
    by_cases q : RateOk r
    · exact .inr (by simp; exact fun x => h ⟨q, x⟩)
    · exact .inl (by simp [q])

/-- Can, for what DriftExact asks. -/
theorem rcan_any (r e c : Int) (hr : RateOk r) (h1 : -4000000000 ≤ e) (h2 : e ≤ 4000000000) (h3 : -4000000000 ≤ c) (h4 : c ≤ 4000000000) (q : Bool) (hq : q = true ↔ Can r e c) (w : World) :
    Calls Try.prog 23 #[.int .i64 r, .int .i64 e, .int .i64 c] w fun x w' => x = .returned (.bool q) ∧ w = w' := by
  obtain ⟨r1, r2⟩ := hr
  have m1 : -4004000000000000000 ≤ e * (1000000000 + r) ∧ e * (1000000000 + r) ≤ 4004000000000000000 := by
    constructor
    · have a := Int.mul_le_mul_of_nonneg_right h1 (by omega : (0 : Int) ≤ 1000000000 + r)
      omega
    · have a := Int.mul_le_mul_of_nonneg_right h2 (by omega : (0 : Int) ≤ 1000000000 + r)
      omega
  have m2 : -4004000000000000000 ≤ e * (1000000000 - r) ∧ e * (1000000000 - r) ≤ 4004000000000000000 := by
    constructor
    · have a := Int.mul_le_mul_of_nonneg_right h1 (by omega : (0 : Int) ≤ 1000000000 - r)
      omega
    · have a := Int.mul_le_mul_of_nonneg_right h2 (by omega : (0 : Int) ≤ 1000000000 - r)
      omega
  have hd : q = (decide ((c - 1) * 1000000000 < e * (1000000000 + r)) && decide (e * (1000000000 - r) < (c + 1) * 1000000000)) := by
    rw [Bool.eq_iff_iff, hq]; simp [Can]
  subst hd
  clear hq
  have w1 : wrap64 (e * (1000000000 + r)) = e * (1000000000 + r) := by generalize e * (1000000000 + r) = u at m1 ⊢; unfold wrap64; omega
  have w2 : wrap64 (e * (1000000000 - r)) = e * (1000000000 - r) := by generalize e * (1000000000 - r) = u at m2 ⊢; unfold wrap64; omega
  go_enter Try.func23, Try.ntmps23
  by_cases h : (c - 1) * 1000000000 < e * (1000000000 + r)
  · have f1 : decide ((c - 1) * 1000000000 < e * (1000000000 + r)) = true := by simpa using h
    clear h
    go_wp2_with fail
    go_ret
    exact ⟨by simp [f1], rfl⟩
  · have f1 : decide ((c - 1) * 1000000000 < e * (1000000000 + r)) = false := by simpa using h
    clear h
    go_wp2_with fail
    go_ret
    exact ⟨by simp [f1], rfl⟩
end Go.Proofs.Ytjjpcgfhoncmeaa
