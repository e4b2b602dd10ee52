/- Layer 7: the reference's Elapsed, Counts and Can. -/
import Derived.Test.YtpfcjffpomdhbaaBase
namespace Go.Proofs.Ytpfcjffpomdhbaa
open Go.RowKit Go
set_option linter.unusedVariables false
set_option linter.unusedSimpArgs false

theorem rel_no (q1 q2 : Bool) (hq : q1 = false ∨ q2 = false) (r c : Int) (w : World)
    (K1 : Hid (∀ w, Calls Try.prog 42 #[.int .i64 r] w fun e w' => e = .returned (.bool q1) ∧ w = w'))
    (K2 : Hid (∀ w, Calls Try.prog 43 #[.int .i64 c] w fun e w' => e = .returned (.bool q2) ∧ w = w')) :
    Calls Try.prog 33 #[.int .i64 r, .int .i64 c] w (Gives (.tuple #[rgV 0 0, .int .i64 1]) w) := by
  obtain ⟨W, hW⟩ : ∃ W, w.alloc (.cells #[.int .i64 0, .int .i64 0] 41) = W := ⟨_, rfl⟩
  have T0 : Two W w.heap.size 41 (.int .i64 0) (.int .i64 0) := by rw [← hW]; exact Two.new w _ _ _
  have hb : Hid (Below w.heap.size w W) := by rw [← hW]; exact below_alloc w _
  have t0 := T0.c0
  have t1 := T0.c1
  have t2 := T0.free 0
  have t3 := T0.free 1
  have t4 := T0.lt
  clear T0
  cases q1 with
  | false =>
    go_enter Try.func33, Try.ntmps33
    go_wp2_with (go_at_call 42; refine (K1.out _).mono ?_; rintro e w' ⟨rfl, rfl⟩)
    refine bodyPost_ret (v := .tuple #[.agg #[.int .i64 0, .int .i64 0], .int .i64 1]) (by simp [results, Try.results33, go_sem, t0, t1]) rfl ⟨rfl, ?_⟩
    exact (hb.out.setCell (p := ⟨w.heap.size, 0, none⟩) (by simp) _).setCell (p := ⟨w.heap.size, 1, none⟩) (by simp) _
  | true =>
    obtain rfl : q2 = false := by simpa using hq
    go_enter Try.func33, Try.ntmps33
    go_wp2_with (first
      | (go_at_call 42; refine (K1.out _).mono ?_; rintro e w' ⟨rfl, rfl⟩; clear K1)
      | (go_at_call 43; refine (K2.out _).mono ?_; rintro e w' ⟨rfl, rfl⟩))
    refine bodyPost_ret (v := .tuple #[.agg #[.int .i64 0, .int .i64 0], .int .i64 1]) (by simp [results, Try.results33, go_sem, t0, t1]) rfl ⟨rfl, ?_⟩
    exact (hb.out.setCell (p := ⟨w.heap.size, 0, none⟩) (by simp) _).setCell (p := ⟨w.heap.size, 1, none⟩) (by simp) _

theorem rel_yes (r c : Int) (hr : RateOk r) (hc : StretchOk c) (w : World) :
    Calls Try.prog 33 #[.int .i64 r, .int .i64 c] w (Gives (.tuple #[rgV (elLo r c) (elHi r c), .int .i64 0]) w) := by
  have K1 := Lib.hid (rbound_any r true (by simp; exact hr) (by have := hr.1; omega) (by have := hr.2; omega))
  have K2 := Lib.hid (rstretch_any c true (by simp; exact hc) (by have := hc.1; omega) (by have := hc.2; omega))
  have FL := Lib.hid (fun h : 0 < c => by have := refFloor_any (c - 1) 1000000000 (1000000000 + r); rwa [fl_el hr hc h] at this)
  have CE := Lib.hid (by have := refCeil_any (c + 1) 1000000000 (1000000000 - r); rwa [ce_el hr hc] at this)
  have b1 := elLo_nonneg hr.1 hc.1
  have b2 := elLo_up hr.1 hc.1
  have b3 := elHi_nonneg hr.1 hr.2 hc.1
  have b4 := elHi_le hr.1 hr.2 hc.1
  have z0 : c = 0 → elLo r c = 0 := fun h => by unfold elLo; rw [if_pos h]
  obtain ⟨hr1, hr2⟩ := hr
  obtain ⟨hc1, hc2⟩ := hc
  unfold pairV at FL CE
  generalize elLo r c = x at FL b1 b2 z0 ⊢
  generalize elHi r c = y at CE b3 b4 ⊢
  obtain ⟨W, hW⟩ : ∃ W, w.alloc (.cells #[.int .i64 0, .int .i64 0] 41) = W := ⟨_, rfl⟩
  have T0 : Hid (Two W w.heap.size 41 (.int .i64 0) (.int .i64 0)) := by rw [← hW]; exact Two.new w _ _ _
  have hb : Hid (Below w.heap.size w W) := by rw [← hW]; exact below_alloc w _
  have t4 := T0.out.lt
  rcases (by omega : c = 0 ∨ 0 < c) with h | h
  · have hx := z0 h
    subst h
    subst hx
    clear FL z0
    go_enter Try.func33, Try.ntmps33
    go_wp2_with (first
      | (go_at_call 42; refine (K1.out _).mono ?_; rintro e w' ⟨rfl, rfl⟩; clear K1)
      | (go_at_call 43; refine (K2.out _).mono ?_; rintro e w' ⟨rfl, rfl⟩; clear K2)
      | (go_at_call 45; refine (CE.out _).mono ?_; rintro e w2 ⟨rfl, b2⟩; have T2 := Lib.hid (T0.out.below b2 t4); have B2 := Lib.hid (below_more hb.out b2); have t0 := T2.out.c0; have t1 := T2.out.c1; have t2 := T2.out.free 0; have t3 := T2.out.free 1; have t5 := T2.out.lt; clear b2))
    refine bodyPost_ret (v := .tuple #[.agg #[.int .i64 0, .int .i64 y], .int .i64 0]) (by simp [results, Try.results33, go_sem, t0, t1, t5]) rfl ⟨rfl, ?_⟩
    exact (B2.out.setCell (p := ⟨w.heap.size, 0, none⟩) (by simp) _).setCell (p := ⟨w.heap.size, 1, none⟩) (by simp) _
  · have FL := Lib.hid (FL.out h)
    clear z0
    go_enter Try.func33, Try.ntmps33
    go_wp2_with (first
      | (go_at_call 42; refine (K1.out _).mono ?_; rintro e w' ⟨rfl, rfl⟩; clear K1)
      | (go_at_call 43; refine (K2.out _).mono ?_; rintro e w' ⟨rfl, rfl⟩; clear K2)
      | (go_at_call 44; refine (FL.out _).mono ?_; rintro e w1 ⟨rfl, b1⟩; have T1 := Lib.hid (T0.out.below b1 t4); have B1 := Lib.hid (below_more hb.out b1); clear b1)
      | (go_at_call 45; refine (CE.out _).mono ?_; rintro e w2 ⟨rfl, b2⟩; have T2 := Lib.hid (T1.out.below b2 T1.out.lt); have B2 := Lib.hid (below_more B1.out b2); have t0 := T2.out.c0; have t1 := T2.out.c1; have t2 := T2.out.free 0; have t3 := T2.out.free 1; have t5 := T2.out.lt; clear b2))
    refine bodyPost_ret (v := .tuple #[.agg #[.int .i64 x, .int .i64 y], .int .i64 0]) (by simp [results, Try.results33, go_sem, t0, t1, t5]) rfl ⟨rfl, ?_⟩
    exact (B2.out.setCell (p := ⟨w.heap.size, 0, none⟩) (by simp) _).setCell (p := ⟨w.heap.size, 1, none⟩) (by simp) _

theorem rel_any (r c : Int) (hr : I64 r) (hc : I64 c) (w : World) :
    Calls Try.prog 33 #[.int .i64 r, .int .i64 c] w (Gives (.tuple #[rgV (elR r c).1 (elR r c).2.1, .int .i64 (elR r c).2.2]) w) := by
  by_cases h : RateOk r ∧ StretchOk c
  · have e : elR r c = (elLo r c, elHi r c, 0) := if_pos h
    rw [e]
    exact rel_yes r c h.1 h.2 w
  · have e : elR r c = (0, 0, 1) := if_neg h
    rw [e]
    refine rel_no (decide (RateOk r)) (decide (StretchOk c)) ?_ r c w (rbound_any r _ (by simp; rfl) hr.1 hr.2) (rstretch_any c _ (by simp; rfl) hc.1 hc.2)
    by_cases q : RateOk r
    · exact .inr (by simp; exact fun x => h ⟨q, x⟩)
    · exact .inl (by simp [q])
end Go.Proofs.Ytpfcjffpomdhbaa
