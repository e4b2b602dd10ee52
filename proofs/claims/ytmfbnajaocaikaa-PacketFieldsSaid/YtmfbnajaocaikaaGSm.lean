/- Layer 11: package packet's small functions over the landed code; interval's Valid (gen/gen_prog.py writes this). -/
import Derived.Deep.QuietTactic
import Derived.BigQuiet
import Derived.RegionTactic
import Derived.BigRegion
import Derived.Test.YtmfbnajaocaikaaRPutQ
import Derived.Test.YtmfbnajaocaikaaCRow8
namespace Go.Proofs.Ytmfbnajaocaikaa
open Go.RowKit Go.Sort Go
set_option linter.unusedVariables false
set_option linter.unusedSimpArgs false

theorem gvalid_any (l h : Int) (q : Bool) (hq : q = true ↔ IvOk l h) (w : World) :
    Calls Try.prog 47 #[rgV l h] w (Gives (.bool q) w) := by
  have hd : q = decide (0 ≤ l ∧ l ≤ h ∧ h ≤ 3000000000000000) := by rw [Bool.eq_iff_iff, decide_eq_true_iff]; exact hq
  subst hd
  clear hq
  unfold rgV
  obtain ⟨W, hW⟩ : ∃ W, w.alloc (.cells #[.int .i64 l, .int .i64 h] 26) = W := ⟨_, rfl⟩
  have T0 : Two W w.heap.size 26 (.int .i64 l) (.int .i64 h) := by rw [← hW]; exact Two.new w _ _ _
  have hb : Hid (Below w.heap.size w W) := by rw [← hW]; exact below_alloc w _
  have t0 := T0.c0
  have t1 := T0.c1
  have t4 := T0.lt
  clear T0
  rcases (by omega : l < 0 ∨ (0 ≤ l ∧ h < l) ∨ (0 ≤ l ∧ l ≤ h)) with c | ⟨c, c2⟩ | ⟨c, c2⟩
  · have d0 : decide (0 ≤ l) = false := by simp; omega
    go_enter Try.func47, Try.ntmps47
    go_wp2_with fail
    go_ret
    exact ⟨by simp; omega, hb.out⟩
  · have d0 : decide (0 ≤ l) = true := by simp; omega
    have d1 : decide (l ≤ h) = false := by simp; omega
    go_enter Try.func47, Try.ntmps47
    go_wp2_with fail
    go_ret
    exact ⟨by simp; omega, hb.out⟩
  · have d0 : decide (0 ≤ l) = true := by simp; omega
    have d1 : decide (l ≤ h) = true := by simp; omega
    go_enter Try.func47, Try.ntmps47
    go_wp2_with fail
    go_ret
    exact ⟨by simp [c, c2], hb.out⟩

theorem ghalf_any (x : Int) (q : Bool) (hq : q = true ↔ Half x) (w : World) :
    Calls Try.prog 45 #[.int .i64 x] w fun e w' => e = .returned (.bool q) ∧ w = w' := by
  have hd : q = decide ((0 ≤ x) ∧ (x < 4294967296)) := by rw [Bool.eq_iff_iff, decide_eq_true_iff, hq]; try (first | (unfold Half; omega) | omega)
  subst hd
  clear hq
  by_cases c : 0 ≤ x
  · have d0 : decide (0 ≤ x) = true := by simp; omega
    go_enter Try.func45, Try.ntmps45
    go_wp2_with fail
    go_ret
    exact ⟨by simp [c], rfl⟩
  · have d0 : decide (0 ≤ x) = false := by simp; omega
    go_enter Try.func45, Try.ntmps45
    go_wp2_with fail
    go_ret
    exact ⟨by simp [c], rfl⟩
theorem gnum_any (x : Int) (q : Bool) (hq : q = true ↔ 0 ≤ x ∧ x ≤ 1000) (w : World) :
    Calls Try.prog 48 #[.int .i64 x] w fun e w' => e = .returned (.bool q) ∧ w = w' := by
  have hd : q = decide ((0 ≤ x) ∧ (x ≤ 1000)) := by rw [Bool.eq_iff_iff, decide_eq_true_iff, hq]; try (first | (unfold Half; omega) | omega)
  subst hd
  clear hq
  by_cases c : 0 ≤ x
  · have d0 : decide (0 ≤ x) = true := by simp; omega
    go_enter Try.func48, Try.ntmps48
    go_wp2_with fail
    go_ret
    exact ⟨by simp [c], rfl⟩
  · have d0 : decide (0 ≤ x) = false := by simp; omega
    go_enter Try.func48, Try.ntmps48
    go_wp2_with fail
    go_ret
    exact ⟨by simp [c], rfl⟩
theorem gexp_any (x : Int) (q : Bool) (hq : q = true ↔ 0 ≤ x ∧ x ≤ 1073741788) (w : World) :
    Calls Try.prog 49 #[.int .i64 x] w fun e w' => e = .returned (.bool q) ∧ w = w' := by
  have hd : q = decide ((0 ≤ x) ∧ (x < 1073741789)) := by rw [Bool.eq_iff_iff, decide_eq_true_iff, hq]; try (first | (unfold Half; omega) | omega)
  subst hd
  clear hq
  by_cases c : 0 ≤ x
  · have d0 : decide (0 ≤ x) = true := by simp; omega
    go_enter Try.func49, Try.ntmps49
    go_wp2_with fail
    go_ret
    exact ⟨by simp [c], rfl⟩
  · have d0 : decide (0 ≤ x) = false := by simp; omega
    go_enter Try.func49, Try.ntmps49
    go_wp2_with fail
    go_ret
    exact ⟨by simp [c], rfl⟩
set_option maxRecDepth 100000 in
set_option maxHeartbeats 8000000 in
theorem gnames_any (h a r : Int) (q : Bool) (hq : q = true ↔ RqOk h a r) (w : World) :
    Calls Try.prog 39 #[.int .i64 h, .int .i64 a, .int .i64 r] w fun e w' => e = .returned (.bool q) ∧ w = w' := by
  unfold RqOk at hq
  by_cases c0 : 1 ≤ h
  rotate_left
  · obtain rfl : q = false := by rw [← Bool.not_eq_true, hq]; omega
    clear hq
    have d0 : decide (1 ≤ h) = false := by simp; omega
    go_enter Try.func39, Try.ntmps39
    go_wp2_with fail
    go_ret
    exact ⟨rfl, rfl⟩
  by_cases c1 : h ≤ 64
  rotate_left
  · obtain rfl : q = false := by rw [← Bool.not_eq_true, hq]; omega
    clear hq
    have d0 : decide (1 ≤ h) = true := by simp; omega
    have d1 : decide (h ≤ 64) = false := by simp; omega
    go_enter Try.func39, Try.ntmps39
    go_wp2_with fail
    go_ret
    exact ⟨rfl, rfl⟩
  by_cases c2 : 1 ≤ a
  rotate_left
  · obtain rfl : q = false := by rw [← Bool.not_eq_true, hq]; omega
    clear hq
    have d0 : decide (1 ≤ h) = true := by simp; omega
    have d1 : decide (h ≤ 64) = true := by simp; omega
    have d2 : decide (1 ≤ a) = false := by simp; omega
    go_enter Try.func39, Try.ntmps39
    go_wp2_with fail
    go_ret
    exact ⟨rfl, rfl⟩
  by_cases c3 : a ≤ 16
  rotate_left
  · obtain rfl : q = false := by rw [← Bool.not_eq_true, hq]; omega
    clear hq
    have d0 : decide (1 ≤ h) = true := by simp; omega
    have d1 : decide (h ≤ 64) = true := by simp; omega
    have d2 : decide (1 ≤ a) = true := by simp; omega
    have d3 : decide (a ≤ 16) = false := by simp; omega
    go_enter Try.func39, Try.ntmps39
    go_wp2_with fail
    go_ret
    exact ⟨rfl, rfl⟩
  by_cases c4 : 1 ≤ r
  rotate_left
  · obtain rfl : q = false := by rw [← Bool.not_eq_true, hq]; omega
    clear hq
    have d0 : decide (1 ≤ h) = true := by simp; omega
    have d1 : decide (h ≤ 64) = true := by simp; omega
    have d2 : decide (1 ≤ a) = true := by simp; omega
    have d3 : decide (a ≤ 16) = true := by simp; omega
    have d4 : decide (1 ≤ r) = false := by simp; omega
    go_enter Try.func39, Try.ntmps39
    go_wp2_with fail
    go_ret
    exact ⟨rfl, rfl⟩
  by_cases c5 : r ≤ 200
  rotate_left
  · obtain rfl : q = false := by rw [← Bool.not_eq_true, hq]; omega
    clear hq
    have d0 : decide (1 ≤ h) = true := by simp; omega
    have d1 : decide (h ≤ 64) = true := by simp; omega
    have d2 : decide (1 ≤ a) = true := by simp; omega
    have d3 : decide (a ≤ 16) = true := by simp; omega
    have d4 : decide (1 ≤ r) = true := by simp; omega
    have d5 : decide (r ≤ 200) = false := by simp; omega
    go_enter Try.func39, Try.ntmps39
    go_wp2_with fail
    go_ret
    exact ⟨rfl, rfl⟩
  obtain rfl : q = true := hq.2 ⟨⟨c0, c1⟩, ⟨c2, c3⟩, c4, c5⟩
  clear hq
  have d0 : decide (1 ≤ h) = true := by simp; omega
  have d1 : decide (h ≤ 64) = true := by simp; omega
  have d2 : decide (1 ≤ a) = true := by simp; omega
  have d3 : decide (a ≤ 16) = true := by simp; omega
  have d4 : decide (1 ≤ r) = true := by simp; omega
  have d5 : decide (r ≤ 200) = true := by simp; omega
  go_enter Try.func39, Try.ntmps39
  go_wp2_with fail
  go_ret
  exact ⟨rfl, rfl⟩
set_option maxRecDepth 100000 in
set_option maxHeartbeats 8000000 in
theorem gvreq_any (q : Rq) (b : Bool) (hb : b = true ↔ q.Ok) (w : World) :
    Calls Try.prog 22 #[rqV q] w (Gives (.bool b) w) := by
  obtain ⟨h, a, r, n⟩ := q
  have K1 := Lib.hid (gnames_any h a r b hb)
  clear hb
  unfold rqV
  dsimp only
  obtain ⟨W, hW⟩ : ∃ W, w.alloc (.cells #[.int .i64 h, .int .i64 a, .int .i64 r, .int .u64 n] 24) = W := ⟨_, rfl⟩
  have T0 : Hid (Four W w.heap.size 24 (.int .i64 h) (.int .i64 a) (.int .i64 r) (.int .u64 n)) := by rw [← hW]; exact Four.new w _ _ _ _ _
  have B0 : Hid (Below w.heap.size w W) := by rw [← hW]; exact below_alloc w _
  have t0 := T0.out.c0
  have t1 := T0.out.c1
  have t2 := T0.out.c2
  have t3 := T0.out.c3
  have tl := T0.out.lt
  go_enter Try.func22, Try.ntmps22
  go_wp2_with (go_at_call 39; (with_reducible refine (K1.out _).mono ?_); rintro e w' ⟨rfl, rfl⟩; clear K1)
  go_ret
  exact ⟨rfl, B0.out⟩
set_option maxRecDepth 100000 in
set_option maxHeartbeats 8000000 in
theorem gvrep_any (p : Rp) (b : Bool) (hb : b = true ↔ p.Ok) (w : World) :
    Calls Try.prog 32 #[rpV p] w (Gives (.bool b) w) := by
  obtain ⟨a, h, r, n, l, u, k, t, c, s⟩ := p
  unfold Rp.Ok at hb
  dsimp only at hb
  unfold rpV
  dsimp only
  by_cases q1 : RqOk h a r
  rotate_left
  · obtain rfl : b = false := by rw [← Bool.not_eq_true, hb]; intro z; obtain ⟨z1, z2, z3, z4, z5, z6⟩ := z; exact q1 z1
    clear hb
    have K1 := Lib.hid (gnames_any h a r false (by simp [q1]))
    clear q1
    obtain ⟨W, hW⟩ : ∃ W, w.alloc (.cells #[.int .i64 a, .int .i64 h, .int .i64 r, .int .u64 n, .int .i64 l, .int .i64 u, .int .i64 k, .int .i64 t, .int .i64 c, .int .i64 s] 30) = W := ⟨_, rfl⟩
    have T0 : Hid (Cells W w.heap.size 30 #[.int .i64 a, .int .i64 h, .int .i64 r, .int .u64 n, .int .i64 l, .int .i64 u, .int .i64 k, .int .i64 t, .int .i64 c, .int .i64 s]) := by rw [← hW]; exact Cells.new w _ _
    have B0 : Hid (Below w.heap.size w W) := by rw [← hW]; exact below_alloc w _
    have t0 := T0.out.c 0 rfl
    have t1 := T0.out.c 1 rfl
    have t2 := T0.out.c 2 rfl
    have t3 := T0.out.c 3 rfl
    have t4 := T0.out.c 4 rfl
    have t5 := T0.out.c 5 rfl
    have t6 := T0.out.c 6 rfl
    have t7 := T0.out.c 7 rfl
    have t8 := T0.out.c 8 rfl
    have t9 := T0.out.c 9 rfl
    have tl := T0.out.lt
    go_enter Try.func32, Try.ntmps32
    go_wp2_with (go_at_call 39; (with_reducible refine (K1.out _).mono ?_); rintro e w' ⟨rfl, rfl⟩; clear K1)
    go_ret
    exact ⟨rfl, B0.out⟩
  by_cases q2 : IvOk l u
  rotate_left
  · obtain rfl : b = false := by rw [← Bool.not_eq_true, hb]; intro z; obtain ⟨z1, z2, z3, z4, z5, z6⟩ := z; exact q2 z2
    clear hb
    have K1 := Lib.hid (gnames_any h a r true (by simp [q1]))
    have K2 := Lib.hid (gvalid_any l u false (by simp [q2]))
    clear q1 q2
    unfold rgV at K2
    obtain ⟨W, hW⟩ : ∃ W, w.alloc (.cells #[.int .i64 a, .int .i64 h, .int .i64 r, .int .u64 n, .int .i64 l, .int .i64 u, .int .i64 k, .int .i64 t, .int .i64 c, .int .i64 s] 30) = W := ⟨_, rfl⟩
    have T0 : Hid (Cells W w.heap.size 30 #[.int .i64 a, .int .i64 h, .int .i64 r, .int .u64 n, .int .i64 l, .int .i64 u, .int .i64 k, .int .i64 t, .int .i64 c, .int .i64 s]) := by rw [← hW]; exact Cells.new w _ _
    have B0 : Hid (Below w.heap.size w W) := by rw [← hW]; exact below_alloc w _
    have t0 := T0.out.c 0 rfl
    have t1 := T0.out.c 1 rfl
    have t2 := T0.out.c 2 rfl
    have t3 := T0.out.c 3 rfl
    have t4 := T0.out.c 4 rfl
    have t5 := T0.out.c 5 rfl
    have t6 := T0.out.c 6 rfl
    have t7 := T0.out.c 7 rfl
    have t8 := T0.out.c 8 rfl
    have t9 := T0.out.c 9 rfl
    have tl := T0.out.lt
    go_enter Try.func32, Try.ntmps32
    go_wp2_with (first
      | (go_at_call 39; (with_reducible refine (K1.out _).mono ?_); rintro e w' ⟨rfl, rfl⟩; clear K1)
      | (go_at_call 47; (with_reducible refine (K2.out _).mono ?_); rintro e w2 ⟨rfl, b9⟩; replace T0 := Lib.hid (T0.out.below b9 T0.out.lt); replace B0 := Lib.hid (below_more B0.out b9); replace t0 := T0.out.c 0 rfl; replace t1 := T0.out.c 1 rfl; replace t2 := T0.out.c 2 rfl; replace t3 := T0.out.c 3 rfl; replace t4 := T0.out.c 4 rfl; replace t5 := T0.out.c 5 rfl; replace t6 := T0.out.c 6 rfl; replace t7 := T0.out.c 7 rfl; replace t8 := T0.out.c 8 rfl; replace t9 := T0.out.c 9 rfl; replace tl := T0.out.lt; clear b9; clear K2))
    go_ret
    exact ⟨rfl, B0.out⟩
  by_cases q3 : 0 ≤ k ∧ k ≤ 1000
  rotate_left
  · obtain rfl : b = false := by rw [← Bool.not_eq_true, hb]; intro z; obtain ⟨z1, z2, z3, z4, z5, z6⟩ := z; exact q3 z3
    clear hb
    have K1 := Lib.hid (gnames_any h a r true (by simp [q1]))
    have K2 := Lib.hid (gvalid_any l u true (by simp [q2]))
    have K3 := Lib.hid (gnum_any k false (by simp [q3]))
    clear q1 q2 q3
    unfold rgV at K2
    obtain ⟨W, hW⟩ : ∃ W, w.alloc (.cells #[.int .i64 a, .int .i64 h, .int .i64 r, .int .u64 n, .int .i64 l, .int .i64 u, .int .i64 k, .int .i64 t, .int .i64 c, .int .i64 s] 30) = W := ⟨_, rfl⟩
    have T0 : Hid (Cells W w.heap.size 30 #[.int .i64 a, .int .i64 h, .int .i64 r, .int .u64 n, .int .i64 l, .int .i64 u, .int .i64 k, .int .i64 t, .int .i64 c, .int .i64 s]) := by rw [← hW]; exact Cells.new w _ _
    have B0 : Hid (Below w.heap.size w W) := by rw [← hW]; exact below_alloc w _
    have t0 := T0.out.c 0 rfl
    have t1 := T0.out.c 1 rfl
    have t2 := T0.out.c 2 rfl
    have t3 := T0.out.c 3 rfl
    have t4 := T0.out.c 4 rfl
    have t5 := T0.out.c 5 rfl
    have t6 := T0.out.c 6 rfl
    have t7 := T0.out.c 7 rfl
    have t8 := T0.out.c 8 rfl
    have t9 := T0.out.c 9 rfl
    have tl := T0.out.lt
    go_enter Try.func32, Try.ntmps32
    go_wp2_with (first
      | (go_at_call 39; (with_reducible refine (K1.out _).mono ?_); rintro e w' ⟨rfl, rfl⟩; clear K1)
      | (go_at_call 47; (with_reducible refine (K2.out _).mono ?_); rintro e w2 ⟨rfl, b9⟩; replace T0 := Lib.hid (T0.out.below b9 T0.out.lt); replace B0 := Lib.hid (below_more B0.out b9); replace t0 := T0.out.c 0 rfl; replace t1 := T0.out.c 1 rfl; replace t2 := T0.out.c 2 rfl; replace t3 := T0.out.c 3 rfl; replace t4 := T0.out.c 4 rfl; replace t5 := T0.out.c 5 rfl; replace t6 := T0.out.c 6 rfl; replace t7 := T0.out.c 7 rfl; replace t8 := T0.out.c 8 rfl; replace t9 := T0.out.c 9 rfl; replace tl := T0.out.lt; clear b9; clear K2)
      | (go_at_call 48; (with_reducible refine (K3.out _).mono ?_); rintro e w' ⟨rfl, rfl⟩; clear K3))
    go_ret
    exact ⟨rfl, B0.out⟩
  by_cases q4 : 0 ≤ t ∧ t ≤ 1000
  rotate_left
  · obtain rfl : b = false := by rw [← Bool.not_eq_true, hb]; intro z; obtain ⟨z1, z2, z3, z4, z5, z6⟩ := z; exact q4 z4
    clear hb
    have K1 := Lib.hid (gnames_any h a r true (by simp [q1]))
    have K2 := Lib.hid (gvalid_any l u true (by simp [q2]))
    have K3 := Lib.hid (gnum_any k true (by simp [q3]))
    have K4 := Lib.hid (gnum_any t false (by simp [q4]))
    clear q1 q2 q3 q4
    unfold rgV at K2
    obtain ⟨W, hW⟩ : ∃ W, w.alloc (.cells #[.int .i64 a, .int .i64 h, .int .i64 r, .int .u64 n, .int .i64 l, .int .i64 u, .int .i64 k, .int .i64 t, .int .i64 c, .int .i64 s] 30) = W := ⟨_, rfl⟩
    have T0 : Hid (Cells W w.heap.size 30 #[.int .i64 a, .int .i64 h, .int .i64 r, .int .u64 n, .int .i64 l, .int .i64 u, .int .i64 k, .int .i64 t, .int .i64 c, .int .i64 s]) := by rw [← hW]; exact Cells.new w _ _
    have B0 : Hid (Below w.heap.size w W) := by rw [← hW]; exact below_alloc w _
    have t0 := T0.out.c 0 rfl
    have t1 := T0.out.c 1 rfl
    have t2 := T0.out.c 2 rfl
    have t3 := T0.out.c 3 rfl
    have t4 := T0.out.c 4 rfl
    have t5 := T0.out.c 5 rfl
    have t6 := T0.out.c 6 rfl
    have t7 := T0.out.c 7 rfl
    have t8 := T0.out.c 8 rfl
    have t9 := T0.out.c 9 rfl
    have tl := T0.out.lt
    go_enter Try.func32, Try.ntmps32
    go_wp2_with (first
      | (go_at_call 39; (with_reducible refine (K1.out _).mono ?_); rintro e w' ⟨rfl, rfl⟩; clear K1)
      | (go_at_call 47; (with_reducible refine (K2.out _).mono ?_); rintro e w2 ⟨rfl, b9⟩; replace T0 := Lib.hid (T0.out.below b9 T0.out.lt); replace B0 := Lib.hid (below_more B0.out b9); replace t0 := T0.out.c 0 rfl; replace t1 := T0.out.c 1 rfl; replace t2 := T0.out.c 2 rfl; replace t3 := T0.out.c 3 rfl; replace t4 := T0.out.c 4 rfl; replace t5 := T0.out.c 5 rfl; replace t6 := T0.out.c 6 rfl; replace t7 := T0.out.c 7 rfl; replace t8 := T0.out.c 8 rfl; replace t9 := T0.out.c 9 rfl; replace tl := T0.out.lt; clear b9; clear K2)
      | (go_at_call 48; (with_reducible refine (K3.out _).mono ?_); rintro e w' ⟨rfl, rfl⟩; clear K3)
      | (go_at_call 48; (with_reducible refine (K4.out _).mono ?_); rintro e w' ⟨rfl, rfl⟩; clear K4))
    go_ret
    exact ⟨rfl, B0.out⟩
  by_cases q5 : 0 ≤ c ∧ c ≤ 1073741788
  rotate_left
  · obtain rfl : b = false := by rw [← Bool.not_eq_true, hb]; intro z; obtain ⟨z1, z2, z3, z4, z5, z6⟩ := z; exact q5 z5
    clear hb
    have K1 := Lib.hid (gnames_any h a r true (by simp [q1]))
    have K2 := Lib.hid (gvalid_any l u true (by simp [q2]))
    have K3 := Lib.hid (gnum_any k true (by simp [q3]))
    have K4 := Lib.hid (gnum_any t true (by simp [q4]))
    have K5 := Lib.hid (gexp_any c false (by simp [q5]))
    clear q1 q2 q3 q4 q5
    unfold rgV at K2
    obtain ⟨W, hW⟩ : ∃ W, w.alloc (.cells #[.int .i64 a, .int .i64 h, .int .i64 r, .int .u64 n, .int .i64 l, .int .i64 u, .int .i64 k, .int .i64 t, .int .i64 c, .int .i64 s] 30) = W := ⟨_, rfl⟩
    have T0 : Hid (Cells W w.heap.size 30 #[.int .i64 a, .int .i64 h, .int .i64 r, .int .u64 n, .int .i64 l, .int .i64 u, .int .i64 k, .int .i64 t, .int .i64 c, .int .i64 s]) := by rw [← hW]; exact Cells.new w _ _
    have B0 : Hid (Below w.heap.size w W) := by rw [← hW]; exact below_alloc w _
    have t0 := T0.out.c 0 rfl
    have t1 := T0.out.c 1 rfl
    have t2 := T0.out.c 2 rfl
    have t3 := T0.out.c 3 rfl
    have t4 := T0.out.c 4 rfl
    have t5 := T0.out.c 5 rfl
    have t6 := T0.out.c 6 rfl
    have t7 := T0.out.c 7 rfl
    have t8 := T0.out.c 8 rfl
    have t9 := T0.out.c 9 rfl
    have tl := T0.out.lt
    go_enter Try.func32, Try.ntmps32
    go_wp2_with (first
      | (go_at_call 39; (with_reducible refine (K1.out _).mono ?_); rintro e w' ⟨rfl, rfl⟩; clear K1)
      | (go_at_call 47; (with_reducible refine (K2.out _).mono ?_); rintro e w2 ⟨rfl, b9⟩; replace T0 := Lib.hid (T0.out.below b9 T0.out.lt); replace B0 := Lib.hid (below_more B0.out b9); replace t0 := T0.out.c 0 rfl; replace t1 := T0.out.c 1 rfl; replace t2 := T0.out.c 2 rfl; replace t3 := T0.out.c 3 rfl; replace t4 := T0.out.c 4 rfl; replace t5 := T0.out.c 5 rfl; replace t6 := T0.out.c 6 rfl; replace t7 := T0.out.c 7 rfl; replace t8 := T0.out.c 8 rfl; replace t9 := T0.out.c 9 rfl; replace tl := T0.out.lt; clear b9; clear K2)
      | (go_at_call 48; (with_reducible refine (K3.out _).mono ?_); rintro e w' ⟨rfl, rfl⟩; clear K3)
      | (go_at_call 48; (with_reducible refine (K4.out _).mono ?_); rintro e w' ⟨rfl, rfl⟩; clear K4)
      | (go_at_call 49; (with_reducible refine (K5.out _).mono ?_); rintro e w' ⟨rfl, rfl⟩; clear K5))
    go_ret
    exact ⟨rfl, B0.out⟩
  by_cases q6 : 0 ≤ s ∧ s ≤ 1073741788
  rotate_left
  · obtain rfl : b = false := by rw [← Bool.not_eq_true, hb]; intro z; obtain ⟨z1, z2, z3, z4, z5, z6⟩ := z; exact q6 z6
    clear hb
    have K1 := Lib.hid (gnames_any h a r true (by simp [q1]))
    have K2 := Lib.hid (gvalid_any l u true (by simp [q2]))
    have K3 := Lib.hid (gnum_any k true (by simp [q3]))
    have K4 := Lib.hid (gnum_any t true (by simp [q4]))
    have K5 := Lib.hid (gexp_any c true (by simp [q5]))
    have K6 := Lib.hid (gexp_any s false (by simp [q6]))
    clear q1 q2 q3 q4 q5 q6
    unfold rgV at K2
    obtain ⟨W, hW⟩ : ∃ W, w.alloc (.cells #[.int .i64 a, .int .i64 h, .int .i64 r, .int .u64 n, .int .i64 l, .int .i64 u, .int .i64 k, .int .i64 t, .int .i64 c, .int .i64 s] 30) = W := ⟨_, rfl⟩
    have T0 : Hid (Cells W w.heap.size 30 #[.int .i64 a, .int .i64 h, .int .i64 r, .int .u64 n, .int .i64 l, .int .i64 u, .int .i64 k, .int .i64 t, .int .i64 c, .int .i64 s]) := by rw [← hW]; exact Cells.new w _ _
    have B0 : Hid (Below w.heap.size w W) := by rw [← hW]; exact below_alloc w _
    have t0 := T0.out.c 0 rfl
    have t1 := T0.out.c 1 rfl
    have t2 := T0.out.c 2 rfl
    have t3 := T0.out.c 3 rfl
    have t4 := T0.out.c 4 rfl
    have t5 := T0.out.c 5 rfl
    have t6 := T0.out.c 6 rfl
    have t7 := T0.out.c 7 rfl
    have t8 := T0.out.c 8 rfl
    have t9 := T0.out.c 9 rfl
    have tl := T0.out.lt
    go_enter Try.func32, Try.ntmps32
    go_wp2_with (first
      | (go_at_call 39; (with_reducible refine (K1.out _).mono ?_); rintro e w' ⟨rfl, rfl⟩; clear K1)
      | (go_at_call 47; (with_reducible refine (K2.out _).mono ?_); rintro e w2 ⟨rfl, b9⟩; replace T0 := Lib.hid (T0.out.below b9 T0.out.lt); replace B0 := Lib.hid (below_more B0.out b9); replace t0 := T0.out.c 0 rfl; replace t1 := T0.out.c 1 rfl; replace t2 := T0.out.c 2 rfl; replace t3 := T0.out.c 3 rfl; replace t4 := T0.out.c 4 rfl; replace t5 := T0.out.c 5 rfl; replace t6 := T0.out.c 6 rfl; replace t7 := T0.out.c 7 rfl; replace t8 := T0.out.c 8 rfl; replace t9 := T0.out.c 9 rfl; replace tl := T0.out.lt; clear b9; clear K2)
      | (go_at_call 48; (with_reducible refine (K3.out _).mono ?_); rintro e w' ⟨rfl, rfl⟩; clear K3)
      | (go_at_call 48; (with_reducible refine (K4.out _).mono ?_); rintro e w' ⟨rfl, rfl⟩; clear K4)
      | (go_at_call 49; (with_reducible refine (K5.out _).mono ?_); rintro e w' ⟨rfl, rfl⟩; clear K5)
      | (go_at_call 49; (with_reducible refine (K6.out _).mono ?_); rintro e w' ⟨rfl, rfl⟩; clear K6))
    go_ret
    exact ⟨rfl, B0.out⟩
  obtain rfl : b = true := hb.2 ⟨q1, q2, q3, q4, q5, q6⟩
  clear hb
  have K1 := Lib.hid (gnames_any h a r true (by simp [q1]))
  have K2 := Lib.hid (gvalid_any l u true (by simp [q2]))
  have K3 := Lib.hid (gnum_any k true (by simp [q3]))
  have K4 := Lib.hid (gnum_any t true (by simp [q4]))
  have K5 := Lib.hid (gexp_any c true (by simp [q5]))
  have K6 := Lib.hid (gexp_any s true (by simp [q6]))
  clear q1 q2 q3 q4 q5 q6
  unfold rgV at K2
  obtain ⟨W, hW⟩ : ∃ W, w.alloc (.cells #[.int .i64 a, .int .i64 h, .int .i64 r, .int .u64 n, .int .i64 l, .int .i64 u, .int .i64 k, .int .i64 t, .int .i64 c, .int .i64 s] 30) = W := ⟨_, rfl⟩
  have T0 : Hid (Cells W w.heap.size 30 #[.int .i64 a, .int .i64 h, .int .i64 r, .int .u64 n, .int .i64 l, .int .i64 u, .int .i64 k, .int .i64 t, .int .i64 c, .int .i64 s]) := by rw [← hW]; exact Cells.new w _ _
  have B0 : Hid (Below w.heap.size w W) := by rw [← hW]; exact below_alloc w _
  have t0 := T0.out.c 0 rfl
  have t1 := T0.out.c 1 rfl
  have t2 := T0.out.c 2 rfl
  have t3 := T0.out.c 3 rfl
  have t4 := T0.out.c 4 rfl
  have t5 := T0.out.c 5 rfl
  have t6 := T0.out.c 6 rfl
  have t7 := T0.out.c 7 rfl
  have t8 := T0.out.c 8 rfl
  have t9 := T0.out.c 9 rfl
  have tl := T0.out.lt
  go_enter Try.func32, Try.ntmps32
  go_wp2_with (first
    | (go_at_call 39; (with_reducible refine (K1.out _).mono ?_); rintro e w' ⟨rfl, rfl⟩; clear K1)
    | (go_at_call 47; (with_reducible refine (K2.out _).mono ?_); rintro e w2 ⟨rfl, b9⟩; replace T0 := Lib.hid (T0.out.below b9 T0.out.lt); replace B0 := Lib.hid (below_more B0.out b9); replace t0 := T0.out.c 0 rfl; replace t1 := T0.out.c 1 rfl; replace t2 := T0.out.c 2 rfl; replace t3 := T0.out.c 3 rfl; replace t4 := T0.out.c 4 rfl; replace t5 := T0.out.c 5 rfl; replace t6 := T0.out.c 6 rfl; replace t7 := T0.out.c 7 rfl; replace t8 := T0.out.c 8 rfl; replace t9 := T0.out.c 9 rfl; replace tl := T0.out.lt; clear b9; clear K2)
    | (go_at_call 48; (with_reducible refine (K3.out _).mono ?_); rintro e w' ⟨rfl, rfl⟩; clear K3)
    | (go_at_call 48; (with_reducible refine (K4.out _).mono ?_); rintro e w' ⟨rfl, rfl⟩; clear K4)
    | (go_at_call 49; (with_reducible refine (K5.out _).mono ?_); rintro e w' ⟨rfl, rfl⟩; clear K5)
    | (go_at_call 49; (with_reducible refine (K6.out _).mono ?_); rintro e w' ⟨rfl, rfl⟩; clear K6))
  go_ret
  exact ⟨rfl, B0.out⟩
set_option maxRecDepth 100000 in
set_option maxHeartbeats 8000000 in
theorem gsplit_any (n u v : Int) (hn : U64 n) (hu : n / 4294967296 = u) (hv : n % 4294967296 = v) (w : World) :
    Calls Try.prog 23 #[.int .u64 n] w (Gives (rgV u v) w) := by
  obtain ⟨n1, n2⟩ := hn
  have u1 : 0 ≤ u ∧ u ≤ 4294967295 := by omega
  have v1 : 0 ≤ v ∧ v ≤ 4294967295 := by omega
  have e1 : IntKind.i64.wrap u = u := IntWalk.i64_in _ (by omega)
  have e2 : IntKind.i64.wrap v = v := IntWalk.i64_in _ (by omega)
  unfold rgV
  obtain ⟨W, hW⟩ : ∃ W, w.alloc (.cells #[.int .i64 0, .int .i64 0] 53) = W := ⟨_, rfl⟩
  have T0 : Hid (Two W w.heap.size 53 (.int .i64 0) (.int .i64 0)) := by rw [← hW]; exact Two.new w _ _ _
  have B0 : Hid (Below w.heap.size w W) := by rw [← hW]; exact below_alloc w _
  have t0 := T0.out.c0
  have t1 := T0.out.c1
  have tl := T0.out.lt
  have f0 := T0.out.free 0
  have f1 := T0.out.free 1
  go_enter Try.func23, Try.ntmps23
  go_wp2_with fail
  refine bodyPost_ret (v := .agg #[.int .i64 u, .int .i64 v]) (by simp [results, Try.results23, go_sem, t0, t1, tl]) rfl ⟨rfl, ?_⟩
  exact (B0.out.setCell (p := ⟨w.heap.size, 0, none⟩) (Nat.le_refl _) _).setCell (p := ⟨w.heap.size, 1, none⟩) (Nat.le_refl _) _
end Go.Proofs.Ytmfbnajaocaikaa
