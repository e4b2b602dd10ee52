/- Layer 10: the reference's delays and Form, layer 2's Valid; the laws' in, place, within, narrow and some. -/
import Derived.Test.YtkeahbdeddjoeaaLnk
namespace Go.Proofs.Ytkeahbdeddjoeaa
open Go.RowKit Go
set_option linter.unusedVariables false
set_option linter.unusedSimpArgs false

theorem rdel_any (l h : Int) (q : Bool) (hq : q = true ↔ DelOk l h) (w : World) :
    Calls Try.prog 40 #[.int .i64 l, .int .i64 h] w fun e w' => e = .returned (.bool q) ∧ w = w' := by
  have hd : q = decide (0 ≤ l ∧ l ≤ h ∧ h ≤ 1000000) := by rw [Bool.eq_iff_iff, decide_eq_true_iff]; exact hq
  subst hd
  clear hq
  rcases (by omega : l < 0 ∨ (0 ≤ l ∧ h < l) ∨ (0 ≤ l ∧ l ≤ h)) with c | ⟨c, c2⟩ | ⟨c, c2⟩
  · have d0 : decide (0 ≤ l) = false := by simp; omega
    go_enter Try.func40, Try.ntmps40
    go_wp2_with fail
    go_ret
    exact ⟨by simp; omega, rfl⟩
  · have d0 : decide (0 ≤ l) = true := by simp; omega
    have d1 : decide (l ≤ h) = false := by simp; omega
    go_enter Try.func40, Try.ntmps40
    go_wp2_with fail
    go_ret
    exact ⟨by simp; omega, rfl⟩
  · have d0 : decide (0 ≤ l) = true := by simp; omega
    have d1 : decide (l ≤ h) = true := by simp; omega
    go_enter Try.func40, Try.ntmps40
    go_wp2_with fail
    go_ret
    exact ⟨by simp [c, c2], rfl⟩

theorem rform_any (s : Ch) (q : Bool) (hq : q = true ↔ s.Form) (w : World) :
    Calls Try.prog 21 #[chV s] w (Gives (.bool q) w) := by
  obtain ⟨t, a, b, c, d⟩ := s
  obtain ⟨q1, hq1⟩ : ∃ q1 : Bool, q1 = decide (DelOk a b) := ⟨_, rfl⟩
  obtain ⟨q2, hq2⟩ : ∃ q2 : Bool, q2 = decide (DelOk c d) := ⟨_, rfl⟩
  have K1 := Lib.hid (rdel_any a b q1 (by simp [hq1]))
  have K2 := Lib.hid (rdel_any c d q2 (by simp [hq2]))
  have HQ : Hid (q = (q1 && q2)) := by
    unfold Hid
    rw [Bool.eq_iff_iff, hq, hq1, hq2]
    simp [Ch.Form]
  clear hq hq1 hq2
  unfold chV
  dsimp only
  obtain ⟨W, hW⟩ : ∃ W, w.alloc (.cells #[.int .i64 t, .int .i64 a, .int .i64 b, .int .i64 c, .int .i64 d] 24) = W := ⟨_, rfl⟩
  have T0 : Five W w.heap.size 24 (.int .i64 t) (.int .i64 a) (.int .i64 b) (.int .i64 c) (.int .i64 d) := by rw [← hW]; exact Five.new w _ _ _ _ _ _
  have hb : Hid (Below w.heap.size w W) := by rw [← hW]; exact below_alloc w _
  have t1 := T0.c1
  have t2 := T0.c2
  have t3 := T0.c3
  have t4 := T0.c4
  have t5 := T0.lt
  clear T0
  cases q1 with
  | true =>
    go_enter Try.func21, Try.ntmps21
    go_wp2_with (first
      | (go_at_call 40; (with_reducible refine (K1.out _).mono ?_); rintro e w' ⟨rfl, rfl⟩; clear K1)
      | (go_at_call 40; (with_reducible refine (K2.out _).mono ?_); rintro e w' ⟨rfl, rfl⟩; clear K2))
    go_ret
    exact ⟨by rw [HQ.out]; rfl, hb.out⟩
  | false =>
    go_enter Try.func21, Try.ntmps21
    go_wp2_with (go_at_call 40; (with_reducible refine (K1.out _).mono ?_); rintro e w' ⟨rfl, rfl⟩; clear K1)
    go_ret
    exact ⟨by rw [HQ.out]; rfl, hb.out⟩

theorem rvalid_any (l h : Int) (q : Bool) (hq : q = true ↔ IvOk l h) (w : World) :
    Calls Try.prog 25 #[rgV l h] w (Gives (.bool q) w) := by
  have hd : q = decide (0 ≤ l ∧ l ≤ h ∧ h ≤ 3000000000000000) := by rw [Bool.eq_iff_iff, decide_eq_true_iff]; exact hq
  subst hd
  clear hq
  unfold rgV
  obtain ⟨W, hW⟩ : ∃ W, w.alloc (.cells #[.int .i64 l, .int .i64 h] 26) = W := ⟨_, rfl⟩
  have T0 : Two W w.heap.size 26 (.int .i64 l) (.int .i64 h) := by rw [← hW]; exact Two.new w _ _ _
  have hb : Hid (Below w.heap.size w W) := by rw [← hW]; exact below_alloc w _
  have t0 := T0.c0
  have t1 := T0.c1
  have t4 := T0.lt
  clear T0
  rcases (by omega : l < 0 ∨ (0 ≤ l ∧ h < l) ∨ (0 ≤ l ∧ l ≤ h)) with c | ⟨c, c2⟩ | ⟨c, c2⟩
  · have d0 : decide (0 ≤ l) = false := by simp; omega
    go_enter Try.func25, Try.ntmps25
    go_wp2_with fail
    go_ret
    exact ⟨by simp; omega, hb.out⟩
  · have d0 : decide (0 ≤ l) = true := by simp; omega
    have d1 : decide (l ≤ h) = false := by simp; omega
    go_enter Try.func25, Try.ntmps25
    go_wp2_with fail
    go_ret
    exact ⟨by simp; omega, hb.out⟩
  · have d0 : decide (0 ≤ l) = true := by simp; omega
    have d1 : decide (l ≤ h) = true := by simp; omega
    go_enter Try.func25, Try.ntmps25
    go_wp2_with fail
    go_ret
    exact ⟨by simp [c, c2], hb.out⟩

def hasR (l h x : Int) : Bool := decide (l ≤ x) && decide (x ≤ h)
theorem in_any (l h x : Int) (q : Bool) (hq : q = true ↔ l ≤ x ∧ x ≤ h) (w : World) :
    Calls Try.prog 22 #[.int .i64 x, rgV l h] w (Gives (.bool q) w) := by
  have hd : q = decide (l ≤ x ∧ x ≤ h) := by rw [Bool.eq_iff_iff, decide_eq_true_iff]; exact hq
  subst hd
  clear hq
  unfold rgV
  obtain ⟨W, hW⟩ : ∃ W, w.alloc (.cells #[.int .i64 l, .int .i64 h] 26) = W := ⟨_, rfl⟩
  have T0 : Two W w.heap.size 26 (.int .i64 l) (.int .i64 h) := by rw [← hW]; exact Two.new w _ _ _
  have hb : Hid (Below w.heap.size w W) := by rw [← hW]; exact below_alloc w _
  have t0 := T0.c0
  have t1 := T0.c1
  have t4 := T0.lt
  clear T0
  by_cases c : l ≤ x
  · have d0 : decide (l ≤ x) = true := by simp; omega
    go_enter Try.func22, Try.ntmps22
    go_wp2_with fail
    go_ret
    exact ⟨by simp [c], hb.out⟩
  · have d0 : decide (l ≤ x) = false := by simp; omega
    go_enter Try.func22, Try.ntmps22
    go_wp2_with fail
    go_ret
    exact ⟨by simp [c], hb.out⟩

theorem within_any (a b l h : Int) (q : Bool) (hq : q = true ↔ l ≤ a ∧ b ≤ h) (w : World) :
    Calls Try.prog 27 #[rgV a b, rgV l h] w (Gives (.bool q) w) := by
  have hd : q = decide (l ≤ a ∧ b ≤ h) := by rw [Bool.eq_iff_iff, decide_eq_true_iff]; exact hq
  subst hd
  clear hq
  unfold rgV
  obtain ⟨W, hW⟩ : ∃ W, (w.alloc (.cells #[.int .i64 a, .int .i64 b] 26)).alloc (.cells #[.int .i64 l, .int .i64 h] 26) = W := ⟨_, rfl⟩
  have T0 : Two W w.heap.size 26 (.int .i64 a) (.int .i64 b) := by rw [← hW]; exact (Two.new w _ _ _).alloc _
  have T1 : Two W (w.heap.size + 1) 26 (.int .i64 l) (.int .i64 h) := by
    rw [← hW]
    have k := Two.new (w.alloc (.cells #[.int .i64 a, .int .i64 b] 26)) 26 (.int .i64 l) (.int .i64 h)
    rwa [show (w.alloc (.cells #[.int .i64 a, .int .i64 b] 26)).heap.size = w.heap.size + 1 by simp] at k
  have hb : Hid (Below w.heap.size w W) := by rw [← hW]; exact ((below_alloc w _).alloc (by simp) _)
  have t0 := T0.c0
  have t1 := T0.c1
  have t4 := T0.lt
  have u0 := T1.c0
  have u1 := T1.c1
  have u4 := T1.lt
  clear T0 T1
  by_cases c : l ≤ a
  · have d0 : decide (l ≤ a) = true := by simp; omega
    go_enter Try.func27, Try.ntmps27
    go_wp2_with fail
    go_ret
    exact ⟨by simp [c], hb.out⟩
  · have d0 : decide (l ≤ a) = false := by simp; omega
    go_enter Try.func27, Try.ntmps27
    go_wp2_with fail
    go_ret
    exact ⟨by simp [c], hb.out⟩

/-- A time of an interval. -/
def placeR (l h n : Int) : Int := l + n % (h - l + 1)
theorem place_in {l h : Int} (n : Int) (hi : l ≤ h) : l ≤ placeR l h n ∧ placeR l h n ≤ h := by
  have a := Int.emod_nonneg n (show h - l + 1 ≠ 0 by omega)
  have b := Int.emod_lt_of_pos n (show 0 < h - l + 1 by omega)
  unfold placeR
  omega
theorem place_any (l h n : Int) (hi : IvOk l h) (hn : I64 n) (w : World) :
    Calls Try.prog 23 #[rgV l h, .int .i64 n] w (Gives (.int .i64 (placeR l h n)) w) := by
  obtain ⟨i1, i2, i3⟩ := hi
  obtain ⟨n1, n2⟩ := hn
  unfold rgV
  obtain ⟨W, hW⟩ : ∃ W, w.alloc (.cells #[.int .i64 l, .int .i64 h] 26) = W := ⟨_, rfl⟩
  have T0 : Two W w.heap.size 26 (.int .i64 l) (.int .i64 h) := by rw [← hW]; exact Two.new w _ _ _
  have hb : Hid (Below w.heap.size w W) := by rw [← hW]; exact below_alloc w _
  have t0 := T0.c0
  have t1 := T0.c1
  have t4 := T0.lt
  clear T0
  obtain ⟨m, hm⟩ : ∃ m, h - l + 1 = m := ⟨_, rfl⟩
  have m1 : 1 ≤ m := by omega
  have m2 : m ≤ 3000000000000001 := by omega
  obtain ⟨k, hk⟩ : ∃ k, n % m = k := ⟨_, rfl⟩
  have k1 : 0 ≤ k := by rw [← hk]; exact Int.emod_nonneg n (by omega)
  have k2 : k < m := by rw [← hk]; exact Int.emod_lt_of_pos n (by omega)
  have e : placeR l h n = l + k := by unfold placeR; rw [hm, hk]
  rw [e]
  have m0 : (m == 0) = false := by simp; omega
  have d0 : decide (m < 1) = false := by simp; omega
  obtain ⟨j, hj⟩ : ∃ j, n.tmod m = j := ⟨_, rfl⟩
  by_cases c : j < 0
  · have d1 : decide (j < 0) = true := by simp; omega
    have j1 : j + m = k := by
      rw [← hk, ← hj]
      rcases Int.lt_or_le n 0 with x | x
      · rw [Int.tmod_eq_emod]
        have hd : ¬ (0 ≤ n ∨ m ∣ n) := by
          rintro (y | y)
          · omega
          · have := Int.tmod_eq_zero_of_dvd y; omega
        rw [if_neg hd]
        omega
      · have := Int.tmod_nonneg m x; omega
    have j0 : -3000000000000001 ≤ j := by omega
    clear hk
    go_enter Try.func23, Try.ntmps23
    go_wp2_with fail
    go_ret
    exact ⟨rfl, hb.out⟩
  · have d1 : decide (j < 0) = false := by simp; omega
    have j1 : j = k := by
      rw [← hk, ← hj]
      rcases Int.lt_or_le n 0 with x | x
      · rw [Int.tmod_eq_emod]
        by_cases y : m ∣ n
        · rw [if_pos (.inr y)]; omega
        · exfalso
          have e1 : n.tmod m = n % m - m := by
            rw [Int.tmod_eq_emod, if_neg (by rintro (z | z); omega; exact y z)]; omega
          have := Int.emod_lt_of_pos n (show 0 < m by omega)
          omega
      · exact Int.tmod_eq_emod_of_nonneg x
    subst j1
    clear hk
    go_enter Try.func23, Try.ntmps23
    go_wp2_with fail
    go_ret
    exact ⟨rfl, hb.out⟩
end Go.Proofs.Ytkeahbdeddjoeaa
