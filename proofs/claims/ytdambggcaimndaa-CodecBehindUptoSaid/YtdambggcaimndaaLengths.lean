/- Layer 4: the statement of lengths. -/
import Derived.Lib.MinMax
import Derived.Test.YtdambggcaimndaaHead2
namespace Go.Proofs.Ytdambggcaimndaa
open Go.RowKit Go.Sort Go
set_option linter.unusedVariables false

theorem i64_wf' {x : Int} (h : (Lit.int .i64 x).wf = true) : -9223372036854775808 ≤ x ∧ x ≤ 9223372036854775807 := by
  have e1 : IntKind.i64.min = -9223372036854775808 := by decide
  have e2 : IntKind.i64.max = 9223372036854775807 := by decide
  simp only [Lit.wf, Bool.and_eq_true, decide_eq_true_eq, e1, e2] at h
  exact h
theorem one_list (x : Int) : listB [x] = 2 :: intB x := by simp [listB, intB, num, digs_small]
theorem one_bound {x : Int} (h : -9223372036854775808 ≤ x ∧ x ≤ 9223372036854775807) : 2 ≤ (listB [x]).length ∧ (listB [x]).length ≤ 11 := by
  have h1 := intB_pos x
  have h2 := intB_len (x := x) h
  rw [one_list, List.length_cons]; omega
theorem one_mono {x y : Int} (h : 0 ≤ x ∧ x ≤ y ∨ x < 0 ∧ y ≤ x) : (listB [x]).length ≤ (listB [y]).length := by
  rw [one_list, one_list, List.length_cons, List.length_cons]
  have := digs_mono (num x) (num y) (by unfold num; split <;> split <;> omega)
  unfold intB; omega

set_option maxRecDepth 100000 in
set_option maxHeartbeats 8000000 in
theorem lengths_law (x0 x1 : Int) (A2 : Option Addr) (len2 cap2 : Nat) (z2 : List Int) (w : World) (w0 : (Lit.int .i64 x0).wf = true) (w1 : (Lit.int .i64 x1).wf = true)
    (r2 : RowI w.heap.size w A2 len2 z2) (l2 : len2 ≤ cap2) (m2 : cap2 ≤ 9223372036854775807) (n2 : A2 = none → cap2 = 0) :
    Calls Try.prog 8 #[.int .i64 x0, .int .i64 x1, .slice A2 len2 cap2] w (Gives (.bool true) w) := by
  have H := Lib.hid (head_true w)
  have i0 := i64_wf' w0
  have i1 := i64_wf' w1
  obtain ⟨k, hk⟩ : ∃ k, k = min len2 1000 := ⟨_, rfl⟩
  have hm1 : min (len2 : Int) 1000 = (k : Int) := by omega
  have hk1 : k ≤ len2 := by omega
  have hk2 : k ≤ 1000 := by omega
  have R2 := Lib.hid (r2.take hk1)
  generalize z2.take k = l at R2
  have P0 := put_lit [x0] _ rfl (by simp) (by simpa using i0) #[.int .i64 x0] rfl 1 rfl
  have P1 := put_lit [x1] _ rfl (by simp) (by simpa using i1) #[.int .i64 x1] rfl 1 rfl
  have hb0 := one_bound i0
  have hb1 := one_bound i1
  have hmo : (0 ≤ x0 ∧ x0 ≤ x1 ∨ x0 < 0 ∧ x1 ≤ x0) → (listB [x0]).length ≤ (listB [x1]).length := one_mono
  obtain ⟨p, hp⟩ : ∃ p, (listB [x0]).length = p := ⟨_, rfl⟩
  obtain ⟨q, hq⟩ : ∃ q, (listB [x1]).length = q := ⟨_, rfl⟩
  rw [hp] at P0 hb0 hmo
  rw [hq] at P1 hb1 hmo
  have P0 := Lib.hid P0
  have P1 := Lib.hid P1
  have g1 : decide ((p : Int) < 2) = false := by rw [decide_eq_false_iff_not]; omega
  have g2 : decide ((11 : Int) < (p : Int)) = false := by rw [decide_eq_false_iff_not]; omega
  have hf : (listB l).length + 11 = (frameB l).length := (frameB_len l).symm
  have HF := Lib.hid hf
  have hlb : (listB l).length ≤ 10002 := OkL.len ⟨by have := R2.out.1; omega, R2.out.2.2⟩
  have HLB := Lib.hid hlb
  clear r2 hk hp hq w0 w1 i0 i1 hb0 hb1 hf hlb
  by_cases hx : 0 ≤ x0
  · by_cases hy : x0 ≤ x1
    · have f1 : decide ((0 : Int) ≤ x0) = true := by rw [decide_eq_true_eq]; omega
      have f2 : decide (x0 < 0) = false := by rw [decide_eq_false_iff_not]; omega
      have f5 : decide (x0 ≤ x1) = true := by rw [decide_eq_true_eq]; omega
      have f6 : decide ((p : Int) ≤ (q : Int)) = true := by rw [decide_eq_true_eq]; have := hmo (by omega); omega
      have f7 : decide (p ≤ q) = true := by rw [decide_eq_true_eq]; exact hmo (by omega)
      clear hmo hx hy
      go_enter Try.func8, Try.ntmps8
      go_wp2_with (go_at_call 9; refine H.out.mono ?_; rintro e W1 ⟨rfl, b1⟩; refine Hid.out ?_)
      refine Lib.hid ?_
      have B := Lib.hid b1
      have R2 := Lib.hid (R2.out.step b1)
      clear b1
      go_wp2_with fail
      refine (P0.out _).mono ?_
      rintro e W2 ⟨A3, n3, cap3, rfl, rfl, -, -, -, b1⟩
      have B := Lib.hid (below_more B.out b1)
      have R2 := Lib.hid (R2.out.step b1)
      clear b1
      go_wp2_with fail
      refine (P1.out _).mono ?_
      rintro e W3 ⟨A4, n4, cap4, rfl, rfl, -, -, -, b1⟩
      have B := Lib.hid (below_more B.out b1)
      have R2 := Lib.hid (R2.out.step b1)
      clear b1
      have Q := put_ok A2 k cap2 l W3 R2.out hk2
      have Q := Lib.hid Q
      go_wp2_with (go_at_call 11; refine Q.out.mono ?_; rintro e W4 ⟨A5, n5, cap5, rfl, m5⟩; refine Hid.out ?_)
      refine Lib.hid ?_
      have b1 := m5.2.2.2.2.2
      have hn5 := m5.1
      have B := Lib.hid (below_more B.out b1)
      have R2 := Lib.hid (R2.out.step b1)
      have M := Lib.hid (make_ok A2 k cap2 l W4 R2.out hk2)
      have hn5b : n5 ≤ 10002 := by have := HLB.out; omega
      have HN5 := Lib.hid hn5
      clear b1 m5 hn5 Q
      go_wp2_with (go_at_call 14; refine M.out.mono ?_; rintro e W5 ⟨A6, n6, cap6, rfl, m6⟩; refine Hid.out ?_)
      refine Lib.hid ?_
      have B := Lib.hid (below_more B.out m6.2.2.2.2.2)
      have f3 : IntKind.i64.wrap ((n5 : Int) + 11) = (n5 : Int) + 11 := IntWalk.i64_in _ (by omega)
      have f4 : ((n6 : Int) == (n5 : Int) + 11) = true := by
        rw [beq_iff_eq]
        have h1 := m6.1
        have h2 := HN5.out
        have h3 := HF.out
        omega
      clear m6
      go_wp2_with fail
      go_ret
      exact ⟨rfl, B.out⟩
    · have f1 : decide ((0 : Int) ≤ x0) = true := by rw [decide_eq_true_eq]; omega
      have f2 : decide (x0 < 0) = false := by rw [decide_eq_false_iff_not]; omega
      have f5 : decide (x0 ≤ x1) = false := by rw [decide_eq_false_iff_not]; omega
      clear hmo hx hy
      go_enter Try.func8, Try.ntmps8
      go_wp2_with (go_at_call 9; refine H.out.mono ?_; rintro e W1 ⟨rfl, b1⟩; refine Hid.out ?_)
      refine Lib.hid ?_
      have B := Lib.hid b1
      have R2 := Lib.hid (R2.out.step b1)
      clear b1
      go_wp2_with fail
      refine (P0.out _).mono ?_
      rintro e W2 ⟨A3, n3, cap3, rfl, rfl, -, -, -, b1⟩
      have B := Lib.hid (below_more B.out b1)
      have R2 := Lib.hid (R2.out.step b1)
      clear b1
      go_wp2_with fail
      refine (P1.out _).mono ?_
      rintro e W3 ⟨A4, n4, cap4, rfl, rfl, -, -, -, b1⟩
      have B := Lib.hid (below_more B.out b1)
      have R2 := Lib.hid (R2.out.step b1)
      clear b1
      have Q := put_ok A2 k cap2 l W3 R2.out hk2
      have Q := Lib.hid Q
      go_wp2_with (go_at_call 11; refine Q.out.mono ?_; rintro e W4 ⟨A5, n5, cap5, rfl, m5⟩; refine Hid.out ?_)
      refine Lib.hid ?_
      have b1 := m5.2.2.2.2.2
      have hn5 := m5.1
      have B := Lib.hid (below_more B.out b1)
      have R2 := Lib.hid (R2.out.step b1)
      have M := Lib.hid (make_ok A2 k cap2 l W4 R2.out hk2)
      have hn5b : n5 ≤ 10002 := by have := HLB.out; omega
      have HN5 := Lib.hid hn5
      clear b1 m5 hn5 Q
      go_wp2_with (go_at_call 14; refine M.out.mono ?_; rintro e W5 ⟨A6, n6, cap6, rfl, m6⟩; refine Hid.out ?_)
      refine Lib.hid ?_
      have B := Lib.hid (below_more B.out m6.2.2.2.2.2)
      have f3 : IntKind.i64.wrap ((n5 : Int) + 11) = (n5 : Int) + 11 := IntWalk.i64_in _ (by omega)
      have f4 : ((n6 : Int) == (n5 : Int) + 11) = true := by
        rw [beq_iff_eq]
        have h1 := m6.1
        have h2 := HN5.out
        have h3 := HF.out
        omega
      clear m6
      go_wp2_with fail
      go_ret
      exact ⟨rfl, B.out⟩
  · by_cases hy : x1 ≤ x0
    · have f1 : decide ((0 : Int) ≤ x0) = false := by rw [decide_eq_false_iff_not]; omega
      have f2 : decide (x0 < 0) = true := by rw [decide_eq_true_eq]; omega
      have f5 : decide (x1 ≤ x0) = true := by rw [decide_eq_true_eq]; omega
      have f6 : decide ((p : Int) ≤ (q : Int)) = true := by rw [decide_eq_true_eq]; have := hmo (by omega); omega
      have f7 : decide (p ≤ q) = true := by rw [decide_eq_true_eq]; exact hmo (by omega)
      clear hmo hx hy
      go_enter Try.func8, Try.ntmps8
      go_wp2_with (go_at_call 9; refine H.out.mono ?_; rintro e W1 ⟨rfl, b1⟩; refine Hid.out ?_)
      refine Lib.hid ?_
      have B := Lib.hid b1
      have R2 := Lib.hid (R2.out.step b1)
      clear b1
      go_wp2_with fail
      refine (P0.out _).mono ?_
      rintro e W2 ⟨A3, n3, cap3, rfl, rfl, -, -, -, b1⟩
      have B := Lib.hid (below_more B.out b1)
      have R2 := Lib.hid (R2.out.step b1)
      clear b1
      go_wp2_with fail
      refine (P1.out _).mono ?_
      rintro e W3 ⟨A4, n4, cap4, rfl, rfl, -, -, -, b1⟩
      have B := Lib.hid (below_more B.out b1)
      have R2 := Lib.hid (R2.out.step b1)
      clear b1
      have Q := put_ok A2 k cap2 l W3 R2.out hk2
      have Q := Lib.hid Q
      go_wp2_with (go_at_call 11; refine Q.out.mono ?_; rintro e W4 ⟨A5, n5, cap5, rfl, m5⟩; refine Hid.out ?_)
      refine Lib.hid ?_
      have b1 := m5.2.2.2.2.2
      have hn5 := m5.1
      have B := Lib.hid (below_more B.out b1)
      have R2 := Lib.hid (R2.out.step b1)
      have M := Lib.hid (make_ok A2 k cap2 l W4 R2.out hk2)
      have hn5b : n5 ≤ 10002 := by have := HLB.out; omega
      have HN5 := Lib.hid hn5
      clear b1 m5 hn5 Q
      go_wp2_with (go_at_call 14; refine M.out.mono ?_; rintro e W5 ⟨A6, n6, cap6, rfl, m6⟩; refine Hid.out ?_)
      refine Lib.hid ?_
      have B := Lib.hid (below_more B.out m6.2.2.2.2.2)
      have f3 : IntKind.i64.wrap ((n5 : Int) + 11) = (n5 : Int) + 11 := IntWalk.i64_in _ (by omega)
      have f4 : ((n6 : Int) == (n5 : Int) + 11) = true := by
        rw [beq_iff_eq]
        have h1 := m6.1
        have h2 := HN5.out
        have h3 := HF.out
        omega
      clear m6
      go_wp2_with fail
      go_ret
      exact ⟨rfl, B.out⟩
    · have f1 : decide ((0 : Int) ≤ x0) = false := by rw [decide_eq_false_iff_not]; omega
      have f2 : decide (x0 < 0) = true := by rw [decide_eq_true_eq]; omega
      have f5 : decide (x1 ≤ x0) = false := by rw [decide_eq_false_iff_not]; omega
      clear hmo hx hy
      go_enter Try.func8, Try.ntmps8
      go_wp2_with (go_at_call 9; refine H.out.mono ?_; rintro e W1 ⟨rfl, b1⟩; refine Hid.out ?_)
      refine Lib.hid ?_
      have B := Lib.hid b1
      have R2 := Lib.hid (R2.out.step b1)
      clear b1
      go_wp2_with fail
      refine (P0.out _).mono ?_
      rintro e W2 ⟨A3, n3, cap3, rfl, rfl, -, -, -, b1⟩
      have B := Lib.hid (below_more B.out b1)
      have R2 := Lib.hid (R2.out.step b1)
      clear b1
      go_wp2_with fail
      refine (P1.out _).mono ?_
      rintro e W3 ⟨A4, n4, cap4, rfl, rfl, -, -, -, b1⟩
      have B := Lib.hid (below_more B.out b1)
      have R2 := Lib.hid (R2.out.step b1)
      clear b1
      have Q := put_ok A2 k cap2 l W3 R2.out hk2
      have Q := Lib.hid Q
      go_wp2_with (go_at_call 11; refine Q.out.mono ?_; rintro e W4 ⟨A5, n5, cap5, rfl, m5⟩; refine Hid.out ?_)
      refine Lib.hid ?_
      have b1 := m5.2.2.2.2.2
      have hn5 := m5.1
      have B := Lib.hid (below_more B.out b1)
      have R2 := Lib.hid (R2.out.step b1)
      have M := Lib.hid (make_ok A2 k cap2 l W4 R2.out hk2)
      have hn5b : n5 ≤ 10002 := by have := HLB.out; omega
      have HN5 := Lib.hid hn5
      clear b1 m5 hn5 Q
      go_wp2_with (go_at_call 14; refine M.out.mono ?_; rintro e W5 ⟨A6, n6, cap6, rfl, m6⟩; refine Hid.out ?_)
      refine Lib.hid ?_
      have B := Lib.hid (below_more B.out m6.2.2.2.2.2)
      have f3 : IntKind.i64.wrap ((n5 : Int) + 11) = (n5 : Int) + 11 := IntWalk.i64_in _ (by omega)
      have f4 : ((n6 : Int) == (n5 : Int) + 11) = true := by
        rw [beq_iff_eq]
        have h1 := m6.1
        have h2 := HN5.out
        have h3 := HF.out
        omega
      clear m6
      go_wp2_with fail
      go_ret
      exact ⟨rfl, B.out⟩
end Go.Proofs.Ytdambggcaimndaa
