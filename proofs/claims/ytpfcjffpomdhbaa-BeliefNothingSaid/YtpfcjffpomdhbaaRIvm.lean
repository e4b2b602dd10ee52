/- Layer 8: layer 2's reference Meet (gen/gen_rest.py writes this). -/
import Derived.Test.YtpfcjffpomdhbaaRAt
namespace Go.Proofs.Ytpfcjffpomdhbaa
open Go.RowKit Go
set_option linter.unusedVariables false
set_option linter.unusedSimpArgs false

def ivMeetR (l h i j : Int) : Int × Int × Bool × Int :=
  if IvOk l h ∧ IvOk i j then (if max l i ≤ min h j then (max l i, min h j, true, 0) else (0, 0, false, 0)) else (0, 0, false, 1)

set_option maxHeartbeats 2000000 in
theorem rivmeet_any (l h i j : Int) (w : World) :
    Calls Try.prog 36 #[rgV l h, rgV i j] w (Gives (.tuple #[rgV (ivMeetR l h i j).1 (ivMeetR l h i j).2.1, .bool (ivMeetR l h i j).2.2.1, .int .i64 (ivMeetR l h i j).2.2.2]) w) := by
  have EM : Hid (ivMeetR l h i j = if IvOk l h ∧ IvOk i j then (if max l i ≤ min h j then (max l i, min h j, true, 0) else (0, 0, false, 0)) else (0, 0, false, 1)) := rfl
  generalize ivMeetR l h i j = R at EM ⊢
  have V1 := Lib.hid (fun q hq => rvalid_any l h q hq)
  have V2 := Lib.hid (fun q hq => rvalid_any i j q hq)
  unfold rgV at V1 V2 ⊢
  obtain ⟨W, hW⟩ : ∃ W, ((w.alloc (.cells #[.int .i64 l, .int .i64 h] 23)).alloc (.cells #[.int .i64 i, .int .i64 j] 23)).alloc (.cells #[.int .i64 0, .int .i64 0] 23) = W := ⟨_, rfl⟩
  have O0 : Hid (Two W w.heap.size 23 (.int .i64 l) (.int .i64 h) ∧ Two W (w.heap.size + 1) 23 (.int .i64 i) (.int .i64 j) ∧ Two W (w.heap.size + 1 + 1) 23 (.int .i64 0) (.int .i64 0)) := by
    rw [← hW]
    refine ⟨((Two.new w _ _ _).alloc _).alloc _, ?_, ?_⟩
    · have k := Two.new (w.alloc (.cells #[.int .i64 l, .int .i64 h] 23)) 23 (.int .i64 i) (.int .i64 j)
      rw [show (w.alloc (.cells #[.int .i64 l, .int .i64 h] 23)).heap.size = w.heap.size + 1 by simp] at k
      exact k.alloc _
    · have k := Two.new ((w.alloc (.cells #[.int .i64 l, .int .i64 h] 23)).alloc (.cells #[.int .i64 i, .int .i64 j] 23)) 23 (.int .i64 0) (.int .i64 0)
      rwa [show ((w.alloc (.cells #[.int .i64 l, .int .i64 h] 23)).alloc (.cells #[.int .i64 i, .int .i64 j] 23)).heap.size = w.heap.size + 1 + 1 by simp] at k
  have BW : Hid (Below w.heap.size w W) := by rw [← hW]; exact (((below_alloc w _).alloc (by simp) _).alloc (by simp; omega) _)
  have t0 := O0.out.1.c0
  have t1 := O0.out.1.c1
  have t2 := O0.out.1.lt
  have u0 := O0.out.2.1.c0
  have u1 := O0.out.2.1.c1
  have u2 := O0.out.2.1.lt
  have v0 := O0.out.2.2.c0
  have v1 := O0.out.2.2.c1
  have v2 := O0.out.2.2.free 0
  have v3 := O0.out.2.2.free 1
  have v4 := O0.out.2.2.lt
  by_cases q1 : IvOk l h
  · have V1 := Lib.hid (V1.out true ⟨fun _ => q1, fun _ => rfl⟩)
    by_cases q2 : IvOk i j
    · have V2 := Lib.hid (V2.out true ⟨fun _ => q2, fun _ => rfl⟩)
      have EM := Lib.hid (EM.out.trans (if_pos ⟨q1, q2⟩))
      clear q1 q2
      by_cases c : max l i ≤ min h j
      · have E := Lib.hid (EM.out.trans (if_pos c))
        have d1 : decide (min h j < max l i) = false := by simp only [decide_eq_false_iff_not]; omega
        clear c EM
        go_enter Try.func36, Try.ntmps36
        go_wp2_with (first
          | (go_at_call 26; (with_reducible refine (V1.out _).mono ?_); rintro e w1 ⟨rfl, b1⟩; have O1 : Hid (Two w1 w.heap.size 23 (.int .i64 l) (.int .i64 h) ∧ Two w1 (w.heap.size + 1) 23 (.int .i64 i) (.int .i64 j) ∧ Two w1 (w.heap.size + 1 + 1) 23 (.int .i64 0) (.int .i64 0)) := ⟨O0.out.1.below b1 O0.out.1.lt, O0.out.2.1.below b1 O0.out.2.1.lt, O0.out.2.2.below b1 O0.out.2.2.lt⟩; have B1 := Lib.hid (below_more BW.out b1); have t0 := O1.out.1.c0; have t1 := O1.out.1.c1; have t2 := O1.out.1.lt; have u0 := O1.out.2.1.c0; have u1 := O1.out.2.1.c1; have u2 := O1.out.2.1.lt; have v0 := O1.out.2.2.c0; have v1 := O1.out.2.2.c1; have v2 := O1.out.2.2.free 0; have v3 := O1.out.2.2.free 1; have v4 := O1.out.2.2.lt; clear b1 V1)
          | (go_at_call 26; (with_reducible refine (V2.out _).mono ?_); rintro e w2 ⟨rfl, b2⟩; have O2 : Hid (Two w2 w.heap.size 23 (.int .i64 l) (.int .i64 h) ∧ Two w2 (w.heap.size + 1) 23 (.int .i64 i) (.int .i64 j) ∧ Two w2 (w.heap.size + 1 + 1) 23 (.int .i64 0) (.int .i64 0)) := ⟨O1.out.1.below b2 O1.out.1.lt, O1.out.2.1.below b2 O1.out.2.1.lt, O1.out.2.2.below b2 O1.out.2.2.lt⟩; have B2 := Lib.hid (below_more B1.out b2); have t0 := O2.out.1.c0; have t1 := O2.out.1.c1; have t2 := O2.out.1.lt; have u0 := O2.out.2.1.c0; have u1 := O2.out.2.1.c1; have u2 := O2.out.2.1.lt; have v0 := O2.out.2.2.c0; have v1 := O2.out.2.2.c1; have v2 := O2.out.2.2.free 0; have v3 := O2.out.2.2.free 1; have v4 := O2.out.2.2.lt; clear b2 V2))
        refine bodyPost_ret (v := .tuple #[.agg #[.int .i64 (max l i), .int .i64 (min h j)], .bool true, .int .i64 0]) (by simp [results, Try.results36, go_sem, v0, v1, v4]) rfl ⟨by rw [E.out], ?_⟩
        exact (B2.out.setCell (p := ⟨w.heap.size + 1 + 1, 0, none⟩) (by show w.heap.size ≤ w.heap.size + 1 + 1; omega) _).setCell (p := ⟨w.heap.size + 1 + 1, 1, none⟩) (by show w.heap.size ≤ w.heap.size + 1 + 1; omega) _
      · have E := Lib.hid (EM.out.trans (if_neg c))
        have d1 : decide (min h j < max l i) = true := by simp only [decide_eq_true_eq]; omega
        clear c EM
        go_enter Try.func36, Try.ntmps36
        go_wp2_with (first
          | (go_at_call 26; (with_reducible refine (V1.out _).mono ?_); rintro e w1 ⟨rfl, b1⟩; have O1 : Hid (Two w1 w.heap.size 23 (.int .i64 l) (.int .i64 h) ∧ Two w1 (w.heap.size + 1) 23 (.int .i64 i) (.int .i64 j) ∧ Two w1 (w.heap.size + 1 + 1) 23 (.int .i64 0) (.int .i64 0)) := ⟨O0.out.1.below b1 O0.out.1.lt, O0.out.2.1.below b1 O0.out.2.1.lt, O0.out.2.2.below b1 O0.out.2.2.lt⟩; have B1 := Lib.hid (below_more BW.out b1); have t0 := O1.out.1.c0; have t1 := O1.out.1.c1; have t2 := O1.out.1.lt; have u0 := O1.out.2.1.c0; have u1 := O1.out.2.1.c1; have u2 := O1.out.2.1.lt; have v0 := O1.out.2.2.c0; have v1 := O1.out.2.2.c1; have v2 := O1.out.2.2.free 0; have v3 := O1.out.2.2.free 1; have v4 := O1.out.2.2.lt; clear b1 V1)
          | (go_at_call 26; (with_reducible refine (V2.out _).mono ?_); rintro e w2 ⟨rfl, b2⟩; have O2 : Hid (Two w2 w.heap.size 23 (.int .i64 l) (.int .i64 h) ∧ Two w2 (w.heap.size + 1) 23 (.int .i64 i) (.int .i64 j) ∧ Two w2 (w.heap.size + 1 + 1) 23 (.int .i64 0) (.int .i64 0)) := ⟨O1.out.1.below b2 O1.out.1.lt, O1.out.2.1.below b2 O1.out.2.1.lt, O1.out.2.2.below b2 O1.out.2.2.lt⟩; have B2 := Lib.hid (below_more B1.out b2); have t0 := O2.out.1.c0; have t1 := O2.out.1.c1; have t2 := O2.out.1.lt; have u0 := O2.out.2.1.c0; have u1 := O2.out.2.1.c1; have u2 := O2.out.2.1.lt; have v0 := O2.out.2.2.c0; have v1 := O2.out.2.2.c1; have v2 := O2.out.2.2.free 0; have v3 := O2.out.2.2.free 1; have v4 := O2.out.2.2.lt; clear b2 V2))
        refine bodyPost_ret (v := .tuple #[.agg #[.int .i64 (0), .int .i64 (0)], .bool false, .int .i64 0]) (by simp [results, Try.results36, go_sem, v0, v1, v4]) rfl ⟨by rw [E.out], ?_⟩
        exact (B2.out.setCell (p := ⟨w.heap.size + 1 + 1, 0, none⟩) (by show w.heap.size ≤ w.heap.size + 1 + 1; omega) _).setCell (p := ⟨w.heap.size + 1 + 1, 1, none⟩) (by show w.heap.size ≤ w.heap.size + 1 + 1; omega) _
    · have V2 := Lib.hid (V2.out false ⟨fun h => (by cases h), fun h => absurd h q2⟩)
      have E := Lib.hid (EM.out.trans (if_neg (fun z => q2 z.2)))
      clear q1 q2 EM
      go_enter Try.func36, Try.ntmps36
      go_wp2_with (first
        | (go_at_call 26; (with_reducible refine (V1.out _).mono ?_); rintro e w1 ⟨rfl, b1⟩; have O1 : Hid (Two w1 w.heap.size 23 (.int .i64 l) (.int .i64 h) ∧ Two w1 (w.heap.size + 1) 23 (.int .i64 i) (.int .i64 j) ∧ Two w1 (w.heap.size + 1 + 1) 23 (.int .i64 0) (.int .i64 0)) := ⟨O0.out.1.below b1 O0.out.1.lt, O0.out.2.1.below b1 O0.out.2.1.lt, O0.out.2.2.below b1 O0.out.2.2.lt⟩; have B1 := Lib.hid (below_more BW.out b1); have t0 := O1.out.1.c0; have t1 := O1.out.1.c1; have t2 := O1.out.1.lt; have u0 := O1.out.2.1.c0; have u1 := O1.out.2.1.c1; have u2 := O1.out.2.1.lt; have v0 := O1.out.2.2.c0; have v1 := O1.out.2.2.c1; have v2 := O1.out.2.2.free 0; have v3 := O1.out.2.2.free 1; have v4 := O1.out.2.2.lt; clear b1 V1)
        | (go_at_call 26; (with_reducible refine (V2.out _).mono ?_); rintro e w2 ⟨rfl, b2⟩; have O2 : Hid (Two w2 w.heap.size 23 (.int .i64 l) (.int .i64 h) ∧ Two w2 (w.heap.size + 1) 23 (.int .i64 i) (.int .i64 j) ∧ Two w2 (w.heap.size + 1 + 1) 23 (.int .i64 0) (.int .i64 0)) := ⟨O1.out.1.below b2 O1.out.1.lt, O1.out.2.1.below b2 O1.out.2.1.lt, O1.out.2.2.below b2 O1.out.2.2.lt⟩; have B2 := Lib.hid (below_more B1.out b2); have t0 := O2.out.1.c0; have t1 := O2.out.1.c1; have t2 := O2.out.1.lt; have u0 := O2.out.2.1.c0; have u1 := O2.out.2.1.c1; have u2 := O2.out.2.1.lt; have v0 := O2.out.2.2.c0; have v1 := O2.out.2.2.c1; have v2 := O2.out.2.2.free 0; have v3 := O2.out.2.2.free 1; have v4 := O2.out.2.2.lt; clear b2 V2))
      refine bodyPost_ret (v := .tuple #[.agg #[.int .i64 (0), .int .i64 (0)], .bool false, .int .i64 1]) (by simp [results, Try.results36, go_sem, v0, v1, v4]) rfl ⟨by rw [E.out], ?_⟩
      exact (B2.out.setCell (p := ⟨w.heap.size + 1 + 1, 0, none⟩) (by show w.heap.size ≤ w.heap.size + 1 + 1; omega) _).setCell (p := ⟨w.heap.size + 1 + 1, 1, none⟩) (by show w.heap.size ≤ w.heap.size + 1 + 1; omega) _
  · have V1 := Lib.hid (V1.out false ⟨fun h => (by cases h), fun h => absurd h q1⟩)
    obtain ⟨q, hq⟩ : ∃ q : Bool, q = true ↔ IvOk i j := ⟨decide (IvOk i j), by simp⟩
    have V2 := Lib.hid (V2.out q hq)
    have E := Lib.hid (EM.out.trans (if_neg (fun z => q1 z.1)))
    clear q1 hq EM
    go_enter Try.func36, Try.ntmps36
    go_wp2_with (first
      | (go_at_call 26; (with_reducible refine (V1.out _).mono ?_); rintro e w1 ⟨rfl, b1⟩; have O1 : Hid (Two w1 w.heap.size 23 (.int .i64 l) (.int .i64 h) ∧ Two w1 (w.heap.size + 1) 23 (.int .i64 i) (.int .i64 j) ∧ Two w1 (w.heap.size + 1 + 1) 23 (.int .i64 0) (.int .i64 0)) := ⟨O0.out.1.below b1 O0.out.1.lt, O0.out.2.1.below b1 O0.out.2.1.lt, O0.out.2.2.below b1 O0.out.2.2.lt⟩; have B1 := Lib.hid (below_more BW.out b1); have t0 := O1.out.1.c0; have t1 := O1.out.1.c1; have t2 := O1.out.1.lt; have u0 := O1.out.2.1.c0; have u1 := O1.out.2.1.c1; have u2 := O1.out.2.1.lt; have v0 := O1.out.2.2.c0; have v1 := O1.out.2.2.c1; have v2 := O1.out.2.2.free 0; have v3 := O1.out.2.2.free 1; have v4 := O1.out.2.2.lt; clear b1 V1)
      | (go_at_call 26; (with_reducible refine (V2.out _).mono ?_); rintro e w2 ⟨rfl, b2⟩; have O2 : Hid (Two w2 w.heap.size 23 (.int .i64 l) (.int .i64 h) ∧ Two w2 (w.heap.size + 1) 23 (.int .i64 i) (.int .i64 j) ∧ Two w2 (w.heap.size + 1 + 1) 23 (.int .i64 0) (.int .i64 0)) := ⟨O1.out.1.below b2 O1.out.1.lt, O1.out.2.1.below b2 O1.out.2.1.lt, O1.out.2.2.below b2 O1.out.2.2.lt⟩; have B2 := Lib.hid (below_more B1.out b2); have t0 := O2.out.1.c0; have t1 := O2.out.1.c1; have t2 := O2.out.1.lt; have u0 := O2.out.2.1.c0; have u1 := O2.out.2.1.c1; have u2 := O2.out.2.1.lt; have v0 := O2.out.2.2.c0; have v1 := O2.out.2.2.c1; have v2 := O2.out.2.2.free 0; have v3 := O2.out.2.2.free 1; have v4 := O2.out.2.2.lt; clear b2 V2))
    refine bodyPost_ret (v := .tuple #[.agg #[.int .i64 (0), .int .i64 (0)], .bool false, .int .i64 1]) (by simp [results, Try.results36, go_sem, v0, v1, v4]) rfl ⟨by rw [E.out], ?_⟩
    exact (B2.out.setCell (p := ⟨w.heap.size + 1 + 1, 0, none⟩) (by show w.heap.size ≤ w.heap.size + 1 + 1; omega) _).setCell (p := ⟨w.heap.size + 1 + 1, 1, none⟩) (by show w.heap.size ≤ w.heap.size + 1 + 1; omega) _
end Go.Proofs.Ytpfcjffpomdhbaa
