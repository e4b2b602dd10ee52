/- Layer 8: the reference's Meet (gen/gen_rest.py writes this). -/
import Derived.Test.YtpfcjffpomdhbaaRIvm
namespace Go.Proofs.Ytpfcjffpomdhbaa
open Go.RowKit Go
set_option linter.unusedVariables false
set_option linter.unusedSimpArgs false

set_option maxHeartbeats 4000000 in
theorem rmeet_any (p l h i j : Int) (hp : I64 p) (w : World) :
    Calls Try.prog 19 #[blV p l h, rgV i j] w (Gives (.tuple #[blV (meetR p l h i j).1 (meetR p l h i j).2.1 (meetR p l h i j).2.2.1, .bool (meetR p l h i j).2.2.2.1, .int .i64 (meetR p l h i j).2.2.2.2]) w) := by
  have EM : Hid (meetR p l h i j = if BOk p l h ∧ IvOk i j then (if max l i ≤ min h j then (p, max l i, min h j, true, 0) else (p, l, h, false, 0)) else (0, 0, 0, false, 1)) := rfl
  generalize meetR p l h i j = R at EM ⊢
  have V1 := Lib.hid (fun q hq => rbel_any p l h q hq hp)
  have V2 := Lib.hid (fun q hq => rvalid_any i j q hq)
  have MT0 := Lib.hid (rivmeet_any l h i j)
  have EI : Hid (ivMeetR l h i j = if IvOk l h ∧ IvOk i j then (if max l i ≤ min h j then (max l i, min h j, true, 0) else (0, 0, false, 0)) else (0, 0, false, 1)) := rfl
  unfold rgV at V2 MT0 ⊢
  unfold blV at V1 ⊢
  obtain ⟨W, hW⟩ : ∃ W, ((w.alloc (.cells #[.int .i64 p, .int .i64 l, .int .i64 h] 25)).alloc (.cells #[.int .i64 i, .int .i64 j] 23)).alloc (.cells #[.int .i64 0, .int .i64 0, .int .i64 0] 25) = W := ⟨_, rfl⟩
  have O0 : Hid (Three W w.heap.size 25 (.int .i64 p) (.int .i64 l) (.int .i64 h) ∧ Two W (w.heap.size + 1) 23 (.int .i64 i) (.int .i64 j) ∧ Three W (w.heap.size + 1 + 1) 25 (.int .i64 0) (.int .i64 0) (.int .i64 0)) := by
    rw [← hW]
    refine ⟨((Three.new w _ _ _ _).alloc _).alloc _, ?_, ?_⟩
    · have k := Two.new (w.alloc (.cells #[.int .i64 p, .int .i64 l, .int .i64 h] 25)) 23 (.int .i64 i) (.int .i64 j)
      rw [show (w.alloc (.cells #[.int .i64 p, .int .i64 l, .int .i64 h] 25)).heap.size = w.heap.size + 1 by simp] at k
      exact k.alloc _
    · have k := Three.new ((w.alloc (.cells #[.int .i64 p, .int .i64 l, .int .i64 h] 25)).alloc (.cells #[.int .i64 i, .int .i64 j] 23)) 25 (.int .i64 0) (.int .i64 0) (.int .i64 0)
      rwa [show ((w.alloc (.cells #[.int .i64 p, .int .i64 l, .int .i64 h] 25)).alloc (.cells #[.int .i64 i, .int .i64 j] 23)).heap.size = w.heap.size + 1 + 1 by simp] at k
  have BW : Hid (Below w.heap.size w W) := by rw [← hW]; exact (((below_alloc w _).alloc (by simp) _).alloc (by simp; omega) _)
  have t0 := O0.out.1.c0
  have t1 := O0.out.1.c1
  have t2 := O0.out.1.c2
  have t3 := O0.out.1.lt
  have u0 := O0.out.2.1.c0
  have u1 := O0.out.2.1.c1
  have u2 := O0.out.2.1.lt
  have v0 := O0.out.2.2.c0
  have v1 := O0.out.2.2.c1
  have v5 := O0.out.2.2.c2
  have v2 := O0.out.2.2.free 0
  have v3 := O0.out.2.2.free 1
  have v6 := O0.out.2.2.free 2
  have v4 := O0.out.2.2.lt
  by_cases q1 : BOk p l h
  · have V1 := Lib.hid (V1.out true ⟨fun _ => q1, fun _ => rfl⟩)
    by_cases q2 : IvOk i j
    · have V2 := Lib.hid (V2.out true ⟨fun _ => q2, fun _ => rfl⟩)
      have EM := Lib.hid (EM.out.trans (if_pos ⟨q1, q2⟩))
      have EI := Lib.hid (EI.out.trans (if_pos ⟨q1.2, q2⟩))
      clear q1 q2
      by_cases c : max l i ≤ min h j
      · have E := Lib.hid (EM.out.trans (if_pos c))
        have MT := MT0.out
        rw [EI.out.trans (if_pos c)] at MT
        have MT := Lib.hid MT
        obtain ⟨x, hx⟩ : ∃ x, max l i = x := ⟨_, rfl⟩
        obtain ⟨y, hy⟩ : ∃ y, min h j = y := ⟨_, rfl⟩
        rw [hx, hy] at E MT
        clear c EM EI hx hy MT0
        go_enter Try.func19, Try.ntmps19
        go_wp2_with (first
          | (go_at_call 22; (with_reducible refine (V1.out _).mono ?_); rintro e w1 ⟨rfl, b1⟩; have O1 : Hid (Three w1 w.heap.size 25 (.int .i64 p) (.int .i64 l) (.int .i64 h) ∧ Two w1 (w.heap.size + 1) 23 (.int .i64 i) (.int .i64 j) ∧ Three w1 (w.heap.size + 1 + 1) 25 (.int .i64 0) (.int .i64 0) (.int .i64 0)) := ⟨O0.out.1.below b1 O0.out.1.lt, O0.out.2.1.below b1 O0.out.2.1.lt, O0.out.2.2.below b1 O0.out.2.2.lt⟩; have B1 := Lib.hid (below_more BW.out b1); have t0 := O1.out.1.c0; have t1 := O1.out.1.c1; have t2 := O1.out.1.c2; have t3 := O1.out.1.lt; have u0 := O1.out.2.1.c0; have u1 := O1.out.2.1.c1; have u2 := O1.out.2.1.lt; have v0 := O1.out.2.2.c0; have v1 := O1.out.2.2.c1; have v5 := O1.out.2.2.c2; have v2 := O1.out.2.2.free 0; have v3 := O1.out.2.2.free 1; have v6 := O1.out.2.2.free 2; have v4 := O1.out.2.2.lt; clear b1 V1)
          | (go_at_call 26; (with_reducible refine (V2.out _).mono ?_); rintro e w2 ⟨rfl, b2⟩; have O2 : Hid (Three w2 w.heap.size 25 (.int .i64 p) (.int .i64 l) (.int .i64 h) ∧ Two w2 (w.heap.size + 1) 23 (.int .i64 i) (.int .i64 j) ∧ Three w2 (w.heap.size + 1 + 1) 25 (.int .i64 0) (.int .i64 0) (.int .i64 0)) := ⟨O1.out.1.below b2 O1.out.1.lt, O1.out.2.1.below b2 O1.out.2.1.lt, O1.out.2.2.below b2 O1.out.2.2.lt⟩; have B2 := Lib.hid (below_more B1.out b2); have t0 := O2.out.1.c0; have t1 := O2.out.1.c1; have t2 := O2.out.1.c2; have t3 := O2.out.1.lt; have u0 := O2.out.2.1.c0; have u1 := O2.out.2.1.c1; have u2 := O2.out.2.1.lt; have v0 := O2.out.2.2.c0; have v1 := O2.out.2.2.c1; have v5 := O2.out.2.2.c2; have v2 := O2.out.2.2.free 0; have v3 := O2.out.2.2.free 1; have v6 := O2.out.2.2.free 2; have v4 := O2.out.2.2.lt; clear b2 V2)
          | (go_at_call 36; (with_reducible refine (MT.out _).mono ?_); rintro e w3 ⟨rfl, b3⟩; have O3 : Hid (Three w3 w.heap.size 25 (.int .i64 p) (.int .i64 l) (.int .i64 h) ∧ Two w3 (w.heap.size + 1) 23 (.int .i64 i) (.int .i64 j) ∧ Three w3 (w.heap.size + 1 + 1) 25 (.int .i64 0) (.int .i64 0) (.int .i64 0)) := ⟨O2.out.1.below b3 O2.out.1.lt, O2.out.2.1.below b3 O2.out.2.1.lt, O2.out.2.2.below b3 O2.out.2.2.lt⟩; have B3 := Lib.hid (below_more B2.out b3); have O4 : Hid (Three (w3.alloc (.cells #[.int .i64 x, .int .i64 y] 23)) w.heap.size 25 (.int .i64 p) (.int .i64 l) (.int .i64 h) ∧ Two (w3.alloc (.cells #[.int .i64 x, .int .i64 y] 23)) (w.heap.size + 1) 23 (.int .i64 i) (.int .i64 j) ∧ Three (w3.alloc (.cells #[.int .i64 x, .int .i64 y] 23)) (w.heap.size + 1 + 1) 25 (.int .i64 0) (.int .i64 0) (.int .i64 0)) := ⟨O3.out.1.alloc _, O3.out.2.1.alloc _, O3.out.2.2.alloc _⟩; have B4 := Lib.hid (B3.out.alloc B3.out.size (.cells #[.int .i64 x, .int .i64 y] 23)); have X4 := Lib.hid (Two.new w3 23 (.int .i64 x) (.int .i64 y)); have x0 := X4.out.c0; have x1 := X4.out.c1; have x2 := X4.out.lt; have t0 := O4.out.1.c0; have t1 := O4.out.1.c1; have t2 := O4.out.1.c2; have t3 := O4.out.1.lt; have u0 := O4.out.2.1.c0; have u1 := O4.out.2.1.c1; have u2 := O4.out.2.1.lt; have v0 := O4.out.2.2.c0; have v1 := O4.out.2.2.c1; have v5 := O4.out.2.2.c2; have v2 := O4.out.2.2.free 0; have v3 := O4.out.2.2.free 1; have v6 := O4.out.2.2.free 2; have v4 := O4.out.2.2.lt; clear b3 MT))
        refine bodyPost_ret (v := .tuple #[.agg #[.int .i64 (p), .int .i64 (x), .int .i64 (y)], .bool true, .int .i64 0]) (by simp [results, Try.results19, go_sem, v0, v1, v5, v4]) rfl ⟨by rw [E.out], ?_⟩
        exact ((B4.out.setCell (p := ⟨w.heap.size + 1 + 1, 0, none⟩) (by show w.heap.size ≤ w.heap.size + 1 + 1; omega) _).setCell (p := ⟨w.heap.size + 1 + 1, 1, none⟩) (by show w.heap.size ≤ w.heap.size + 1 + 1; omega) _).setCell (p := ⟨w.heap.size + 1 + 1, 2, none⟩) (by show w.heap.size ≤ w.heap.size + 1 + 1; omega) _
      · have E := Lib.hid (EM.out.trans (if_neg c))
        have MT := MT0.out
        rw [EI.out.trans (if_neg c)] at MT
        obtain ⟨x, hx⟩ : ∃ x : Int, 0 = x := ⟨_, rfl⟩
        obtain ⟨y, hy⟩ : ∃ y : Int, 0 = y := ⟨_, rfl⟩
        have MT : Hid (∀ w, Calls Try.prog 36 #[.agg #[.int .i64 l, .int .i64 h], .agg #[.int .i64 i, .int .i64 j]] w (Gives (.tuple #[.agg #[.int .i64 x, .int .i64 y], .bool false, .int .i64 0]) w)) := by subst hx hy; exact MT
        clear c EM EI hx hy MT0
        go_enter Try.func19, Try.ntmps19
        go_wp2_with (first
          | (go_at_call 22; (with_reducible refine (V1.out _).mono ?_); rintro e w1 ⟨rfl, b1⟩; have O1 : Hid (Three w1 w.heap.size 25 (.int .i64 p) (.int .i64 l) (.int .i64 h) ∧ Two w1 (w.heap.size + 1) 23 (.int .i64 i) (.int .i64 j) ∧ Three w1 (w.heap.size + 1 + 1) 25 (.int .i64 0) (.int .i64 0) (.int .i64 0)) := ⟨O0.out.1.below b1 O0.out.1.lt, O0.out.2.1.below b1 O0.out.2.1.lt, O0.out.2.2.below b1 O0.out.2.2.lt⟩; have B1 := Lib.hid (below_more BW.out b1); have t0 := O1.out.1.c0; have t1 := O1.out.1.c1; have t2 := O1.out.1.c2; have t3 := O1.out.1.lt; have u0 := O1.out.2.1.c0; have u1 := O1.out.2.1.c1; have u2 := O1.out.2.1.lt; have v0 := O1.out.2.2.c0; have v1 := O1.out.2.2.c1; have v5 := O1.out.2.2.c2; have v2 := O1.out.2.2.free 0; have v3 := O1.out.2.2.free 1; have v6 := O1.out.2.2.free 2; have v4 := O1.out.2.2.lt; clear b1 V1)
          | (go_at_call 26; (with_reducible refine (V2.out _).mono ?_); rintro e w2 ⟨rfl, b2⟩; have O2 : Hid (Three w2 w.heap.size 25 (.int .i64 p) (.int .i64 l) (.int .i64 h) ∧ Two w2 (w.heap.size + 1) 23 (.int .i64 i) (.int .i64 j) ∧ Three w2 (w.heap.size + 1 + 1) 25 (.int .i64 0) (.int .i64 0) (.int .i64 0)) := ⟨O1.out.1.below b2 O1.out.1.lt, O1.out.2.1.below b2 O1.out.2.1.lt, O1.out.2.2.below b2 O1.out.2.2.lt⟩; have B2 := Lib.hid (below_more B1.out b2); have t0 := O2.out.1.c0; have t1 := O2.out.1.c1; have t2 := O2.out.1.c2; have t3 := O2.out.1.lt; have u0 := O2.out.2.1.c0; have u1 := O2.out.2.1.c1; have u2 := O2.out.2.1.lt; have v0 := O2.out.2.2.c0; have v1 := O2.out.2.2.c1; have v5 := O2.out.2.2.c2; have v2 := O2.out.2.2.free 0; have v3 := O2.out.2.2.free 1; have v6 := O2.out.2.2.free 2; have v4 := O2.out.2.2.lt; clear b2 V2)
          | (go_at_call 36; (with_reducible refine (MT.out _).mono ?_); rintro e w3 ⟨rfl, b3⟩; have O3 : Hid (Three w3 w.heap.size 25 (.int .i64 p) (.int .i64 l) (.int .i64 h) ∧ Two w3 (w.heap.size + 1) 23 (.int .i64 i) (.int .i64 j) ∧ Three w3 (w.heap.size + 1 + 1) 25 (.int .i64 0) (.int .i64 0) (.int .i64 0)) := ⟨O2.out.1.below b3 O2.out.1.lt, O2.out.2.1.below b3 O2.out.2.1.lt, O2.out.2.2.below b3 O2.out.2.2.lt⟩; have B3 := Lib.hid (below_more B2.out b3); have O4 : Hid (Three (w3.alloc (.cells #[.int .i64 x, .int .i64 y] 23)) w.heap.size 25 (.int .i64 p) (.int .i64 l) (.int .i64 h) ∧ Two (w3.alloc (.cells #[.int .i64 x, .int .i64 y] 23)) (w.heap.size + 1) 23 (.int .i64 i) (.int .i64 j) ∧ Three (w3.alloc (.cells #[.int .i64 x, .int .i64 y] 23)) (w.heap.size + 1 + 1) 25 (.int .i64 0) (.int .i64 0) (.int .i64 0)) := ⟨O3.out.1.alloc _, O3.out.2.1.alloc _, O3.out.2.2.alloc _⟩; have B4 := Lib.hid (B3.out.alloc B3.out.size (.cells #[.int .i64 x, .int .i64 y] 23)); have X4 := Lib.hid (Two.new w3 23 (.int .i64 x) (.int .i64 y)); have x0 := X4.out.c0; have x1 := X4.out.c1; have x2 := X4.out.lt; have t0 := O4.out.1.c0; have t1 := O4.out.1.c1; have t2 := O4.out.1.c2; have t3 := O4.out.1.lt; have u0 := O4.out.2.1.c0; have u1 := O4.out.2.1.c1; have u2 := O4.out.2.1.lt; have v0 := O4.out.2.2.c0; have v1 := O4.out.2.2.c1; have v5 := O4.out.2.2.c2; have v2 := O4.out.2.2.free 0; have v3 := O4.out.2.2.free 1; have v6 := O4.out.2.2.free 2; have v4 := O4.out.2.2.lt; clear b3 MT))
        refine bodyPost_ret (v := .tuple #[.agg #[.int .i64 (p), .int .i64 (l), .int .i64 (h)], .bool false, .int .i64 0]) (by simp [results, Try.results19, go_sem, v0, v1, v5, v4]) rfl ⟨by rw [E.out], ?_⟩
        exact ((B4.out.setCell (p := ⟨w.heap.size + 1 + 1, 0, none⟩) (by show w.heap.size ≤ w.heap.size + 1 + 1; omega) _).setCell (p := ⟨w.heap.size + 1 + 1, 1, none⟩) (by show w.heap.size ≤ w.heap.size + 1 + 1; omega) _).setCell (p := ⟨w.heap.size + 1 + 1, 2, none⟩) (by show w.heap.size ≤ w.heap.size + 1 + 1; omega) _
    · have V2 := Lib.hid (V2.out false ⟨fun h => (by cases h), fun h => absurd h q2⟩)
      have E := Lib.hid (EM.out.trans (if_neg (fun z => q2 z.2)))
      clear q1 q2 EM EI MT0
      go_enter Try.func19, Try.ntmps19
      go_wp2_with (first
        | (go_at_call 22; (with_reducible refine (V1.out _).mono ?_); rintro e w1 ⟨rfl, b1⟩; have O1 : Hid (Three w1 w.heap.size 25 (.int .i64 p) (.int .i64 l) (.int .i64 h) ∧ Two w1 (w.heap.size + 1) 23 (.int .i64 i) (.int .i64 j) ∧ Three w1 (w.heap.size + 1 + 1) 25 (.int .i64 0) (.int .i64 0) (.int .i64 0)) := ⟨O0.out.1.below b1 O0.out.1.lt, O0.out.2.1.below b1 O0.out.2.1.lt, O0.out.2.2.below b1 O0.out.2.2.lt⟩; have B1 := Lib.hid (below_more BW.out b1); have t0 := O1.out.1.c0; have t1 := O1.out.1.c1; have t2 := O1.out.1.c2; have t3 := O1.out.1.lt; have u0 := O1.out.2.1.c0; have u1 := O1.out.2.1.c1; have u2 := O1.out.2.1.lt; have v0 := O1.out.2.2.c0; have v1 := O1.out.2.2.c1; have v5 := O1.out.2.2.c2; have v2 := O1.out.2.2.free 0; have v3 := O1.out.2.2.free 1; have v6 := O1.out.2.2.free 2; have v4 := O1.out.2.2.lt; clear b1 V1)
        | (go_at_call 26; (with_reducible refine (V2.out _).mono ?_); rintro e w2 ⟨rfl, b2⟩; have O2 : Hid (Three w2 w.heap.size 25 (.int .i64 p) (.int .i64 l) (.int .i64 h) ∧ Two w2 (w.heap.size + 1) 23 (.int .i64 i) (.int .i64 j) ∧ Three w2 (w.heap.size + 1 + 1) 25 (.int .i64 0) (.int .i64 0) (.int .i64 0)) := ⟨O1.out.1.below b2 O1.out.1.lt, O1.out.2.1.below b2 O1.out.2.1.lt, O1.out.2.2.below b2 O1.out.2.2.lt⟩; have B2 := Lib.hid (below_more B1.out b2); have t0 := O2.out.1.c0; have t1 := O2.out.1.c1; have t2 := O2.out.1.c2; have t3 := O2.out.1.lt; have u0 := O2.out.2.1.c0; have u1 := O2.out.2.1.c1; have u2 := O2.out.2.1.lt; have v0 := O2.out.2.2.c0; have v1 := O2.out.2.2.c1; have v5 := O2.out.2.2.c2; have v2 := O2.out.2.2.free 0; have v3 := O2.out.2.2.free 1; have v6 := O2.out.2.2.free 2; have v4 := O2.out.2.2.lt; clear b2 V2))
      refine bodyPost_ret (v := .tuple #[.agg #[.int .i64 (0), .int .i64 (0), .int .i64 (0)], .bool false, .int .i64 1]) (by simp [results, Try.results19, go_sem, v0, v1, v5, v4]) rfl ⟨by rw [E.out], ?_⟩
      exact ((B2.out.setCell (p := ⟨w.heap.size + 1 + 1, 0, none⟩) (by show w.heap.size ≤ w.heap.size + 1 + 1; omega) _).setCell (p := ⟨w.heap.size + 1 + 1, 1, none⟩) (by show w.heap.size ≤ w.heap.size + 1 + 1; omega) _).setCell (p := ⟨w.heap.size + 1 + 1, 2, none⟩) (by show w.heap.size ≤ w.heap.size + 1 + 1; omega) _
  · have V1 := Lib.hid (V1.out false ⟨fun h => (by cases h), fun h => absurd h q1⟩)
    obtain ⟨q, hq⟩ : ∃ q : Bool, q = true ↔ IvOk i j := ⟨decide (IvOk i j), by simp⟩
    have V2 := Lib.hid (V2.out q hq)
    have E := Lib.hid (EM.out.trans (if_neg (fun z => q1 z.1)))
    clear q1 hq EM EI MT0
    go_enter Try.func19, Try.ntmps19
    go_wp2_with (first
      | (go_at_call 22; (with_reducible refine (V1.out _).mono ?_); rintro e w1 ⟨rfl, b1⟩; have O1 : Hid (Three w1 w.heap.size 25 (.int .i64 p) (.int .i64 l) (.int .i64 h) ∧ Two w1 (w.heap.size + 1) 23 (.int .i64 i) (.int .i64 j) ∧ Three w1 (w.heap.size + 1 + 1) 25 (.int .i64 0) (.int .i64 0) (.int .i64 0)) := ⟨O0.out.1.below b1 O0.out.1.lt, O0.out.2.1.below b1 O0.out.2.1.lt, O0.out.2.2.below b1 O0.out.2.2.lt⟩; have B1 := Lib.hid (below_more BW.out b1); have t0 := O1.out.1.c0; have t1 := O1.out.1.c1; have t2 := O1.out.1.c2; have t3 := O1.out.1.lt; have u0 := O1.out.2.1.c0; have u1 := O1.out.2.1.c1; have u2 := O1.out.2.1.lt; have v0 := O1.out.2.2.c0; have v1 := O1.out.2.2.c1; have v5 := O1.out.2.2.c2; have v2 := O1.out.2.2.free 0; have v3 := O1.out.2.2.free 1; have v6 := O1.out.2.2.free 2; have v4 := O1.out.2.2.lt; clear b1 V1)
      | (go_at_call 26; (with_reducible refine (V2.out _).mono ?_); rintro e w2 ⟨rfl, b2⟩; have O2 : Hid (Three w2 w.heap.size 25 (.int .i64 p) (.int .i64 l) (.int .i64 h) ∧ Two w2 (w.heap.size + 1) 23 (.int .i64 i) (.int .i64 j) ∧ Three w2 (w.heap.size + 1 + 1) 25 (.int .i64 0) (.int .i64 0) (.int .i64 0)) := ⟨O1.out.1.below b2 O1.out.1.lt, O1.out.2.1.below b2 O1.out.2.1.lt, O1.out.2.2.below b2 O1.out.2.2.lt⟩; have B2 := Lib.hid (below_more B1.out b2); have t0 := O2.out.1.c0; have t1 := O2.out.1.c1; have t2 := O2.out.1.c2; have t3 := O2.out.1.lt; have u0 := O2.out.2.1.c0; have u1 := O2.out.2.1.c1; have u2 := O2.out.2.1.lt; have v0 := O2.out.2.2.c0; have v1 := O2.out.2.2.c1; have v5 := O2.out.2.2.c2; have v2 := O2.out.2.2.free 0; have v3 := O2.out.2.2.free 1; have v6 := O2.out.2.2.free 2; have v4 := O2.out.2.2.lt; clear b2 V2))
    refine bodyPost_ret (v := .tuple #[.agg #[.int .i64 (0), .int .i64 (0), .int .i64 (0)], .bool false, .int .i64 1]) (by simp [results, Try.results19, go_sem, v0, v1, v5, v4]) rfl ⟨by rw [E.out], ?_⟩
    exact ((B2.out.setCell (p := ⟨w.heap.size + 1 + 1, 0, none⟩) (by show w.heap.size ≤ w.heap.size + 1 + 1; omega) _).setCell (p := ⟨w.heap.size + 1 + 1, 1, none⟩) (by show w.heap.size ≤ w.heap.size + 1 + 1; omega) _).setCell (p := ⟨w.heap.size + 1 + 1, 2, none⟩) (by show w.heap.size ≤ w.heap.size + 1 + 1; omega) _
end Go.Proofs.Ytpfcjffpomdhbaa
