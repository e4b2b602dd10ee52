/- Layer 2: the reference's Meet, Grow and Depth; few. -/
import Derived.Test.YtpooifjieoijjaaRefs
import Derived.Test.YtpooifjieoijjaaPkg4
import Derived.Test.YtpooifjieoijjaaHead
namespace Go.Proofs.Ytpooifjieoijjaa
open Go.RowKit Go
set_option linter.unusedVariables false

theorem few_any (A : Option Addr) (len cap : Nat) (w : World) : Calls Try.prog 11 #[.slice A len cap] w (Gives (.bool (decide (len ≤ 70))) w) := by
  by_cases h : len ≤ 70
  · have e : decide (len ≤ 70) = true := by simpa using h
    rw [e]; clear e
    go_enter Try.func11, Try.ntmps11
    go_wp2_with fail
    go_ret
    exact ⟨ret_bool (by simp; omega), Below.refl _ _⟩
  · have e : decide (len ≤ 70) = false := by simpa using h
    rw [e]; clear e
    go_enter Try.func11, Try.ntmps11
    go_wp2_with fail
    go_ret
    exact ⟨ret_bool (by simp; omega), Below.refl _ _⟩

theorem rdepthE_any (A : Option Addr) (len cap : Nat) (zs : List (Int × Int)) (x : Int) (w : World) (hr : Row w.heap.size w A len zs) (hl : len ≤ 9223372036854775807) :
    Calls Try.prog 21 #[.slice A len cap, .int .i64 x] w (Gives (.tuple #[.int .i64 (depthR zs x).1, .int .i64 (depthR zs x).2]) w) := by
  have HR := Lib.hid hr
  have HE := Lib.hid (show depthR zs x = if okList zs = true then ((depthN zs x : Int), 0) else (0, 1) from rfl)
  clear hr
  have L := Lib.hid (fun W h => rlist_any A len cap zs W h hl)
  have D := Lib.hid (fun W h => rdepth_any A len cap zs x W h hl)
  generalize depthR zs x = r at HE ⊢
  generalize okList zs = o at L HE
  generalize depthN zs x = n at D HE
  go_enter Try.func21, Try.ntmps21
  go_wp2_with fail
  refine (L.out _ HR.out).mono ?_
  rintro e w1 ⟨rfl, b1⟩
  have HR := Lib.hid (HR.out.step b1)
  have B := Lib.hid b1
  clear b1
  cases o with
  | false =>
    go_wp2_with fail
    go_ret2
    exact ⟨by rw [HE.out]; rfl, B.out⟩
  | true =>
    go_wp2_with fail
    refine (D.out _ HR.out).mono ?_
    rintro e w2 ⟨rfl, b2⟩
    have B := Lib.hid (below_more B.out b2)
    clear b2
    go_wp2_with fail
    go_ret2
    exact ⟨by rw [HE.out]; rfl, B.out⟩

/-- The blocks of a function that boxes two intervals and has a third one as its result. -/
theorem boxes3 (w : World) (u0 u1 u2 u3 u4 u5 : Value) : ∃ W, ((w.alloc (.cells #[u0, u1] 24)).alloc (.cells #[u2, u3] 24)).alloc (.cells #[u4, u5] 24) = W ∧
    Two W w.heap.size 24 u0 u1 ∧ Two W (w.heap.size + 1) 24 u2 u3 ∧ Two W (w.heap.size + 1 + 1) 24 u4 u5 ∧ Below w.heap.size w W ∧ W.heap.size = w.heap.size + 1 + 1 + 1 := by
  refine ⟨_, rfl, ((Two.new _ _ _ _).alloc _).alloc _, ?_, ?_, ((below_alloc w _).alloc (by simp) _).alloc (by simp; omega) _, by simp⟩
  · have := Two.new (w.alloc (.cells #[u0, u1] 24)) 24 u2 u3
    rw [World.size_alloc] at this
    exact this.alloc _
  · have := Two.new ((w.alloc (.cells #[u0, u1] 24)).alloc (.cells #[u2, u3] 24)) 24 u4 u5
    rw [World.size_alloc, World.size_alloc] at this
    exact this

set_option maxHeartbeats 1000000 in
theorem rmeet_any (a b c d : Int) (w : World) : Calls Try.prog 13 #[.agg #[.int .i64 a, .int .i64 b], .agg #[.int .i64 c, .int .i64 d]] w
    (Gives (.tuple #[ivV (meetR (a, b) (c, d)).1, .bool (meetR (a, b) (c, d)).2.1, .int .i64 (meetR (a, b) (c, d)).2.2]) w) := by
  have V := Lib.hid (rvalid_any a b)
  have V2 := Lib.hid (rvalid_any c d)
  have HE := Lib.hid (show meetR (a, b) (c, d) = if (validB (a, b) && validB (c, d)) = true then (if max a c ≤ min b d then ((max a c, min b d), true, 0) else ((0, 0), false, 0)) else ((0, 0), false, 1) from rfl)
  generalize meetR (a, b) (c, d) = r at HE ⊢
  generalize validB (a, b) = p at V HE
  generalize validB (c, d) = q at V2 HE
  go_enter Try.func13, Try.ntmps13
  go_wp2_with fail
  obtain ⟨W, e, T2, T3, T4, HB, hz⟩ := boxes3 w (.int .i64 a) (.int .i64 b) (.int .i64 c) (.int .i64 d) (.int .i64 0) (.int .i64 0)
  rw [e]
  clear e
  have T2 := Lib.hid T2
  have T3 := Lib.hid T3
  have T4 := Lib.hid T4
  have HB := Lib.hid HB
  have HZ := Lib.hid hz
  clear hz
  refine (V.out _).mono ?_
  rintro e w1 ⟨rfl, b1⟩
  have T2 := Lib.hid (T2.out.step b1)
  have T3 := Lib.hid (T3.out.step b1)
  have T4 := Lib.hid (T4.out.step b1)
  have HB := Lib.hid (below_more HB.out b1)
  have t0 := T3.out.c0
  have t1 := T3.out.c1
  have t2 := T3.out.lt
  clear b1
  go_wp2_with fail
  refine (V2.out _).mono ?_
  rintro e w2 ⟨rfl, b1⟩
  have T2 := Lib.hid (T2.out.step b1)
  have T3 := Lib.hid (T3.out.step b1)
  have T4 := Lib.hid (T4.out.step b1)
  have HB := Lib.hid (below_more HB.out b1)
  clear b1 t0 t1 t2
  have t0 := T2.out.c0
  have t1 := T2.out.c1
  have t2 := T3.out.c0
  have t3 := T3.out.c1
  have t4 := T4.out.c0
  have t5 := T4.out.c1
  have t6 := T4.out.free 0
  have t7 := T4.out.free 1
  have t8 := T4.out.lt
  cases p with
  | false =>
    go_wp2_with fail
    refine bodyPost_ret (v := .tuple #[.agg #[.int .i64 0, .int .i64 0], .bool false, .int .i64 1]) (by simp [results, Try.results13, go_sem, t4, t5]) rfl ⟨by rw [HE.out]; rfl, ?_⟩
    exact (HB.out.setCell (p := ⟨w.heap.size + 1 + 1, 0, none⟩) (by simp; omega) _).setCell (p := ⟨w.heap.size + 1 + 1, 1, none⟩) (by simp; omega) _
  | true =>
    cases q with
    | false =>
      go_wp2_with fail
      refine bodyPost_ret (v := .tuple #[.agg #[.int .i64 0, .int .i64 0], .bool false, .int .i64 1]) (by simp [results, Try.results13, go_sem, t4, t5]) rfl ⟨by rw [HE.out]; rfl, ?_⟩
      exact (HB.out.setCell (p := ⟨w.heap.size + 1 + 1, 0, none⟩) (by simp; omega) _).setCell (p := ⟨w.heap.size + 1 + 1, 1, none⟩) (by simp; omega) _
    | true =>
      by_cases h : max a c ≤ min b d
      · have HE := Lib.hid (HE.out.trans (if_pos rfl) |>.trans (if_pos h))
        go_wp2_with fail
        refine bodyPost_ret (v := .tuple #[.agg #[.int .i64 (max a c), .int .i64 (min b d)], .bool true, .int .i64 0]) (by simp [results, Try.results13, go_sem, t4, t5]) rfl ⟨by rw [HE.out]; rfl, ?_⟩
        exact (HB.out.setCell (p := ⟨w.heap.size + 1 + 1, 0, none⟩) (by simp; omega) _).setCell (p := ⟨w.heap.size + 1 + 1, 1, none⟩) (by simp; omega) _
      · have HE := Lib.hid (HE.out.trans (if_pos rfl) |>.trans (if_neg h))
        go_wp2_with fail
        refine bodyPost_ret (v := .tuple #[.agg #[.int .i64 0, .int .i64 0], .bool false, .int .i64 0]) (by simp [results, Try.results13, go_sem, t4, t5]) rfl ⟨by rw [HE.out]; rfl, ?_⟩
        exact (HB.out.setCell (p := ⟨w.heap.size + 1 + 1, 0, none⟩) (by simp; omega) _).setCell (p := ⟨w.heap.size + 1 + 1, 1, none⟩) (by simp; omega) _

theorem boxes2 (w : World) (u0 u1 u2 u3 : Value) : ∃ W, (w.alloc (.cells #[u0, u1] 24)).alloc (.cells #[u2, u3] 24) = W ∧
    Two W w.heap.size 24 u0 u1 ∧ Two W (w.heap.size + 1) 24 u2 u3 ∧ Below w.heap.size w W := by
  refine ⟨_, rfl, (Two.new _ _ _ _).alloc _, ?_, (below_alloc w _).alloc (by simp) _⟩
  have := Two.new (w.alloc (.cells #[u0, u1] 24)) 24 u2 u3
  rw [World.size_alloc] at this
  exact this

set_option maxHeartbeats 1000000 in
theorem rgrow_any (a b l r : Int) (w : World) : Calls Try.prog 19 #[.agg #[.int .i64 a, .int .i64 b], .int .i64 l, .int .i64 r] w
    (Gives (.tuple #[ivV (growR (a, b) l r).1, .int .i64 (growR (a, b) l r).2]) w) := by
  have V := Lib.hid (rvalid_any a b)
  obtain ⟨p, hp⟩ : ∃ p, validB (a, b) = p := ⟨_, rfl⟩
  rw [hp] at V
  have HP := Lib.hid hp
  clear hp
  obtain ⟨g, hg⟩ : ∃ g, growR (a, b) l r = g := ⟨_, rfl⟩
  rw [hg]
  have HG := Lib.hid hg
  clear hg
  go_enter Try.func19, Try.ntmps19
  go_wp2_with fail
  obtain ⟨W, e, T2, T4, HB⟩ := boxes2 w (.int .i64 a) (.int .i64 b) (.int .i64 0) (.int .i64 0)
  rw [e]
  clear e
  have T2 := Lib.hid T2
  have T4 := Lib.hid T4
  have HB := Lib.hid HB
  refine (V.out _).mono ?_
  rintro e w1 ⟨rfl, b1⟩
  have T2 := Lib.hid (T2.out.step b1)
  have T4 := Lib.hid (T4.out.step b1)
  have HB := Lib.hid (below_more HB.out b1)
  clear b1
  have t0 := T2.out.c0
  have t1 := T2.out.c1
  have t4 := T4.out.c0
  have t5 := T4.out.c1
  have t6 := T4.out.free 0
  have t7 := T4.out.free 1
  have t8 := T4.out.lt
  cases p with
  | false =>
    have HE := Lib.hid (HG.out.symm.trans (growR_no (by simp [HP.out])))
    go_wp2_with fail
    refine bodyPost_ret (v := .tuple #[.agg #[.int .i64 0, .int .i64 0], .int .i64 1]) (by simp [results, Try.results19, go_sem, t4, t5]) rfl ⟨by rw [HE.out]; rfl, ?_⟩
    exact (HB.out.setCell (p := ⟨w.heap.size + 1, 0, none⟩) (by simp) _).setCell (p := ⟨w.heap.size + 1, 1, none⟩) (by simp) _
  | true =>
    by_cases h1 : l < 0
    · have HE := Lib.hid (HG.out.symm.trans (growR_no (by simp [timeB]; omega)))
      go_wp2_with fail
      refine bodyPost_ret (v := .tuple #[.agg #[.int .i64 0, .int .i64 0], .int .i64 1]) (by simp [results, Try.results19, go_sem, t4, t5]) rfl ⟨by rw [HE.out]; rfl, ?_⟩
      exact (HB.out.setCell (p := ⟨w.heap.size + 1, 0, none⟩) (by simp) _).setCell (p := ⟨w.heap.size + 1, 1, none⟩) (by simp) _
    by_cases h2 : 3000000000000000 < l
    · have HE := Lib.hid (HG.out.symm.trans (growR_no (by simp [timeB]; omega)))
      go_wp2_with fail
      refine bodyPost_ret (v := .tuple #[.agg #[.int .i64 0, .int .i64 0], .int .i64 1]) (by simp [results, Try.results19, go_sem, t4, t5]) rfl ⟨by rw [HE.out]; rfl, ?_⟩
      exact (HB.out.setCell (p := ⟨w.heap.size + 1, 0, none⟩) (by simp) _).setCell (p := ⟨w.heap.size + 1, 1, none⟩) (by simp) _
    by_cases h3 : r < 0
    · have HE := Lib.hid (HG.out.symm.trans (growR_no (by simp [timeB]; omega)))
      go_wp2_with fail
      refine bodyPost_ret (v := .tuple #[.agg #[.int .i64 0, .int .i64 0], .int .i64 1]) (by simp [results, Try.results19, go_sem, t4, t5]) rfl ⟨by rw [HE.out]; rfl, ?_⟩
      exact (HB.out.setCell (p := ⟨w.heap.size + 1, 0, none⟩) (by simp) _).setCell (p := ⟨w.heap.size + 1, 1, none⟩) (by simp) _
    by_cases h4 : 3000000000000000 < r
    · have HE := Lib.hid (HG.out.symm.trans (growR_no (by simp [timeB]; omega)))
      go_wp2_with fail
      refine bodyPost_ret (v := .tuple #[.agg #[.int .i64 0, .int .i64 0], .int .i64 1]) (by simp [results, Try.results19, go_sem, t4, t5]) rfl ⟨by rw [HE.out]; rfl, ?_⟩
      exact (HB.out.setCell (p := ⟨w.heap.size + 1, 0, none⟩) (by simp) _).setCell (p := ⟨w.heap.size + 1, 1, none⟩) (by simp) _
    obtain ⟨v1, v2, v3⟩ := validB_yes HP.out
    simp only at v1 v2 v3
    have HE : Hid (g = ((max 0 (a - l), min 3000000000000000 (b + r)), 0)) := by
      show g = _
      rw [← HG.out, growR, if_pos ⟨HP.out, by simp [timeB]; omega, by simp [timeB]; omega⟩, Int.max_comm, Int.min_comm]
    go_wp2_with fail
    refine bodyPost_ret (v := .tuple #[.agg #[.int .i64 (max 0 (a - l)), .int .i64 (min 3000000000000000 (b + r))], .int .i64 0]) (by simp [results, Try.results19, go_sem, t4, t5]) rfl ⟨by rw [HE.out]; rfl, ?_⟩
    exact (HB.out.setCell (p := ⟨w.heap.size + 1, 0, none⟩) (by simp) _).setCell (p := ⟨w.heap.size + 1, 1, none⟩) (by simp) _
end Go.Proofs.Ytpooifjieoijjaa
