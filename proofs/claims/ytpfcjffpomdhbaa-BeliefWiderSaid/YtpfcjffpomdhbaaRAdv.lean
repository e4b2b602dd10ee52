/- Layer 8: the reference's Advance (gen/gen_rest.py writes this). -/
import Derived.Test.YtpfcjffpomdhbaaRAt
namespace Go.Proofs.Ytpfcjffpomdhbaa
open Go.RowKit Go
set_option linter.unusedVariables false
set_option linter.unusedSimpArgs false

theorem radv_any (p l h r a : Int) (hp : I64 p) (ha : I64 a) (w : World) :
    Calls Try.prog 17 #[blV p l h, .int .i64 r, .int .i64 a] w (Gives (.tuple #[blV (advR p l h r a).1 (advR p l h r a).2.1 (advR p l h r a).2.2.1, .int .i64 (advR p l h r a).2.2.2]) w) := by
  have A := Lib.hid (rat_any p l h r a hp ha)
  have EA : Hid (advR p l h r a = if (atR p l h r a).2.2 = 0 then (a, (atR p l h r a).1, (atR p l h r a).2.1, 0) else (0, 0, 0, (atR p l h r a).2.2)) := rfl
  generalize advR p l h r a = R at EA ⊢
  generalize atR p l h r a = Q at A EA
  obtain ⟨x, y, er⟩ := Q
  dsimp only at A EA
  unfold rgV blV at A
  unfold blV
  obtain ⟨W, hW⟩ : ∃ W, (w.alloc (.cells #[.int .i64 p, .int .i64 l, .int .i64 h] 25)).alloc (.cells #[.int .i64 0, .int .i64 0, .int .i64 0] 25) = W := ⟨_, rfl⟩
  have O0 : Hid (Three W w.heap.size 25 (.int .i64 p) (.int .i64 l) (.int .i64 h) ∧ Three W (w.heap.size + 1) 25 (.int .i64 0) (.int .i64 0) (.int .i64 0)) := by
    rw [← hW]
    refine ⟨(Three.new w _ _ _ _).alloc _, ?_⟩
    have k := Three.new (w.alloc (.cells #[.int .i64 p, .int .i64 l, .int .i64 h] 25)) 25 (.int .i64 0) (.int .i64 0) (.int .i64 0)
    rwa [show (w.alloc (.cells #[.int .i64 p, .int .i64 l, .int .i64 h] 25)).heap.size = w.heap.size + 1 by simp] at k
  have BW : Hid (Below w.heap.size w W) := by rw [← hW]; exact ((below_alloc w _).alloc (by simp) _)
  have t0 := O0.out.1.c0
  have t1 := O0.out.1.c1
  have t2 := O0.out.1.c2
  have t3 := O0.out.1.lt
  have u0 := O0.out.2.c0
  have u1 := O0.out.2.c1
  have u2 := O0.out.2.c2
  have u3 := O0.out.2.free 0
  have u4 := O0.out.2.free 1
  have u5 := O0.out.2.free 2
  have u6 := O0.out.2.lt
  by_cases q : er = 0
  · subst q
    have E := Lib.hid (EA.out.trans (if_pos rfl))
    clear EA
    go_enter Try.func17, Try.ntmps17
    go_wp2_with (go_at_call 15; (with_reducible refine (A.out _).mono ?_); rintro e w1 ⟨rfl, b1⟩; have B1 := Lib.hid (below_more BW.out b1); have N1 := Lib.hid (B1.out.alloc B1.out.size (.cells #[.int .i64 x, .int .i64 y] 23)); have O1 : Hid (Three (w1.alloc (.cells #[.int .i64 x, .int .i64 y] 23)) w.heap.size 25 (.int .i64 p) (.int .i64 l) (.int .i64 h) ∧ Three (w1.alloc (.cells #[.int .i64 x, .int .i64 y] 23)) (w.heap.size + 1) 25 (.int .i64 0) (.int .i64 0) (.int .i64 0)) := ⟨(O0.out.1.below b1 O0.out.1.lt).alloc _, (O0.out.2.below b1 O0.out.2.lt).alloc _⟩; have X1 := Lib.hid (Two.new w1 23 (.int .i64 x) (.int .i64 y)); have x0 := X1.out.c0; have x1 := X1.out.c1; have x2 := X1.out.lt; have t0 := O1.out.1.c0; have t1 := O1.out.1.c1; have t2 := O1.out.1.c2; have t3 := O1.out.1.lt; have u0 := O1.out.2.c0; have u1 := O1.out.2.c1; have u2 := O1.out.2.c2; have u3 := O1.out.2.free 0; have u4 := O1.out.2.free 1; have u5 := O1.out.2.free 2; have u6 := O1.out.2.lt; clear b1 A)
    refine bodyPost_ret (v := .tuple #[.agg #[.int .i64 a, .int .i64 x, .int .i64 y], .int .i64 0]) (by simp [results, Try.results17, go_sem, u0, u1, u2, u6]) rfl ⟨by rw [E.out], ?_⟩
    exact ((N1.out.setCell (p := ⟨w.heap.size + 1, 0, none⟩) (by show w.heap.size ≤ w.heap.size + 1; omega) _).setCell (p := ⟨w.heap.size + 1, 1, none⟩) (by show w.heap.size ≤ w.heap.size + 1; omega) _).setCell (p := ⟨w.heap.size + 1, 2, none⟩) (by show w.heap.size ≤ w.heap.size + 1; omega) _
  · have E := Lib.hid (EA.out.trans (if_neg q))
    have e1 : (er != 0) = true := by simp; omega
    have e2 : (er == 0) = false := by simp; omega
    clear EA q
    go_enter Try.func17, Try.ntmps17
    go_wp2_with (go_at_call 15; (with_reducible refine (A.out _).mono ?_); rintro e w1 ⟨rfl, b1⟩; have B1 := Lib.hid (below_more BW.out b1); have N1 := Lib.hid (B1.out.alloc B1.out.size (.cells #[.int .i64 x, .int .i64 y] 23)); have O1 : Hid (Three (w1.alloc (.cells #[.int .i64 x, .int .i64 y] 23)) w.heap.size 25 (.int .i64 p) (.int .i64 l) (.int .i64 h) ∧ Three (w1.alloc (.cells #[.int .i64 x, .int .i64 y] 23)) (w.heap.size + 1) 25 (.int .i64 0) (.int .i64 0) (.int .i64 0)) := ⟨(O0.out.1.below b1 O0.out.1.lt).alloc _, (O0.out.2.below b1 O0.out.2.lt).alloc _⟩; have X1 := Lib.hid (Two.new w1 23 (.int .i64 x) (.int .i64 y)); have x0 := X1.out.c0; have x1 := X1.out.c1; have x2 := X1.out.lt; have t0 := O1.out.1.c0; have t1 := O1.out.1.c1; have t2 := O1.out.1.c2; have t3 := O1.out.1.lt; have u0 := O1.out.2.c0; have u1 := O1.out.2.c1; have u2 := O1.out.2.c2; have u3 := O1.out.2.free 0; have u4 := O1.out.2.free 1; have u5 := O1.out.2.free 2; have u6 := O1.out.2.lt; clear b1 A)
    refine bodyPost_ret (v := .tuple #[.agg #[.int .i64 0, .int .i64 0, .int .i64 0], .int .i64 er]) (by simp [results, Try.results17, go_sem, u0, u1, u2, u6]) rfl ⟨by rw [E.out], ?_⟩
    exact ((N1.out.setCell (p := ⟨w.heap.size + 1, 0, none⟩) (by show w.heap.size ≤ w.heap.size + 1; omega) _).setCell (p := ⟨w.heap.size + 1, 1, none⟩) (by show w.heap.size ≤ w.heap.size + 1; omega) _).setCell (p := ⟨w.heap.size + 1, 2, none⟩) (by show w.heap.size ≤ w.heap.size + 1; omega) _
end Go.Proofs.Ytpfcjffpomdhbaa
