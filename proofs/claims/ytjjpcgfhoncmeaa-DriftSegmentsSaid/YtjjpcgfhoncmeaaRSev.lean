/- Layer 7: the reference's Several. -/
import Derived.Deep.RegionHeld3
import Derived.Deep.RegionWith
import Derived.Test.YtjjpcgfhoncmeaaSeg
namespace Go.Proofs.Ytjjpcgfhoncmeaa
open Go.RowKit Go
set_option linter.unusedVariables false
set_option linter.unusedSimpArgs false

section
variable {w : World} {g : Nat} {t : TypeId} {u v : Value}
theorem Two.set0 (h : Two w g t u v) (x : Value) : Two (w.setCell ⟨g, 0, none⟩ x) g t x v := by
  unfold Two at h ⊢
  simp [World.setCell, Array.getElem?_modify, h]
theorem Two.set1 (h : Two w g t u v) (x : Value) : Two (w.setCell ⟨g, 1, none⟩ x) g t u x := by
  unfold Two at h ⊢
  simp [World.setCell, Array.getElem?_modify, h]
end

/-- The call's own blocks: the table, the result, the sum. -/
structure Own3 (T : Tb) (W : World) (g : Nat) : Prop where
  tb : Three W g 25 (.slice T.A0 T.n0 T.c0) (.slice T.A1 T.n1 T.c1) (.slice T.A2 T.n2 T.c2)
  res : Two W (g + 1) 27 (.int .i64 0) (.int .i64 0)
theorem Own3.far {T : Tb} {W w' : World} {g : Nat} (h : Own3 T W g) (b : Below (g + 2) W w') : Own3 T w' g := ⟨h.tb.below b (by omega), h.res.below b (by omega)⟩

set_option maxHeartbeats 4000000 in
theorem rsev_no (T : Tb) (A : Option Addr) (len cap : Nat) (l : List Sg) (hno : ¬ T.Ok ∨ 64 < len) (w : World) (ht : T.At w) (hr : RowS w.heap.size w A len l) (hl : len ≤ 9223372036854775807) :
    Calls Try.prog 22 #[T.val, .slice A len cap] w (Gives (.tuple #[rgV (sevR T l).1 (sevR T l).2.1, .int .i64 (sevR T l).2.2]) w) := by
  obtain ⟨W, hW⟩ : ∃ W, (w.alloc (.cells T.cells 25)).alloc (.cells #[.int .i64 0, .int .i64 0] 27) = W := ⟨_, rfl⟩
  have HT : Hid (Three W w.heap.size 25 (.slice T.A0 T.n0 T.c0) (.slice T.A1 T.n1 T.c1) (.slice T.A2 T.n2 T.c2)) := by rw [← hW]; exact (Three.new w _ _ _ _).alloc _
  have HU : Hid (Two W (w.heap.size + 1) 27 (.int .i64 0) (.int .i64 0)) := by
    rw [← hW]
    have h := Two.new (w.alloc (.cells T.cells 25)) 27 (.int .i64 0) (.int .i64 0)
    rwa [show (w.alloc (.cells T.cells 25)).heap.size = w.heap.size + 1 by simp] at h
  have BW : Hid (Below w.heap.size w W) := by rw [← hW]; exact ((below_alloc w _).alloc (by simp) _)
  have t3 := HT.out.lt
  have t0 := HT.out.c0
  have t1 := HT.out.c1
  have t2 := HT.out.c2
  have u2 := HU.out.lt
  have AT := Lib.hid (ht.step BW.out)
  have V := Lib.hid (fun q hq => rvalid_any T q hq W AT.out)
  have LN := hr.1
  clear hr
  unfold Tb.val at V ⊢
  unfold Tb.cells at hW
  by_cases ho : T.Ok
  · have V := Lib.hid (V.out true (by simp [ho]))
    have h64 : 64 < len := hno.resolve_left (fun h => h ho)
    have e : sevR T l = (0, 0, 2) := by unfold sevR; rw [if_pos ho, if_pos (by omega)]
    rw [e]
    clear e ho hno LN
    go_enter Try.func22, Try.ntmps22
    go_wp2_with (go_at_call 14; refine V.out.mono ?_; rintro e w1 ⟨rfl, b1⟩; refine Hid.out ?_)
    refine Lib.hid ?_
    have U1 := HU.out.below b1 u2
    have B1 := Lib.hid (below_more BW.out b1)
    clear t0 t1 t2 t3 u2 b1 V hW
    have u0 := U1.c0
    have u1 := U1.c1
    have u3 := U1.free 0
    have u4 := U1.free 1
    have u2 := U1.lt
    go_wp2_with fail
    refine bodyPost_ret (v := .tuple #[.agg #[.int .i64 0, .int .i64 0], .int .i64 2]) (by simp [results, Try.results22, go_sem, u0, u1, u2]) rfl ⟨rfl, ?_⟩
    exact (B1.out.setCell (p := ⟨w.heap.size + 1, 0, none⟩) (by simp) _).setCell (p := ⟨w.heap.size + 1, 1, none⟩) (by simp) _
  · have V := Lib.hid (V.out false (by simp [ho]))
    have e : sevR T l = (0, 0, 1) := if_neg ho
    rw [e]
    clear e ho hno LN
    go_enter Try.func22, Try.ntmps22
    go_wp2_with (go_at_call 14; refine V.out.mono ?_; rintro e w1 ⟨rfl, b1⟩; refine Hid.out ?_)
    refine Lib.hid ?_
    have U1 := HU.out.below b1 u2
    have B1 := Lib.hid (below_more BW.out b1)
    clear t0 t1 t2 t3 u2 b1 V hW
    have u0 := U1.c0
    have u1 := U1.c1
    have u3 := U1.free 0
    have u4 := U1.free 1
    have u2 := U1.lt
    go_wp2_with fail
    refine bodyPost_ret (v := .tuple #[.agg #[.int .i64 0, .int .i64 0], .int .i64 1]) (by simp [results, Try.results22, go_sem, u0, u1, u2]) rfl ⟨rfl, ?_⟩
    exact (B1.out.setCell (p := ⟨w.heap.size + 1, 0, none⟩) (by simp) _).setCell (p := ⟨w.heap.size + 1, 1, none⟩) (by simp) _
end Go.Proofs.Ytjjpcgfhoncmeaa
