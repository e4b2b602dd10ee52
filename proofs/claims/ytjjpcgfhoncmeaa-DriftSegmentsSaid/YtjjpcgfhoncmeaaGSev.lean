/- Layer 7: package drift's Several. -/
import Derived.Laws.AppendOwn
import Derived.Laws.OwnMore
import Derived.Test.YtjjpcgfhoncmeaaGFold
namespace Go.Proofs.Ytjjpcgfhoncmeaa
open Go.RowKit Go
set_option linter.unusedVariables false
set_option linter.unusedSimpArgs false

theorem own_em (v : Value) : v.ownBlock = none ∨ v.ownBlock ≠ none := Classical.em _

def encP (x : Int × Int) : List Value := [.int .i64 x.1, .int .i64 x.2]
def cellsP (l : List (Int × Int)) : List Value := l.flatMap encP
theorem cellsP_app (a b : List (Int × Int)) : cellsP (a ++ b) = cellsP a ++ cellsP b := by simp [cellsP]
theorem cellsP_at (l : List (Int × Int)) : ∀ k, k < l.length → (cellsP l)[2 * k]? = some (.int .i64 (l.getD k (0, 0)).1) ∧ (cellsP l)[2 * k + 1]? = some (.int .i64 (l.getD k (0, 0)).2) := by
  induction l with
  | nil => intro k h; simp at h
  | cons x l ih =>
    intro k h
    cases k with
    | zero => exact ⟨rfl, rfl⟩
    | succ k =>
      obtain ⟨h0, h1⟩ := ih k (by simpa using h)
      rw [List.getD_cons_succ]
      refine ⟨?_, ?_⟩
      · rw [show 2 * (k + 1) = 2 * k + 1 + 1 by omega]; exact h0
      · rw [show 2 * (k + 1) + 1 = 2 * k + 1 + 1 + 1 by omega]; exact h1
theorem info_sp : (Try.prog.info? 56).map (fun i => (i.zero, i.size, i.bytes)) = some (some (.agg #[.int .i64 0, .int .i64 0]), 2, 16) := by kernel_rfl
theorem rowP_own {w : World} {base : Nat} {v : Value} {xs : List (Int × Int)} (h : w.ownsRow base 56 2 v xs.length (cellsP xs)) :
    ∃ A cap, v = .slice A xs.length cap ∧ RowP w.heap.size w A xs.length xs := by
  rcases h.2 with ⟨rfl, h0⟩ | ⟨g, cap, cur, rfl, hb, hg, hn, hm, hs, ht⟩
  · exact ⟨none, 0, by rw [h0], rfl, fun hn => by omega⟩
  · refine ⟨some ⟨g, 0, none⟩, cap, rfl, rfl, fun _ => ⟨_, rfl, (Array.getElem?_eq_some_iff.1 hg).1, fun i hi => ?_⟩⟩
    obtain ⟨h0, h1⟩ := cellsP_at xs i hi
    rw [add_zero_off]
    refine ⟨?_, ?_⟩
    · rw [h.cellAt (i * 2) (by omega), show i * 2 = 2 * i by omega]; exact h0
    · rw [h.cellAt (i * 2 + 1) (by omega), show i * 2 = 2 * i by omega]; exact h1

/-- What the segments add, one by one. -/
def spans (T : Tb) (l : List Sg) : List (Int × Int) := l.map fun s => (segLo T s, segHi T s)
theorem spans_len (T : Tb) (l : List Sg) : (spans T l).length = l.length := by simp [spans]
theorem spans_app (T : Tb) (a b : List Sg) : spans T (a ++ b) = spans T a ++ spans T b := by simp [spans]
theorem spans_1 (T : Tb) (l : List Sg) : sum1 (spans T l) = sumLo T l := by
  induction l with
  | nil => rfl
  | cons s r ih => simp only [spans, List.map_cons, sum1, sumLo]; rw [← ih]; rfl
theorem spans_2 (T : Tb) (l : List Sg) : sum2 (spans T l) = sumHi T l := by
  induction l with
  | nil => rfl
  | cons s r ih => simp only [spans, List.map_cons, sum2, sumHi]; rw [← ih]; rfl
theorem spans_few (T : Tb) : ∀ l : List Sg, firstE T l = 0 → FewP (spans T l) := by
  intro l
  induction l with
  | nil => intro _ x hx; simp [spans] at hx
  | cons s r ih =>
    intro h
    by_cases q : segE T s = 0
    · simp only [firstE, if_pos q] at h
      intro x hx
      simp only [spans, List.map_cons, List.mem_cons] at hx
      rcases hx with rfl | hx
      · exact seg_bound T s (seg_ok q)
      · exact ih h x hx
    · simp only [firstE, if_neg q] at h
      exact absurd h q

set_option maxHeartbeats 4000000 in
theorem sev_no (T : Tb) (A : Option Addr) (len cap : Nat) (l : List Sg) (hno : ¬ T.Ok ∨ 64 < len) (w : World) (ht : T.At w) (hr : RowS w.heap.size w A len l) (hl : len ≤ 9223372036854775807) :
    Calls Try.prog 21 #[T.val, .slice A len cap] w (Gives (.tuple #[rgV (sevR T l).1 (sevR T l).2.1, .int .i64 (sevR T l).2.2]) w) := by
  obtain ⟨W, hW⟩ : ∃ W, (w.alloc (.cells T.cells 25)).alloc (.cells #[.int .i64 0, .int .i64 0] 27) = W := ⟨_, rfl⟩
  have HT : Hid (Three W w.heap.size 25 (.slice T.A0 T.n0 T.c0) (.slice T.A1 T.n1 T.c1) (.slice T.A2 T.n2 T.c2)) := by rw [← hW]; exact (Three.new w _ _ _ _).alloc _
  have HU : Hid (Two W (w.heap.size + 1) 27 (.int .i64 0) (.int .i64 0)) := by
    rw [← hW]
    have h := Two.new (w.alloc (.cells T.cells 25)) 27 (.int .i64 0) (.int .i64 0)
    rwa [show (w.alloc (.cells T.cells 25)).heap.size = w.heap.size + 1 by simp] at h
  have BW : Hid (Below w.heap.size w W) := by rw [← hW]; exact ((below_alloc w _).alloc (by simp) _)
  have t3 := HT.out.lt
  have t0 := HT.out.c0
  have t1 := HT.out.c1
  have t2 := HT.out.c2
  have u2 := HU.out.lt
  have AT := Lib.hid (ht.step BW.out)
  have V := Lib.hid (fun q hq => valid_any T q hq W AT.out)
  have LN := hr.1
  clear hr
  unfold Tb.val at V ⊢
  unfold Tb.cells at hW
  by_cases ho : T.Ok
  · have V := Lib.hid (V.out true (by simp [ho]))
    have h64 : 64 < len := hno.resolve_left (fun h => h ho)
    have e : sevR T l = (0, 0, 2) := by unfold sevR; rw [if_pos ho, if_pos (by omega)]
    rw [e]
    clear e ho hno LN
    go_enter Try.func21, Try.ntmps21
    go_wp2_with (go_at_call 13; (with_reducible refine V.out.mono ?_); rintro e w1 ⟨rfl, b1⟩; have U1 := Lib.hid (HU.out.below b1 HU.out.lt); have B1 := Lib.hid (below_more BW.out b1); have u0 := U1.out.c0; have u1 := U1.out.c1; have u3 := U1.out.free 0; have u4 := U1.out.free 1; have u2 := U1.out.lt; clear b1 V)
    refine bodyPost_ret (v := .tuple #[.agg #[.int .i64 0, .int .i64 0], .int .i64 2]) (by simp [results, Try.results21, go_sem, u0, u1, u2]) rfl ⟨rfl, ?_⟩
    exact (B1.out.setCell (p := ⟨w.heap.size + 1, 0, none⟩) (by simp) _).setCell (p := ⟨w.heap.size + 1, 1, none⟩) (by simp) _
  · have V := Lib.hid (V.out false (by simp [ho]))
    have e : sevR T l = (0, 0, 1) := if_neg ho
    rw [e]
    clear e ho hno LN
    go_enter Try.func21, Try.ntmps21
    go_wp2_with (go_at_call 13; (with_reducible refine V.out.mono ?_); rintro e w1 ⟨rfl, b1⟩; have U1 := Lib.hid (HU.out.below b1 HU.out.lt); have B1 := Lib.hid (below_more BW.out b1); have u0 := U1.out.c0; have u1 := U1.out.c1; have u3 := U1.out.free 0; have u4 := U1.out.free 1; have u2 := U1.out.lt; clear b1 V)
    refine bodyPost_ret (v := .tuple #[.agg #[.int .i64 0, .int .i64 0], .int .i64 1]) (by simp [results, Try.results21, go_sem, u0, u1, u2]) rfl ⟨rfl, ?_⟩
    exact (B1.out.setCell (p := ⟨w.heap.size + 1, 0, none⟩) (by simp) _).setCell (p := ⟨w.heap.size + 1, 1, none⟩) (by simp) _
end Go.Proofs.Ytjjpcgfhoncmeaa
