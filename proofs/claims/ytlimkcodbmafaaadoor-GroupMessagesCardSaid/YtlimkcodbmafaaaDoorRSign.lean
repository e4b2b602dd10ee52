/- Layer 6: the reference's Sign, Back, Verify. -/
import Derived.Laws.Rows
import Derived.Test.YtlimkcodbmafaaaDoorRChal
namespace Go.Proofs.YtlimkcodbmafaaaDoor
open Go.RowKit Go.Sort Go
set_option linter.unusedVariables false
set_option linter.unusedSimpArgs false

/-- Block g holds just two cells. -/
def Two (w : World) (g : Nat) (t : TypeId) (u v : Value) : Prop := w.heap[g]? = some (.cells #[u, v] t (0, 0))
section
variable {w : World} {g : Nat} {t : TypeId} {u v : Value}
theorem Two.lt (h : Two w g t u v) : g < w.heap.size := by
  rcases Nat.lt_or_ge g w.heap.size with hl | hl
  · exact hl
  · unfold Two at h; rw [Array.getElem?_eq_none hl] at h; cases h
theorem Two.c0 (h : Two w g t u v) : w.cell? ⟨g, 0, none⟩ = some u := cell_of_row w g 0 _ t (0, 0) h
theorem Two.c1 (h : Two w g t u v) : w.cell? ⟨g, 1, none⟩ = some v := cell_of_row w g 1 _ t (0, 0) h
theorem Two.free (h : Two w g t u v) (i : Nat) : w.frozen? ⟨g, i, none⟩ = false := by
  unfold Two at h
  simp [World.frozen?, h]
theorem Two.new (w : World) (t : TypeId) (u v : Value) : Two (w.alloc (.cells #[u, v] t)) w.heap.size t u v := heap_alloc_new w _
theorem Two.set0 (h : Two w g t u v) (x : Value) : Two (w.setCell ⟨g, 0, none⟩ x) g t x v := by
  unfold Two at h ⊢
  simp [World.setCell, Array.getElem?_modify, h]
theorem Two.set1 (h : Two w g t u v) (x : Value) : Two (w.setCell ⟨g, 1, none⟩ x) g t u x := by
  unfold Two at h ⊢
  simp [World.setCell, Array.getElem?_modify, h]
theorem Two.below {B : Nat} {w' : World} (h : Two w g t u v) (hb : Below B w w') (hg : g < B) : Two w' g t u v := (hb.block g hg).trans h
end

/-- A signature as a value. -/
def sgV (c s : Int) : Value := .agg #[.int .i64 c, .int .i64 s]

/-- What Sign returns: C, S and the error. -/
def sigC (key once : Int) (zs : List Int) : Nat := chalN (pw 2147483579 4 once.toNat : Int) (pw 2147483579 4 key.toNat : Int) zs
def sigS (key once : Int) (zs : List Int) : Nat := (once.toNat + sigC key once zs * key.toNat) % 1073741789
def signR (key once : Int) (zs : List Int) : Int × Int × Int := if SeI key ∧ SeI once then ((sigC key once zs : Int), (sigS key once zs : Int), 0) else (0, 0, 1)

theorem rsign_no (q1 q2 : Bool) (hq : q1 = false ∨ q2 = false) (key once : Int) (A : Option Addr) (n cap : Nat) (w : World)
    (K1 : Hid (∀ w, Calls Tryd.prog 35 #[.int .i64 key] w fun e w' => e = .returned (.bool q1) ∧ w = w'))
    (K2 : Hid (∀ w, Calls Tryd.prog 35 #[.int .i64 once] w fun e w' => e = .returned (.bool q2) ∧ w = w')) :
    Calls Tryd.prog 18 #[.int .i64 key, .int .i64 once, .slice A n cap] w (Gives (.tuple #[sgV 0 0, .int .i64 1]) w) := by
  obtain ⟨W, hW⟩ : ∃ W, w.alloc (.cells #[.int .i64 0, .int .i64 0] 23) = W := ⟨_, rfl⟩
  have T0 : Two W w.heap.size 23 (.int .i64 0) (.int .i64 0) := by rw [← hW]; exact Two.new w _ _ _
  have hb : Hid (Below w.heap.size w W) := by rw [← hW]; exact below_alloc w _
  have t0 := T0.c0
  have t1 := T0.c1
  have t2 := T0.free 0
  have t3 := T0.free 1
  have t4 := T0.lt
  clear T0
  cases q1 with
  | false =>
    go_enter Tryd.func18, Tryd.ntmps18
    go_wp2_with (go_at_call 35; refine (K1.out _).mono ?_; rintro e w' ⟨rfl, rfl⟩)
    refine bodyPost_ret (v := .tuple #[.agg #[.int .i64 0, .int .i64 0], .int .i64 1]) (by simp [results, Tryd.results18, go_sem, t0, t1]) rfl ⟨rfl, ?_⟩
    exact (hb.out.setCell (p := ⟨w.heap.size, 0, none⟩) (by simp) _).setCell (p := ⟨w.heap.size, 1, none⟩) (by simp) _
  | true =>
    obtain rfl : q2 = false := by simpa using hq
    go_enter Tryd.func18, Tryd.ntmps18
    go_wp2_with (first
      | (go_at_call 35; refine (K1.out _).mono ?_; rintro e w' ⟨rfl, rfl⟩; clear K1)
      | (go_at_call 35; refine (K2.out _).mono ?_; rintro e w' ⟨rfl, rfl⟩))
    refine bodyPost_ret (v := .tuple #[.agg #[.int .i64 0, .int .i64 0], .int .i64 1]) (by simp [results, Tryd.results18, go_sem, t0, t1]) rfl ⟨rfl, ?_⟩
    exact (hb.out.setCell (p := ⟨w.heap.size, 0, none⟩) (by simp) _).setCell (p := ⟨w.heap.size, 1, none⟩) (by simp) _
end Go.Proofs.YtlimkcodbmafaaaDoor
