/- Layer 7: the reference's Rate and Worst. -/
import Derived.Lib.MinMax
import Derived.Test.YtjjpcgfhoncmeaaRValid
namespace Go.Proofs.Ytjjpcgfhoncmeaa
open Go.RowKit Go
set_option linter.unusedVariables false
set_option linter.unusedSimpArgs false

instance (tm ag : List Int) (rt : List (List Int)) : Decidable (ValidT tm ag rt) := by unfold ValidT RisesL StepOk RowOk; infer_instance
instance (T : Tb) : Decidable T.Ok := by unfold Tb.Ok; infer_instance

/-- Two cells, of a range. -/
def Two (w : World) (g : Nat) (t : TypeId) (u v : Value) : Prop := w.heap[g]? = some (.cells #[u, v] t (0, 0))
section
variable {w : World} {g : Nat} {t : TypeId} {u v : Value}
theorem Two.lt (h : Two w g t u v) : g < w.heap.size := by
  rcases Nat.lt_or_ge g w.heap.size with hl | hl
  · exact hl
  · unfold Two at h; rw [Array.getElem?_eq_none hl] at h; cases h
theorem Two.c0 (h : Two w g t u v) : w.cell? ⟨g, 0, none⟩ = some u := cell_of_row w g 0 _ t (0, 0) h
theorem Two.c1 (h : Two w g t u v) : w.cell? ⟨g, 1, none⟩ = some v := cell_of_row w g 1 _ t (0, 0) h
theorem Two.free (h : Two w g t u v) (i : Nat) : w.frozen? ⟨g, i, none⟩ = false := by
  unfold Two at h
  simp [World.frozen?, h]
theorem Two.new (w : World) (t : TypeId) (u v : Value) : Two (w.alloc (.cells #[u, v] t)) w.heap.size t u v := heap_alloc_new w _
theorem Two.below {B : Nat} {w' : World} (h : Two w g t u v) (hb : Below B w w') (hg : g < B) : Two w' g t u v := (hb.block g hg).trans h
theorem Two.alloc (h : Two w g t u v) (o : Obj) : Two (w.alloc o) g t u v := h.below (below_alloc w o) h.lt
theorem Three.alloc {x : Value} (h : Three w g t u v x) (o : Obj) : Three (w.alloc o) g t u v x := h.below (below_alloc w o) h.lt
end

/-- What a table says of two bands; the greatest of a row, and of a part of the table, from 0 on. -/
def rateAt (rt : List (List Int)) (i k : Nat) : Int := (rt.getD i []).getD k 0
def maxRow (l : List Int) (k : Nat) : Nat → Int
  | 0 => 0
  | n + 1 => max (maxRow l k n) (l.getD (k + n) 0)
def maxTab (rt : List (List Int)) (i k n : Nat) : Nat → Int
  | 0 => 0
  | m + 1 => max (maxTab rt i k n m) (maxRow (rt.getD (i + m) []) k n)

def rateR (T : Tb) (temp age : Int) : Int × Int :=
  if T.Ok then (if cnt T.tm temp = 0 ∨ cnt T.ag age = 0 then (0, 3) else (rateAt T.rt (cnt T.tm temp - 1) (cnt T.ag age - 1), 0)) else (0, 1)
def worstR (T : Tb) (tl th al ah : Int) : Int × Int :=
  if T.Ok ∧ tl ≤ th ∧ al ≤ ah then
    (if cnt T.tm tl = 0 ∨ cnt T.ag al = 0 then (0, 3)
     else (maxTab T.rt (cnt T.tm tl - 1) (cnt T.ag al - 1) (cnt T.ag ah + 1 - cnt T.ag al) (cnt T.tm th + 1 - cnt T.tm tl), 0))
  else (0, 1)

/-- The rates of a table that is well-formed. -/
theorem Tb.Ok.rate {T : Tb} (h : T.Ok) {i k : Nat} (hi : i < T.tm.length) (hk : k < T.ag.length) : 0 ≤ rateAt T.rt i k ∧ rateAt T.rt i k ≤ 1000000 := (h.2.2.2 i (by rw [h.2.2.1]; exact hi)).2 k hk

/-- A cell of the table, in memory. -/
theorem Tb.At.cell {T : Tb} {w : World} (h : T.At w) (ho : T.Ok) {i k : Nat} (hi : i < T.tm.length) (hk : k < T.ag.length) :
    i < T.n2 ∧ ∃ p a m c, T.A2 = some p ∧ w.cell? (p.add i) = some (.slice (some a) m c) ∧ m = T.ag.length ∧ w.cell? (a.add k) = some (.int .i64 (rateAt T.rt i k)) := by
  have l2 := h.2.2.1.1
  have e := ho.2.2.1
  obtain ⟨p, a, m, c, e1, e2, e3, e4⟩ := h.2.2.1.at_ i (by omega)
  have lm := e4.1
  have ro := (ho.2.2.2 i (by omega)).1
  obtain ⟨a', rfl, e5, _⟩ := e4.at_ k (by omega)
  exact ⟨by omega, p, a', m, c, e1, e2, by omega, e5⟩

set_option maxHeartbeats 1000000 in
theorem rrate_any (T : Tb) (x y : Int) (w : World) (ht : T.At w) :
    Calls Try.prog 12 #[T.val, .int .i64 x, .int .i64 y] w (Gives (.tuple #[.int .i64 (rateR T x y).1, .int .i64 (rateR T x y).2]) w) := by
  obtain ⟨W, hW⟩ : ∃ W, w.alloc (.cells T.cells 25) = W := ⟨_, rfl⟩
  have HT : Hid (Three W w.heap.size 25 (.slice T.A0 T.n0 T.c0) (.slice T.A1 T.n1 T.c1) (.slice T.A2 T.n2 T.c2)) := by rw [← hW]; exact Three.new w _ _ _ _
  have BW : Hid (Below w.heap.size w W) := by rw [← hW]; exact below_alloc w _
  have t0 := HT.out.c0
  have t1 := HT.out.c1
  have t2 := HT.out.c2
  have t3 := HT.out.lt
  have AT := Lib.hid (ht.step BW.out)
  have V := Lib.hid (fun q hq => rvalid_any T q hq W AT.out)
  unfold Tb.val at V ⊢
  unfold Tb.cells at hW
  by_cases ho : T.Ok
  · have V := Lib.hid (V.out true (by simp [ho]))
    have e1 : rateR T x y = (if cnt T.tm x = 0 ∨ cnt T.ag y = 0 then (0, 3) else (rateAt T.rt (cnt T.tm x - 1) (cnt T.ag y - 1), 0)) := if_pos ho
    have E1 := Lib.hid e1
    clear e1
    have CX := cnt_le T.tm x
    have CY := cnt_le T.ag y
    have B0 := Lib.hid (fun W' (b : Below W.heap.size W W') => rband_any T.A0 T.n0 T.c0 T.tm x ho.1 W' (AT.out.1.step b) AT.out.2.2.2.1)
    have B1 := Lib.hid (fun W' (b : Below W.heap.size W W') => rband_any T.A1 T.n1 T.c1 T.ag y ho.2.1 W' (AT.out.2.1.step b) AT.out.2.2.2.2.1)
    have HC := Lib.hid (fun W' (b : Below W.heap.size W W') (i k : Nat) (hi : i < T.tm.length) (hk : k < T.ag.length) => (AT.out.step b).cell ho hi hk)
    have l8 := ho.1.2.2
    have l9 := ho.2.1.2.2
    have ln2 := AT.out.2.2.2.2.2
    generalize cnt T.tm x = c at B0 E1 CX
    generalize cnt T.ag y = d at B1 E1 CY
    go_enter Try.func12, Try.ntmps12
    go_wp2_with (go_at_call 14; refine V.out.mono ?_; rintro e w1 ⟨rfl, b1⟩; refine Hid.out ?_)
    refine Lib.hid ?_
    have T1 := HT.out.below b1 t3
    have HB := Lib.hid b1
    have s0 := T1.c0
    have s1 := T1.c1
    have s2 := T1.c2
    have s3 := T1.lt
    clear T1 b1 V hW
    have HC1 := Lib.hid (HC.out w1 HB.out)
    rcases (by omega : c = 0 ∨ (1 ≤ c ∧ d = 0) ∨ (1 ≤ c ∧ 1 ≤ d)) with h | ⟨h, h'⟩ | ⟨h, h'⟩
    · subst h
      have E2 := Lib.hid (E1.out.trans (if_pos (.inl rfl)))
      go_wp2_with (first
        | (go_at_call 29; with_reducible refine (B0.out _ HB.out).mono ?_; rintro e w' ⟨rfl, rfl⟩; clear B0)
        | (go_at_call 29; with_reducible refine (B1.out _ HB.out).mono ?_; rintro e w' ⟨rfl, rfl⟩; clear B1))
      go_ret2
      exact ⟨by rw [E2.out]; rfl, BW.out.trans (HB.out.mono BW.out.size)⟩
    · subst h'
      have E2 := Lib.hid (E1.out.trans (if_pos (.inr rfl)))
      go_wp2_with (first
        | (go_at_call 29; with_reducible refine (B0.out _ HB.out).mono ?_; rintro e w' ⟨rfl, rfl⟩; clear B0)
        | (go_at_call 29; with_reducible refine (B1.out _ HB.out).mono ?_; rintro e w' ⟨rfl, rfl⟩; clear B1))
      go_ret2
      exact ⟨by rw [E2.out]; rfl, BW.out.trans (HB.out.mono BW.out.size)⟩
    · have E2 := Lib.hid (E1.out.trans (if_neg (by omega)))
      obtain ⟨i, hi⟩ : ∃ i, c - 1 = i := ⟨_, rfl⟩
      obtain ⟨k, hk⟩ : ∃ k, d - 1 = k := ⟨_, rfl⟩
      rw [hi, hk] at E2
      have ei : (c : Int) - 1 = (i : Int) := by omega
      have ek : (d : Int) - 1 = (k : Int) := by omega
      have HK := HC1.out i k (by omega) (by omega)
      obtain ⟨i2, p, a, m, cc, e2, e3, e4, e5⟩ := HK
      generalize rateAt T.rt i k = z at E2 e5
      have km : k < m := by omega
      rw [e2] at s2
      clear hi hk HC HC1 E1 h h'
      have MM : m ≤ 9223372036854775807 := by omega
      clear e4
      go_wp2_with (first
        | (go_at_call 29; with_reducible refine (B0.out _ HB.out).mono ?_; rintro e w' ⟨rfl, rfl⟩; clear B0)
        | (go_at_call 29; with_reducible refine (B1.out _ HB.out).mono ?_; rintro e w' ⟨rfl, rfl⟩; clear B1))
      go_ret2
      exact ⟨by rw [E2.out]; rfl, BW.out.trans (HB.out.mono BW.out.size)⟩
  · have V := Lib.hid (V.out false (by simp [ho]))
    have E1 := Lib.hid (show rateR T x y = (0, 1) from if_neg ho)
    clear ho
    go_enter Try.func12, Try.ntmps12
    go_wp2_with (go_at_call 14; refine V.out.mono ?_; rintro e w1 ⟨rfl, b1⟩)
    go_ret2
    exact ⟨by rw [E1.out]; rfl, BW.out.trans (b1.mono BW.out.size)⟩
end Go.Proofs.Ytjjpcgfhoncmeaa
