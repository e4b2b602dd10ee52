/- Layer 7: package drift's bandOf and cellOf. -/
import Derived.OwnWalk
import Derived.Test.YtjjpcgfhoncmeaaGSmall
import Derived.Test.YtjjpcgfhoncmeaaShelf
namespace Go.Proofs.Ytjjpcgfhoncmeaa
open Go.RowKit Go
set_option linter.unusedVariables false
set_option linter.unusedSimpArgs false

/-- How many are less, and whether it is among them, of a list that rises: the band. -/
theorem less_band : ∀ (l : List Int) (n : Int), (∀ i j, i < j → j < l.length → l.getD i 0 < l.getD j 0) →
    cnt l n = l.countP (· < n) + (if l.contains n then 1 else 0) := by
  intro l
  induction l with
  | nil => intro n _; simp [cnt]
  | cons x r ih =>
    intro n h
    have hr : ∀ i j, i < j → j < r.length → r.getD i 0 < r.getD j 0 := fun i j h1 h2 => by
      have := h (i + 1) (j + 1) (by omega) (by simpa using h2)
      simpa using this
    have ih := ih n hr
    have hx : ∀ j, j < r.length → x < r.getD j 0 := fun j hj => by
      have := h 0 (j + 1) (by omega) (by simpa using hj)
      simpa using this
    have hm : ∀ y ∈ r, x < y := fun y hy => by
      obtain ⟨j, hj, rfl⟩ := List.mem_iff_getElem.1 hy
      have := hx j hj
      simpa [List.getD, hj] using this
    unfold cnt
    rcases (by omega : x < n ∨ x = n ∨ n < x) with q | q | q
    · rw [if_pos (by omega), ih]
      have e : (n == x) = false := by simp; omega
      simp only [List.countP_cons, List.contains_cons, e, Bool.false_or]
      simp [q]
      omega
    · subst q
      have z : r.countP (· < x) = 0 := by
        rw [List.countP_eq_zero]
        intro y hy
        have := hm y hy
        simp; omega
      have c0 : r.contains x = false := by
        rw [Bool.eq_false_iff]
        intro c
        have := hm x (List.contains_iff_mem.1 c)
        omega
      rw [if_pos (by omega), ih, z, c0]
      simp [List.countP_cons, z]
    · have z : r.countP (· < n) = 0 := by
        rw [List.countP_eq_zero]
        intro y hy
        have := hm y hy
        simp; omega
      have c0 : r.contains n = false := by
        rw [Bool.eq_false_iff]
        intro c
        have := hm n (List.contains_iff_mem.1 c)
        omega
      rw [if_neg (by omega)]
      have e : (n == x) = false := by simp; omega
      have e2 : ¬ x < n := by omega
      simp [List.countP_cons, z, e2]
      exact ⟨by omega, fun h => by have := List.contains_iff_mem.2 h; rw [c0] at this; cases this⟩

theorem sorted_pair (l : List Int) (h : ∀ i j, i < j → j < l.length → l.getD i 0 < l.getD j 0) : l.Pairwise (· ≤ ·) := by
  rw [List.pairwise_iff_getElem]
  intro i j hi hj hij
  have := h i j hij hj
  simp only [List.getD, List.getElem?_eq_getElem hi, List.getElem?_eq_getElem hj, Option.getD_some] at this
  omega

theorem bandOf_any (A : Option Addr) (len cap : Nat) (l : List Int) (n : Int) (q : Bool) (hr0 : RisesL l) (hq : q = true ↔ 1 ≤ cnt l n) (w : World) (hr : RowI w.heap.size w A len l) :
    Calls Try.prog 48 #[.slice A len cap, .int .i64 n] w fun e w' => e = .returned (.tuple #[.int .i64 ((cnt l n : Int) - 1), .bool q]) ∧ Drew w w' := by
  have hL := hr.1
  have h8 := hr0.2.2
  have h1 := hr0.2.1
  have hd : q = decide (1 ≤ cnt l n) := by rw [Bool.eq_iff_iff, decide_eq_true_iff]; exact hq
  subst hd
  obtain ⟨⟨b, off, x⟩, rfl, hp, hc⟩ := hr.2.1 (by omega)
  have hs : x = none := by
    have := World.cell?_spot (hc 0 (by omega))
    simpa [Addr.add] using this
  subst hs
  have hc' : ∀ j, j < l.length → w.cell? ⟨b, off + j, none⟩ = some (.int .i64 (l.getD j 0)) := fun j hj => by
    have := hc j (by omega)
    rwa [show Addr.add ⟨b, off, none⟩ j = ⟨b, off + j, none⟩ by unfold Addr.add; split <;> simp_all] at this
  have lt := fun i j a c => hr0.lt (l := l) j i a c
  have B := Try.slices_BinarySearch_int b off len cap l n w (by omega) (by omega) hc' (by rw [← hL, List.take_length]; exact sorted_pair l lt)
  rw [show l.take len = l by rw [← hL, List.take_length]] at B
  have LB := less_band l n lt
  generalize l.countP (· < n) = k at B LB
  cases hcn : l.contains n with
  | true =>
    rw [hcn] at B LB
    have BB := Lib.hid B
    have e : cnt l n = k + 1 := by simpa using LB
    rw [e]
    have e1 : decide (1 ≤ k + 1) = true := by simp
    rw [e1]
    have hk : ((k + 1 : Nat) : Int) - 1 = (k : Int) := by omega
    rw [hk]
    clear hq LB e e1 hk hc hc' lt B
    go_enter Try.func48, Try.ntmps48
    go_wp2_with (go_at_call 56; (with_reducible refine BB.out.mono ?_); rintro e w' ⟨rfl, q, rfl⟩)
    go_ret2
    exact ⟨by simp, Drew.n _ _⟩
  | false =>
    rw [hcn] at B LB
    have BB := Lib.hid B
    have e : cnt l n = k := by simpa using LB
    have kb := cnt_le l n
    rw [e] at kb ⊢
    clear hq LB e hc hc' lt B
    by_cases h : 1 ≤ k
    · have e1 : decide (1 ≤ k) = true := by simpa using h
      rw [e1]
      obtain ⟨m, hm⟩ : ∃ m, k - 1 = m := ⟨_, rfl⟩
      have hk : (k : Int) - 1 = (m : Int) := by omega
      clear e1
      go_enter Try.func48, Try.ntmps48
      go_wp2_with (go_at_call 56; (with_reducible refine BB.out.mono ?_); rintro e w' ⟨rfl, q, rfl⟩)
      go_ret2
      exact ⟨by rw [hk]; rfl, Drew.n _ _⟩
    · obtain rfl : k = 0 := by omega
      go_enter Try.func48, Try.ntmps48
      go_wp2_with (go_at_call 56; (with_reducible refine BB.out.mono ?_); rintro e w' ⟨rfl, q, rfl⟩)
      go_ret2
      exact ⟨by simp, Drew.n _ _⟩

/-- The row and the column, and whether there are both bands. -/
theorem cellOf_any (T : Tb) (ho : T.Ok) (x y : Int) (q : Bool) (hq : q = true ↔ 1 ≤ cnt T.tm x ∧ 1 ≤ cnt T.ag y) (w : World) (ht : T.At w) :
    Calls Try.prog 28 #[T.val, .int .i64 x, .int .i64 y] w (Gives (.tuple #[.int .i64 ((cnt T.tm x : Int) - 1), .int .i64 ((cnt T.ag y : Int) - 1), .bool q]) w) := by
  obtain ⟨W, hW⟩ : ∃ W, w.alloc (.cells T.cells 25) = W := ⟨_, rfl⟩
  have HT : Hid (Three W w.heap.size 25 (.slice T.A0 T.n0 T.c0) (.slice T.A1 T.n1 T.c1) (.slice T.A2 T.n2 T.c2)) := by rw [← hW]; exact Three.new w _ _ _ _
  have BW : Hid (Below w.heap.size w W) := by rw [← hW]; exact below_alloc w _
  have t0 := HT.out.c0
  have t1 := HT.out.c1
  have t2 := HT.out.c2
  have t3 := HT.out.lt
  have AT := ht.step BW.out
  obtain ⟨q1, hq1⟩ : ∃ q1 : Bool, q1 = decide (1 ≤ cnt T.tm x) := ⟨_, rfl⟩
  obtain ⟨q2, hq2⟩ : ∃ q2 : Bool, q2 = decide (1 ≤ cnt T.ag y) := ⟨_, rfl⟩
  have B0 := Lib.hid (bandOf_any T.A0 T.n0 T.c0 T.tm x q1 ho.1 (by simp [hq1]) W AT.1)
  have B1 := Lib.hid (fun W' (d : Drew W W') => bandOf_any T.A1 T.n1 T.c1 T.ag y q2 ho.2.1 (by simp [hq2]) W' (AT.2.1.step (d.below _)))
  have HQ : Hid (q = (q1 && q2)) := by
    unfold Hid
    rw [Bool.eq_iff_iff, hq, hq1, hq2]
    simp
  clear hq hq1 hq2 AT ht ho
  unfold Tb.val
  unfold Tb.cells at hW
  generalize (cnt T.tm x : Int) - 1 = c at B0 ⊢
  generalize (cnt T.ag y : Int) - 1 = d at B1 ⊢
  cases q1 with
  | true =>
    go_enter Try.func28, Try.ntmps28
    go_wp2_with (first
      | (go_at_call 48; (with_reducible refine B0.out.mono ?_); rintro e w1 ⟨rfl, d1⟩; have D1 := Lib.hid d1; have s0 := d1.cell t0; have s1 := d1.cell t1; have s2 := d1.cell t2; have s3 := d1.lt t3; clear d1 B0)
      | (go_at_call 48; (with_reducible refine (B1.out _ D1.out).mono ?_); rintro e w2 ⟨rfl, d2⟩; have D2 := Lib.hid (D1.out.trans d2); clear d2 B1))
    go_ret3
    exact ⟨by rw [HQ.out]; rfl, BW.out.trans (D2.out.below _)⟩
  | false =>
    go_enter Try.func28, Try.ntmps28
    go_wp2_with (first
      | (go_at_call 48; (with_reducible refine B0.out.mono ?_); rintro e w1 ⟨rfl, d1⟩; have D1 := Lib.hid d1; have s0 := d1.cell t0; have s1 := d1.cell t1; have s2 := d1.cell t2; have s3 := d1.lt t3; clear d1 B0)
      | (go_at_call 48; (with_reducible refine (B1.out _ D1.out).mono ?_); rintro e w2 ⟨rfl, d2⟩; have D2 := Lib.hid (D1.out.trans d2); clear d2 B1))
    go_ret3
    exact ⟨by rw [HQ.out]; rfl, BW.out.trans (D2.out.below _)⟩
end Go.Proofs.Ytjjpcgfhoncmeaa
