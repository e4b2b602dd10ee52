/- Layer 1: scale.Sum returns the sum of times in 128 bits, or the error; memory stays as it is. -/
import Derived.Test.YtpfcjffpomdhbaaScale
import Derived.LoopTactic
import Derived.Laws.Externs
namespace Go.Proofs.Ytpfcjffpomdhbaa
open Go.RowKit Go
set_option linter.unusedVariables false

def total : List Int → Int
  | [] => 0
  | x :: l => x + total l

theorem total_snoc (l : List Int) (x : Int) : total (l ++ [x]) = total l + x := by
  induction l with
  | nil => simp [total]
  | cons a l ih => simp only [List.cons_append, total, ih]; omega

def allTimes (l : List Int) : Bool := l.all timeB

theorem timeB_yes {x : Int} (h : timeB x = true) : -3000000000000000 ≤ x ∧ x ≤ 3000000000000000 := by
  simpa [timeB] using h

theorem timeB_no {x : Int} (h : timeB x = false) : x < -3000000000000000 ∨ 3000000000000000 < x := by
  simp only [timeB, Bool.and_eq_false_iff, decide_eq_false_iff_not] at h; omega

theorem total_bound (l : List Int) (h : allTimes l = true) : -3000000000000000 * (l.length : Int) ≤ total l ∧ total l ≤ 3000000000000000 * (l.length : Int) := by
  induction l with
  | nil => simp [total]
  | cons a l ih =>
    simp only [allTimes, List.all_cons, Bool.and_eq_true] at h
    have := ih h.2
    have := timeB_yes h.1
    simp only [total, List.length_cons]; omega

theorem take_snoc (zs : List Int) (k : Nat) (h : k < zs.length) : zs.take (k + 1) = zs.take k ++ [zs.getD k 0] := by
  rw [List.take_succ_eq_append_getElem h]; simp [h]

/-- The two halves of a sum in 128 bits. -/
def loN (S : Int) : Nat := (S % 18446744073709551616).toNat
def hiN (S : Int) : Nat := (S / 18446744073709551616 % 18446744073709551616).toNat

theorem sum_step (S x : Int) (h1 : -3000000000000000 ≤ x) (h2 : x ≤ 3000000000000000) :
    ∃ X sg c t : Nat, IntKind.u64.wrap x = (X : Int) ∧ IntKind.u64.wrap (x / 9223372036854775808) = (sg : Int) ∧ c ≤ 1 ∧
      (loN S + X + 0) % 18446744073709551616 = loN (S + x) ∧ (loN S + X + 0) / 18446744073709551616 = c ∧
      (hiN S + sg + c) % 18446744073709551616 = hiN (S + x) ∧ (hiN S + sg + c) / 18446744073709551616 = t := by
  refine ⟨(x % 18446744073709551616).toNat, (x / 9223372036854775808 % 18446744073709551616).toNat, (loN S + (x % 18446744073709551616).toNat) / 18446744073709551616, _, ?_, ?_, ?_, ?_, ?_, ?_, rfl⟩
  · rw [IntKind.wrap_u64]; omega
  · rw [IntKind.wrap_u64]; omega
  · unfold loN; omega
  · unfold loN; omega
  · rfl
  · by_cases h : 0 ≤ x
    · have e1 : x / 9223372036854775808 = 0 := by omega
      have e2 : x % 18446744073709551616 = x := by omega
      rw [e1, e2]; unfold hiN loN; omega
    · have e1 : x / 9223372036854775808 = -1 := by omega
      have e2 : x % 18446744073709551616 = x + 18446744073709551616 := by omega
      rw [e1, e2]; unfold hiN loN; omega

theorem loN_lt (S : Int) : loN S < 18446744073709551616 := by unfold loN; omega
theorem hiN_lt (S : Int) : hiN S < 18446744073709551616 := by unfold hiN; omega
theorem wrap_lt (x : Int) (X : Nat) (h : IntKind.u64.wrap x = (X : Int)) : X < 18446744073709551616 := by rw [IntKind.wrap_u64] at h; omega

theorem wrap_lo (S : Int) (h1 : -3000000000000000 ≤ S) (h2 : S ≤ 3000000000000000) : wrap64 (loN S : Int) = S := by unfold wrap64 loN; omega
theorem wrap_hi (S : Int) (h1 : -3000000000000000 ≤ S) (h2 : S ≤ 3000000000000000) : wrap64 (hiN S : Int) = S / 9223372036854775808 := by unfold wrap64 hiN; omega

theorem wrap_out (S : Int) (h1 : -422212465053696000000000000000000 ≤ S) (h2 : S ≤ 422212465053696000000000000000000) (h : ¬ (-3000000000000000 ≤ S ∧ S ≤ 3000000000000000)) :
    ¬ wrap64 (hiN S : Int) = wrap64 (loN S : Int) / 9223372036854775808 ∨ (wrap64 (loN S : Int) < -3000000000000000 ∨ 3000000000000000 < wrap64 (loN S : Int)) := by
  have e := Int.mul_ediv_add_emod S 18446744073709551616
  have r1 := Int.emod_nonneg S (show (18446744073709551616 : Int) ≠ 0 by decide)
  have r2 := Int.emod_lt_of_pos S (show (0 : Int) < 18446744073709551616 by decide)
  unfold hiN loN
  generalize S / 18446744073709551616 = q at *
  generalize S % 18446744073709551616 = r at *
  have q1 : -30000000000000 ≤ q := by omega
  have q2 : q ≤ 30000000000000 := by omega
  have eh : wrap64 ((q % 18446744073709551616).toNat : Int) = q := by unfold wrap64; omega
  rw [eh]
  have el : wrap64 (r.toNat : Int) = if r < 9223372036854775808 then r else r - 18446744073709551616 := by
    unfold wrap64; split <;> omega
  rw [el]
  split <;> omega

def finR (x : Int) : Int × Int := if -3000000000000000 ≤ x ∧ x ≤ 3000000000000000 then (x, 0) else (0, 3)
def sumR (l : List Int) : Int × Int := if allTimes l = true then finR (total l) else (0, 1)
def pairV (v : Int × Int) : Value := .tuple #[.int .i64 v.1, .int .i64 v.2]

end Go.Proofs.Ytpfcjffpomdhbaa
