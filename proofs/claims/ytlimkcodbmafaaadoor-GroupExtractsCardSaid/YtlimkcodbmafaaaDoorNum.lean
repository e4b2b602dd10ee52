/- Layer 3: the arithmetic of digests (FNV-1a with 64 bits), of decimal texts, and of the eight bytes of a number; no program in it. -/
import Derived.Lib.AppendIntMem
import Derived.Lib.ItoaNum
namespace Go.Proofs.YtlimkcodbmafaaaDoor
open Go
set_option linter.unusedVariables false

def stepN (h c : Nat) : Nat := (h ^^^ c) * 1099511628211 % 18446744073709551616
def fnv (h : Nat) (bs : List UInt8) : Nat := bs.foldl (fun h b => stepN h b.toNat) h
def fnv0 : Nat := 14695981039346656037

theorem stepN_lt (h c : Nat) : stepN h c < 18446744073709551616 := Nat.mod_lt _ (by decide)

theorem fnv_cons (h : Nat) (c : UInt8) (l : List UInt8) : fnv h (c :: l) = fnv (stepN h c.toNat) l := by simp only [fnv, List.foldl_cons]
theorem fnv_nil (h : Nat) : fnv h [] = h := by simp only [fnv, List.foldl_nil]

theorem fnv_lt (bs : List UInt8) (h : Nat) (hh : h < 18446744073709551616) : fnv h bs < 18446744073709551616 := by
  induction bs generalizing h with
  | nil => rw [fnv_nil]; exact hh
  | cons b l ih => rw [fnv_cons]; exact ih _ (stepN_lt _ _)

theorem fnv_append (a b : List UInt8) (h : Nat) : fnv h (a ++ b) = fnv (fnv h a) b := by
  simp [fnv, List.foldl_append]


theorem fnv_snoc (h : Nat) (c : UInt8) (l : List UInt8) : fnv h (l ++ [c]) = stepN (fnv h l) c.toNat := by
  rw [fnv_append, fnv_cons, fnv_nil]

/-- The prime is odd: it has an inverse. -/
theorem mul_inj {a b : Nat} (ha : a < 18446744073709551616) (hb : b < 18446744073709551616) (h : a * 1099511628211 % 18446744073709551616 = b * 1099511628211 % 18446744073709551616) : a = b := by
  have e : ∀ x, x < 18446744073709551616 → x * 1099511628211 % 18446744073709551616 * 14886173955864302971 % 18446744073709551616 = x := by
    intro x hx
    rw [Nat.mod_mul_mod, Nat.mul_assoc]
    have k : 1099511628211 * 14886173955864302971 = 18446744073709551616 * 887285111055 + 1 := by decide
    rw [k, Nat.mul_add, Nat.mul_one, ← Nat.mul_assoc, Nat.mul_comm x, Nat.mul_assoc, Nat.mul_add_mod, Nat.mod_eq_of_lt hx]
  rw [← e a ha, ← e b hb, h]

theorem xor_lt {a c : Nat} (ha : a < 18446744073709551616) (hc : c < 256) : a ^^^ c < 18446744073709551616 :=
  Nat.xor_lt_two_pow (n := 64) (by omega) (by omega)

theorem xor_cancel_right (a b c : Nat) (h : a ^^^ c = b ^^^ c) : a = b := by
  have := congrArg (· ^^^ c) h
  simpa [Nat.xor_assoc, Nat.xor_self] using this

theorem xor_cancel_left (a b c : Nat) (h : c ^^^ a = c ^^^ b) : a = b := by
  have := congrArg (c ^^^ ·) h
  simpa [← Nat.xor_assoc, Nat.xor_self] using this

theorem stepN_inj {a b c : Nat} (ha : a < 18446744073709551616) (hb : b < 18446744073709551616) (hc : c < 256) (h : stepN a c = stepN b c) : a = b :=
  xor_cancel_right a b c (mul_inj (xor_lt ha hc) (xor_lt hb hc) h)

theorem stepN_inj2 {a c d : Nat} (ha : a < 18446744073709551616) (hc : c < 256) (hd : d < 256) (h : stepN a c = stepN a d) : c = d :=
  xor_cancel_left c d a (mul_inj (xor_lt ha hc) (xor_lt ha hd) h)

theorem u8_lt (b : UInt8) : b.toNat < 256 := b.toNat_lt

theorem fnv_inj (l : List UInt8) {a b : Nat} (ha : a < 18446744073709551616) (hb : b < 18446744073709551616) : fnv a l = fnv b l ↔ a = b := by
  constructor
  · induction l generalizing a b with
    | nil => rw [fnv_nil, fnv_nil]; exact id
    | cons c l ih => rw [fnv_cons, fnv_cons]; exact fun h => stepN_inj ha hb (u8_lt c) (ih (stepN_lt _ _) (stepN_lt _ _) h)
  · rintro rfl; rfl

theorem fnv0_lt : fnv0 < 18446744073709551616 := by decide

/-- One byte changed: another digest. -/
theorem fnv_one (x y : List UInt8) {c d : UInt8} {h : Nat} (hh : h < 18446744073709551616) (hne : c ≠ d) : fnv h (x ++ c :: y) ≠ fnv h (x ++ d :: y) := by
  rw [fnv_append, fnv_append, fnv_cons, fnv_cons]
  intro e
  have e2 := (fnv_inj y (stepN_lt _ _) (stepN_lt _ _)).1 e
  exact hne (UInt8.toNat_inj.1 (stepN_inj2 (fnv_lt _ _ hh) (u8_lt c) (u8_lt d) e2))

/-- The same with one byte replaced at a place. -/
theorem fnv_set (l : List UInt8) (k : Nat) (hk : k < l.length) (d : UInt8) {h : Nat} (hh : h < 18446744073709551616) (hne : d ≠ l.getD k 0) : fnv h (l.set k d) ≠ fnv h l := by
  have e1 : l = l.take k ++ l.getD k 0 :: l.drop (k + 1) := by
    have := List.take_append_drop k l
    rw [List.drop_eq_getElem_cons hk] at this
    rw [show l.getD k 0 = l[k] by simp [List.getD, hk]]
    exact this.symm
  have e2 : l.set k d = l.take k ++ d :: l.drop (k + 1) := by rw [List.set_eq_take_append_cons_drop, if_pos hk]
  rw [e2]
  conv => rhs; rw [e1]
  exact fnv_one _ _ hh hne

/-- The text of integers. -/
def textOf : List Int → List UInt8
  | [] => []
  | x :: l => Lib.itoa x ++ 32 :: textOf l

theorem textOf_append (a b : List Int) : textOf (a ++ b) = textOf a ++ textOf b := by
  induction a with
  | nil => rfl
  | cons x l ih => simp [textOf, ih]

theorem textOf_snoc (a : List Int) (x : Int) : textOf (a ++ [x]) = textOf a ++ Lib.itoa x ++ [32] := by
  rw [textOf_append]; simp [textOf]

theorem dec_snoc (n : Nat) : ∃ p : List UInt8, ∀ d < 10, Lib.decDigits (n / 10 * 10 + d) = p ++ [UInt8.ofNat (48 + d)] := by
  by_cases h : n < 10
  · refine ⟨[], fun d hd => ?_⟩
    rw [show n / 10 * 10 + d = d by omega, Lib.decDigits, dif_pos hd]; rfl
  · refine ⟨Lib.decDigits (n / 10), fun d hd => ?_⟩
    rw [Lib.decDigits, dif_neg (by omega), show (n / 10 * 10 + d) / 10 = n / 10 by omega, show (n / 10 * 10 + d) % 10 = d by omega]

theorem digit_ne {c d : Nat} (hc : c < 10) (hd : d < 10) (h : c ≠ d) : UInt8.ofNat (48 + c) ≠ UInt8.ofNat (48 + d) := by
  intro e
  have := congrArg UInt8.toNat e
  simp only [UInt8.toNat_ofNat'] at this
  omega

/-- One integer's last digit changed: another digest of the text. -/
theorem fnv_digit (l : List Int) (k : Nat) (hk : k < l.length) (d : Int) {h : Nat} (hh : h < 18446744073709551616) (n : Int) (hn : l.getD k 0 = n) (h0 : 0 ≤ n) (hd0 : 0 ≤ d) (hd1 : d < 10) (hne : n % 10 ≠ d) :
    fnv h (textOf (l.set k (n - n % 10 + d))) ≠ fnv h (textOf l) := by
  have e1 : l = l.take k ++ n :: l.drop (k + 1) := by
    have := List.take_append_drop k l
    rw [List.drop_eq_getElem_cons hk] at this
    have e : l.getD k 0 = l[k] := by simp [List.getD, hk]
    rw [← e, hn] at this
    exact this.symm
  have e2 : l.set k (n - n % 10 + d) = l.take k ++ (n - n % 10 + d) :: l.drop (k + 1) := by rw [List.set_eq_take_append_cons_drop, if_pos hk]
  rw [e2]
  conv => rhs; rw [e1]
  obtain ⟨N, rfl⟩ : ∃ N : Nat, n = (N : Int) := ⟨n.toNat, by omega⟩
  obtain ⟨D, rfl⟩ : ∃ D : Nat, d = (D : Int) := ⟨d.toNat, by omega⟩
  obtain ⟨p, hp⟩ := dec_snoc N
  have a1 : ((N : Int) - (N : Int) % 10 + (D : Int)) = ((N / 10 * 10 + D : Nat) : Int) := by omega
  have a2 : (N : Int) = ((N / 10 * 10 + N % 10 : Nat) : Int) := by omega
  rw [a1]
  conv => rhs; rw [a2]
  rw [textOf_append, textOf_append]
  simp only [textOf, Lib.itoa_nonneg]
  rw [hp D (by omega), hp (N % 10) (by omega)]
  simp only [List.append_assoc, List.singleton_append]
  rw [← List.append_assoc, ← List.append_assoc]
  refine fnv_one _ _ hh (digit_ne (by omega) (by omega) ?_)
  intro e
  apply hne
  omega

/-- The bytes of a number of 64 bits, the most significant one first. -/
def byteAt (d k : Nat) : UInt8 := UInt8.ofNat (d / 2 ^ (8 * k))
def eight (d : Nat) : List UInt8 := [byteAt d 7, byteAt d 6, byteAt d 5, byteAt d 4, byteAt d 3, byteAt d 2, byteAt d 1, byteAt d 0]

theorem byteAt_toNat (d k : Nat) : (byteAt d k).toNat = d / 2 ^ (8 * k) % 256 := by simp [byteAt]

/-- A number changed in one byte alone has the same bytes but one. -/
theorem byte_xor (d w k j : Nat) (hw : w < 256) (hk : k < 8) (hj : j < 8) : (byteAt (d ^^^ w * 2 ^ (8 * k)) j).toNat = if j = k then (byteAt d j).toNat ^^^ w else (byteAt d j).toNat := by
  have key : ∀ i, (byteAt (d ^^^ w * 2 ^ (8 * k)) j).toNat.testBit i = (if j = k then (byteAt d j).toNat ^^^ w else (byteAt d j).toNat).testBit i := by
    intro i
    have hb : ∀ i, ¬ i < 8 → w.testBit i = false := fun i hi => Nat.testBit_lt_two_pow (Nat.lt_of_lt_of_le hw (Nat.pow_le_pow_right (n := 2) (by omega) (show 8 ≤ i by omega)))
    rw [byteAt_toNat, show (256 : Nat) = 2 ^ 8 by rfl, Nat.testBit_mod_two_pow, Nat.testBit_div_two_pow, Nat.testBit_xor, Nat.testBit_mul_two_pow]
    by_cases e : j = k
    · subst e
      rw [if_pos rfl, Nat.testBit_xor, byteAt_toNat, show (256 : Nat) = 2 ^ 8 by rfl, Nat.testBit_mod_two_pow, Nat.testBit_div_two_pow]
      have e1 : i + 8 * j - 8 * j = i := by omega
      have e2 : 8 * j ≤ i + 8 * j := by omega
      by_cases hi : i < 8
      · simp [hi, e1]
      · simp [hi, hb i hi]
    · rw [if_neg e, byteAt_toNat, show (256 : Nat) = 2 ^ 8 by rfl, Nat.testBit_mod_two_pow, Nat.testBit_div_two_pow]
      by_cases hi : i < 8
      · by_cases hle : 8 * k ≤ i + 8 * j
        · have : w.testBit (i + 8 * j - 8 * k) = false := hb _ (by omega)
          simp [hi, hle, this]
        · simp [hi, hle]
      · simp [hi]
  exact Nat.eq_of_testBit_eq key

theorem eight_xor (d w k : Nat) (hw : w < 256) (h0 : 0 < w) (hk : k < 8) : ∃ b : UInt8, eight (d ^^^ w * 2 ^ (8 * k)) = (eight d).set (7 - k) b ∧ b ≠ (eight d).getD (7 - k) 0 := by
  have same : ∀ j, j < 8 → j ≠ k → byteAt (d ^^^ w * 2 ^ (8 * k)) j = byteAt d j := fun j hj hne => UInt8.toNat_inj.1 (by rw [byte_xor d w k j hw hk hj, if_neg hne])
  have other : byteAt (d ^^^ w * 2 ^ (8 * k)) k ≠ byteAt d k := by
    intro e
    have := congrArg UInt8.toNat e
    rw [byte_xor d w k k hw hk hk, if_pos rfl] at this
    have z := xor_cancel_left w 0 (byteAt d k).toNat (by rw [this]; simp)
    omega
  refine ⟨byteAt (d ^^^ w * 2 ^ (8 * k)) k, ?_, ?_⟩
  · unfold eight
    have h7 := same 7 (by omega); have h6 := same 6 (by omega); have h5 := same 5 (by omega); have h4 := same 4 (by omega)
    have h3 := same 3 (by omega); have h2 := same 2 (by omega); have h1 := same 1 (by omega); have h0 := same 0 (by omega)
    rcases (by omega : k = 0 ∨ k = 1 ∨ k = 2 ∨ k = 3 ∨ k = 4 ∨ k = 5 ∨ k = 6 ∨ k = 7) with rfl | rfl | rfl | rfl | rfl | rfl | rfl | rfl <;> simp_all [List.set]
  · rcases (by omega : k = 0 ∨ k = 1 ∨ k = 2 ∨ k = 3 ∨ k = 4 ∨ k = 5 ∨ k = 6 ∨ k = 7) with rfl | rfl | rfl | rfl | rfl | rfl | rfl | rfl <;> exact other

theorem eight_length (d : Nat) : (eight d).length = 8 := rfl

/-- One byte of a number changed: another digest of its bytes, with anything before and behind. -/
theorem fnv_eight (x y : List UInt8) (d w k : Nat) (hw : w < 256) (h0 : 0 < w) (hk : k < 8) {h : Nat} (hh : h < 18446744073709551616) : fnv h (x ++ eight (d ^^^ w * 2 ^ (8 * k)) ++ y) ≠ fnv h (x ++ eight d ++ y) := by
  obtain ⟨b, e, hb⟩ := eight_xor d w k hw h0 hk
  have hlt : fnv h x < 18446744073709551616 := fnv_lt _ _ hh
  rw [fnv_append, fnv_append, fnv_append, fnv_append, e]
  intro h2
  have h3 := (fnv_inj y (fnv_lt _ _ hlt) (fnv_lt _ _ hlt)).1 h2
  exact fnv_set (eight d) (7 - k) (by rw [eight_length]; omega) b hlt hb h3

end Go.Proofs.YtlimkcodbmafaaaDoor
