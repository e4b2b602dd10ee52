/- Layer 3: the arithmetic of digests (FNV-1a with 64 bits), of decimal texts, and of the eight bytes of a number; no program in it. -/
import Derived.Lib.AppendIntMem
import Derived.Lib.ItoaNum
namespace Go.Proofs.Ytmfbnajaocaikaa
open Go
set_option linter.unusedVariables false

def stepN (h c : Nat) : Nat := (h ^^^ c) * 1099511628211 % 18446744073709551616
def fnv (h : Nat) (bs : List UInt8) : Nat := bs.foldl (fun h b => stepN h b.toNat) h
def fnv0 : Nat := 14695981039346656037

theorem stepN_lt (h c : Nat) : stepN h c < 18446744073709551616 := Nat.mod_lt _ (by decide)

theorem fnv_cons (h : Nat) (c : UInt8) (l : List UInt8) : fnv h (c :: l) = fnv (stepN h c.toNat) l := by simp only [fnv, List.foldl_cons]
theorem fnv_nil (h : Nat) : fnv h [] = h := by simp only [fnv, List.foldl_nil]

theorem fnv_lt (bs : List UInt8) (h : Nat) (hh : h < 18446744073709551616) : fnv h bs < 18446744073709551616 := by
  induction bs generalizing h with
  | nil => rw [fnv_nil]; exact hh
  | cons b l ih => rw [fnv_cons]; exact ih _ (stepN_lt _ _)

theorem fnv_append (a b : List UInt8) (h : Nat) : fnv h (a ++ b) = fnv (fnv h a) b := by
  simp [fnv, List.foldl_append]


theorem fnv_snoc (h : Nat) (c : UInt8) (l : List UInt8) : fnv h (l ++ [c]) = stepN (fnv h l) c.toNat := by
  rw [fnv_append, fnv_cons, fnv_nil]

/-- The prime is odd: it has an inverse. -/
theorem mul_inj {a b : Nat} (ha : a < 18446744073709551616) (hb : b < 18446744073709551616) (h : a * 1099511628211 % 18446744073709551616 = b * 1099511628211 % 18446744073709551616) : a = b := by
  have e : ∀ x, x < 18446744073709551616 → x * 1099511628211 % 18446744073709551616 * 14886173955864302971 % 18446744073709551616 = x := by
    intro x hx
    rw [Nat.mod_mul_mod, Nat.mul_assoc]
    have k : 1099511628211 * 14886173955864302971 = 18446744073709551616 * 887285111055 + 1 := by decide
    rw [k, Nat.mul_add, Nat.mul_one, ← Nat.mul_assoc, Nat.mul_comm x, Nat.mul_assoc, Nat.mul_add_mod, Nat.mod_eq_of_lt hx]
  rw [← e a ha, ← e b hb, h]

theorem xor_lt {a c : Nat} (ha : a < 18446744073709551616) (hc : c < 256) : a ^^^ c < 18446744073709551616 :=
  Nat.xor_lt_two_pow (n := 64) (by omega) (by omega)

theorem xor_cancel_right (a b c : Nat) (h : a ^^^ c = b ^^^ c) : a = b := by
  have := congrArg (· ^^^ c) h
  simpa [Nat.xor_assoc, Nat.xor_self] using this

theorem xor_cancel_left (a b c : Nat) (h : c ^^^ a = c ^^^ b) : a = b := by
  have := congrArg (c ^^^ ·) h
  simpa [← Nat.xor_assoc, Nat.xor_self] using this

theorem stepN_inj {a b c : Nat} (ha : a < 18446744073709551616) (hb : b < 18446744073709551616) (hc : c < 256) (h : stepN a c = stepN b c) : a = b :=
  xor_cancel_right a b c (mul_inj (xor_lt ha hc) (xor_lt hb hc) h)

theorem stepN_inj2 {a c d : Nat} (ha : a < 18446744073709551616) (hc : c < 256) (hd : d < 256) (h : stepN a c = stepN a d) : c = d :=
  xor_cancel_left c d a (mul_inj (xor_lt ha hc) (xor_lt ha hd) h)

theorem u8_lt (b : UInt8) : b.toNat < 256 := b.toNat_lt

theorem fnv_inj (l : List UInt8) {a b : Nat} (ha : a < 18446744073709551616) (hb : b < 18446744073709551616) : fnv a l = fnv b l ↔ a = b := by
  constructor
  · induction l generalizing a b with
    | nil => rw [fnv_nil, fnv_nil]; exact id
    | cons c l ih => rw [fnv_cons, fnv_cons]; exact fun h => stepN_inj ha hb (u8_lt c) (ih (stepN_lt _ _) (stepN_lt _ _) h)
  · rintro rfl; rfl

theorem fnv0_lt : fnv0 < 18446744073709551616 := by decide

/-- One byte changed: another digest. -/
theorem fnv_one (x y : List UInt8) {c d : UInt8} {h : Nat} (hh : h < 18446744073709551616) (hne : c ≠ d) : fnv h (x ++ c :: y) ≠ fnv h (x ++ d :: y) := by
  rw [fnv_append, fnv_append, fnv_cons, fnv_cons]
  intro e
  have e2 := (fnv_inj y (stepN_lt _ _) (stepN_lt _ _)).1 e
  exact hne (UInt8.toNat_inj.1 (stepN_inj2 (fnv_lt _ _ hh) (u8_lt c) (u8_lt d) e2))

/-- The same with one byte replaced at a place. -/
theorem fnv_set (l : List UInt8) (k : Nat) (hk : k < l.length) (d : UInt8) {h : Nat} (hh : h < 18446744073709551616) (hne : d ≠ l.getD k 0) : fnv h (l.set k d) ≠ fnv h l := by
  have e1 : l = l.take k ++ l.getD k 0 :: l.drop (k + 1) := by
    have := List.take_append_drop k l
    rw [List.drop_eq_getElem_cons hk] at this
    rw [show l.getD k 0 = l[k] by simp [List.getD, hk]]
    exact this.symm
  have e2 : l.set k d = l.take k ++ d :: l.drop (k + 1) := by rw [List.set_eq_take_append_cons_drop, if_pos hk]
  rw [e2]
  conv => rhs; rw [e1]
  exact fnv_one _ _ hh hne


/-- The bytes of a number of 64 bits, the most significant one first. -/
def byteAt (d k : Nat) : UInt8 := UInt8.ofNat (d / 2 ^ (8 * k))
def eight (d : Nat) : List UInt8 := [byteAt d 7, byteAt d 6, byteAt d 5, byteAt d 4, byteAt d 3, byteAt d 2, byteAt d 1, byteAt d 0]

theorem byteAt_toNat (d k : Nat) : (byteAt d k).toNat = d / 2 ^ (8 * k) % 256 := by simp [byteAt]

theorem eight_length (d : Nat) : (eight d).length = 8 := rfl
end Go.Proofs.Ytmfbnajaocaikaa
