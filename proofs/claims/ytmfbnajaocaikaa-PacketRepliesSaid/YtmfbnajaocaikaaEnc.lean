/- Layer 4: the bytes of integers, lists and frames, and how they are read back; no program in it. -/
import Derived.Test.YtmfbnajaocaikaaNum
namespace Go.Proofs.Ytmfbnajaocaikaa
open Go
set_option linter.unusedVariables false

/-- The number of an integer; the integer of a number. -/
def num (x : Int) : Nat := if x < 0 then (-2 * x - 1).toNat else (2 * x).toNat
def unnum (n : Nat) : Int := if n % 2 = 1 then -((n / 2 : Nat) : Int) - 1 else ((n / 2 : Nat) : Int)
def InI (x : Int) : Prop := -9223372036854775808 ≤ x ∧ x ≤ 9223372036854775807

theorem num_lt {x : Int} (h : InI x) : num x < 18446744073709551616 := by
  obtain ⟨h1, h2⟩ := h
  unfold num; split <;> omega
theorem unnum_num {x : Int} (h : InI x) : unnum (num x) = x := by
  obtain ⟨h1, h2⟩ := h
  unfold num unnum
  by_cases hx : x < 0
  · rw [if_pos hx, if_pos (by omega)]; omega
  · rw [if_neg hx, if_neg (by omega)]; omega
theorem num_unnum (n : Nat) : num (unnum n) = n := by
  unfold num unnum
  by_cases hx : n % 2 = 1
  · rw [if_pos hx, if_pos (by omega)]; omega
  · rw [if_neg hx, if_neg (by omega)]; omega
theorem unnum_in {n : Nat} (h : n < 18446744073709551616) : InI (unnum n) := by
  unfold InI unnum; split <;> omega

/-- The digits of a number with the base 128, the least one first. -/
def digs (n : Nat) : List UInt8 := if h : n < 128 then [UInt8.ofNat n] else UInt8.ofNat (n % 128 + 128) :: digs (n / 128)
termination_by n
decreasing_by omega

theorem digs_small {n : Nat} (h : n < 128) : digs n = [UInt8.ofNat n] := by rw [digs, dif_pos h]
theorem digs_big {n : Nat} (h : ¬ n < 128) : digs n = UInt8.ofNat (n % 128 + 128) :: digs (n / 128) := by rw [digs, dif_neg h]

/-- How many digits there are at most: below 128 to the k-th, no more than k (and one). -/
theorem digs_pos (n : Nat) : 0 < (digs n).length := by
  rw [digs]; split <;> simp
theorem digs_le : ∀ (k n : Nat), n < 128 ^ (k + 1) → (digs n).length ≤ k + 1 := by
  intro k
  induction k with
  | zero => intro n h; rw [digs_small (by simpa using h)]; simp
  | succ k ih =>
    intro n h
    by_cases hn : n < 128
    · rw [digs_small hn]; simp
    · rw [digs_big hn]
      have := ih (n / 128) (Nat.div_lt_of_lt_mul (by rw [Nat.mul_comm]; exact h))
      simp; omega
theorem digs_mono : ∀ (n m : Nat), n ≤ m → (digs n).length ≤ (digs m).length := by
  intro n
  induction n using Nat.strongRecOn with
  | ind n ih =>
    intro m h
    by_cases hn : n < 128
    · rw [digs_small hn]; exact digs_pos m
    · have hm : ¬ m < 128 := by omega
      rw [digs_big hn, digs_big hm]
      have := ih (n / 128) (Nat.div_lt_self (by omega) (by omega)) (m / 128) (Nat.div_le_div_right h)
      simp only [List.length_cons]; omega

def intB (x : Int) : List UInt8 := digs (num x)
def listB (l : List Int) : List UInt8 := intB l.length ++ l.flatMap intB

theorem intB_len {x : Int} (h : InI x) : (intB x).length ≤ 10 := digs_le 9 _ (Nat.lt_of_lt_of_le (num_lt h) (by decide))
theorem intB_pos (x : Int) : 0 < (intB x).length := digs_pos _

/-- A number read from bytes, k digits of which are behind; what is left. -/
def readN : Nat → List UInt8 → Option (Nat × List UInt8)
  | _, [] => none
  | k, c :: r =>
    if k = 9 ∧ 1 < c.toNat then none
    else if 128 ≤ c.toNat then (readN (k + 1) r).map fun p => (c.toNat - 128 + 128 * p.1, p.2)
    else if c.toNat = 0 ∧ 0 < k then none
    else some (c.toNat, r)

theorem ofNat_toNat {n : Nat} (h : n < 256) : (UInt8.ofNat n).toNat = n := by simp; omega

theorem readN_digs : ∀ (n k : Nat) (r : List UInt8), k ≤ 9 → n < 2 ^ (64 - 7 * k) → (0 < k → 0 < n) → readN k (digs n ++ r) = some (n, r) := by
  intro n
  induction n using Nat.strongRecOn with
  | ind n ih =>
    intro k r hk hn h0
    by_cases hlt : n < 128
    · rw [digs_small hlt, List.singleton_append, readN, ofNat_toNat (by omega), if_neg ?_, if_neg (by omega), if_neg (by omega)]
      rintro ⟨rfl, h⟩
      have : n < 2 := by simpa using hn
      omega
    · have hk9 : k < 9 := by
        rcases Nat.lt_or_ge k 9 with h | h
        · exact h
        · obtain rfl : k = 9 := by omega
          have : n < 2 := by simpa using hn
          omega
      have hp : 2 ^ (64 - 7 * k) = 128 * 2 ^ (64 - 7 * (k + 1)) := by
        rw [show 64 - 7 * k = 7 + (64 - 7 * (k + 1)) by omega, Nat.pow_add]
      rw [digs_big hlt, List.cons_append, readN, ofNat_toNat (by omega), if_neg (by omega), if_pos (by omega),
        ih (n / 128) (by omega) (k + 1) r (by omega) (Nat.div_lt_of_lt_mul (by omega)) (by omega)]
      simp only [Option.map_some, Option.some.injEq, Prod.mk.injEq, and_true]
      omega

theorem readN_some : ∀ (b : List UInt8) (k n : Nat) (r : List UInt8), k ≤ 9 → readN k b = some (n, r) → b = digs n ++ r ∧ n < 2 ^ (64 - 7 * k) ∧ (0 < k → 0 < n) := by
  intro b
  induction b with
  | nil => intro k n r hk h; simp [readN] at h
  | cons c b ih =>
    intro k n r hk h
    have hc := u8_lt c
    rw [readN] at h
    by_cases h1 : k = 9 ∧ 1 < c.toNat
    · rw [if_pos h1] at h; cases h
    · rw [if_neg h1] at h
      by_cases h2 : 128 ≤ c.toNat
      · rw [if_pos h2] at h
        have hk9 : k < 9 := by omega
        cases hr : readN (k + 1) b with
        | none => rw [hr] at h; cases h
        | some p =>
          obtain ⟨m, s⟩ := p
          rw [hr] at h
          simp only [Option.map_some, Option.some.injEq, Prod.mk.injEq] at h
          obtain ⟨rfl, rfl⟩ := h
          obtain ⟨e, hm, h0⟩ := ih (k + 1) m s (by omega) hr
          have h0 := h0 (by omega)
          have hp : 2 ^ (64 - 7 * k) = 128 * 2 ^ (64 - 7 * (k + 1)) := by
            rw [show 64 - 7 * k = 7 + (64 - 7 * (k + 1)) by omega, Nat.pow_add]
          refine ⟨?_, by rw [hp]; omega, by omega⟩
          rw [digs_big (by omega), e, List.cons_append]
          congr 1
          · apply UInt8.toNat_inj.1
            rw [ofNat_toNat (by omega)]
            omega
          · congr 2
            omega
      · rw [if_neg h2] at h
        by_cases h3 : c.toNat = 0 ∧ 0 < k
        · rw [if_pos h3] at h; cases h
        · rw [if_neg h3] at h
          simp only [Option.some.injEq, Prod.mk.injEq] at h
          obtain ⟨rfl, rfl⟩ := h
          refine ⟨by rw [digs_small (by omega)]; simp, ?_, by omega⟩
          rcases Nat.lt_or_ge k 9 with h | h
          · exact Nat.lt_of_lt_of_le (show c.toNat < 2 ^ 7 by omega) (Nat.pow_le_pow_right (by omega) (by omega))
          · obtain rfl : k = 9 := by omega
            have : c.toNat < 2 := by omega
            simpa using this

/-- An integer; as many integers; a list with its length; a list that is all. -/
def readI (b : List UInt8) : Option (Int × List UInt8) := (readN 0 b).map fun p => (unnum p.1, p.2)
def readM : Nat → List UInt8 → Option (List Int × List UInt8)
  | 0, b => some ([], b)
  | n + 1, b => match readI b with
    | none => none
    | some (x, r) => match readM n r with
      | none => none
      | some (l, s) => some (x :: l, s)
def readL (b : List UInt8) : Option (List Int × List UInt8) :=
  match readI b with
  | none => none
  | some (c, r) => if c < 0 ∨ 1000 < c then none else readM c.toNat r
def getR (b : List UInt8) : Option (List Int) :=
  match readL b with
  | some (l, []) => some l
  | _ => none

theorem readI_int {x : Int} (h : InI x) (r : List UInt8) : readI (intB x ++ r) = some (x, r) := by
  rw [readI, intB, readN_digs _ 0 r (by omega) (Nat.lt_of_lt_of_le (num_lt h) (by decide)) (by omega)]
  simp [unnum_num h]
theorem readI_some {b r : List UInt8} {x : Int} (h : readI b = some (x, r)) : b = intB x ++ r ∧ InI x := by
  rw [readI] at h
  cases hr : readN 0 b with
  | none => rw [hr] at h; cases h
  | some p =>
    obtain ⟨n, s⟩ := p
    rw [hr] at h
    simp only [Option.map_some, Option.some.injEq, Prod.mk.injEq] at h
    obtain ⟨rfl, rfl⟩ := h
    obtain ⟨e, hn, _⟩ := readN_some b 0 n s (by omega) hr
    exact ⟨by rw [intB, num_unnum]; exact e, unnum_in (Nat.lt_of_lt_of_le hn (by decide))⟩

def AllI (l : List Int) : Prop := ∀ x ∈ l, InI x
theorem readM_list : ∀ (l : List Int) (r : List UInt8), AllI l → readM l.length (l.flatMap intB ++ r) = some (l, r) := by
  intro l
  induction l with
  | nil => intro r _; rfl
  | cons x l ih =>
    intro r h
    have hx := h x (by simp)
    rw [List.length_cons, readM, List.flatMap_cons, List.append_assoc, readI_int hx]
    simp only
    rw [ih r (fun y hy => h y (by simp [hy]))]
theorem readM_some : ∀ (n : Nat) (b r : List UInt8) (l : List Int), readM n b = some (l, r) → b = l.flatMap intB ++ r ∧ l.length = n ∧ AllI l := by
  intro n
  induction n with
  | zero =>
    intro b r l h
    simp only [readM, Option.some.injEq, Prod.mk.injEq] at h
    obtain ⟨rfl, rfl⟩ := h
    exact ⟨rfl, rfl, fun x hx => by simp at hx⟩
  | succ n ih =>
    intro b r l h
    rw [readM] at h
    cases hi : readI b with
    | none => rw [hi] at h; simp at h
    | some p =>
      obtain ⟨x, s⟩ := p
      rw [hi] at h
      simp only at h
      cases hm : readM n s with
      | none => rw [hm] at h; simp at h
      | some q =>
        obtain ⟨m, t⟩ := q
        rw [hm] at h
        simp only [Option.some.injEq, Prod.mk.injEq] at h
        obtain ⟨rfl, rfl⟩ := h
        obtain ⟨e1, h1⟩ := readI_some hi
        obtain ⟨e2, h2, h3⟩ := ih s t m hm
        refine ⟨by rw [e1, e2, List.flatMap_cons, List.append_assoc], by simp [h2], fun y hy => ?_⟩
        rcases List.mem_cons.1 hy with rfl | hy
        · exact h1
        · exact h3 y hy

theorem readL_list {l : List Int} (h : AllI l) (hl : l.length ≤ 1000) (r : List UInt8) : readL (listB l ++ r) = some (l, r) := by
  rw [readL, listB, List.append_assoc, readI_int ⟨by omega, by omega⟩]
  simp only
  rw [if_neg (by omega), Int.toNat_natCast, readM_list l r h]
theorem readL_some {b r : List UInt8} {l : List Int} (h : readL b = some (l, r)) : b = listB l ++ r ∧ l.length ≤ 1000 ∧ AllI l := by
  rw [readL] at h
  cases hi : readI b with
  | none => rw [hi] at h; simp at h
  | some p =>
    obtain ⟨c, s⟩ := p
    rw [hi] at h
    simp only at h
    by_cases hc : c < 0 ∨ 1000 < c
    · rw [if_pos hc] at h; cases h
    · rw [if_neg hc] at h
      obtain ⟨e1, _⟩ := readI_some hi
      obtain ⟨e2, h2, h3⟩ := readM_some _ _ _ _ h
      have hcl : c = (l.length : Int) := by omega
      refine ⟨?_, by omega, h3⟩
      rw [e1, e2, hcl, listB, List.append_assoc]

theorem getR_list {l : List Int} (h : AllI l) (hl : l.length ≤ 1000) : getR (listB l) = some l := by
  have := readL_list h hl []
  rw [List.append_nil] at this
  rw [getR, this]
theorem getR_some {b : List UInt8} {l : List Int} (h : getR b = some l) : b = listB l ∧ l.length ≤ 1000 ∧ AllI l := by
  rw [getR] at h
  cases hr : readL b with
  | none => rw [hr] at h; simp at h
  | some p =>
    obtain ⟨m, s⟩ := p
    rw [hr] at h
    cases s with
    | cons c s => simp at h
    | nil =>
      simp only [Option.some.injEq] at h
      subst h
      have := readL_some hr
      rwa [List.append_nil] at this

/-- The bytes of a list begin those of no other one. -/
theorem list_begins {l m : List Int} (hl : AllI l) (hl1 : l.length ≤ 1000) (hm : AllI m) (hm1 : m.length ≤ 1000) (r : List UInt8) (h : listB m = listB l ++ r) : l = m ∧ r = [] := by
  have h1 := readL_list hm hm1 []
  rw [List.append_nil, h, readL_list hl hl1] at h1
  simp only [Option.some.injEq, Prod.mk.injEq] at h1
  exact h1
theorem list_cut {l : List Int} (hl : AllI l) (hl1 : l.length ≤ 1000) (k : Nat) (hk : k < (listB l).length) : getR ((listB l).take k) = none := by
  cases h : getR ((listB l).take k) with
  | none => rfl
  | some m =>
    obtain ⟨e, h1, h2⟩ := getR_some h
    have := (list_begins h2 h1 hl hl1 ((listB l).drop k) (by rw [← e, List.take_append_drop])).2
    have := congrArg List.length this
    rw [List.length_drop] at this
    simp at this; omega

theorem flatMap_len : ∀ (l : List Int), AllI l → (l.flatMap intB).length ≤ 10 * l.length := by
  intro l
  induction l with
  | nil => simp
  | cons x l ih =>
    intro h
    have := ih (fun y hy => h y (by simp [hy]))
    have := intB_len (h x (by simp))
    simp only [List.flatMap_cons, List.length_append, List.length_cons]; omega
theorem listB_len {l : List Int} (h : AllI l) (hl : l.length ≤ 1000) : (listB l).length ≤ 2 + 10 * l.length := by
  have h1 := flatMap_len l h
  have h2 : (intB (l.length : Int)).length ≤ 2 := by
    refine digs_le 1 _ ?_
    unfold num; split <;> omega
  rw [listB, List.length_append]; omega
theorem listB_pos (l : List Int) : 0 < (listB l).length := by
  have := intB_pos (l.length : Int)
  rw [listB, List.length_append]; omega
end Go.Proofs.Ytmfbnajaocaikaa
