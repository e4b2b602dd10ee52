/- Layer 4: frames: how one is read, and several one after the other; no program in it. -/
import Derived.Test.YtdambggcaimndaaEnc
namespace Go.Proofs.Ytdambggcaimndaa
open Go
set_option linter.unusedVariables false

def three (n : Nat) : List UInt8 := [byteAt n 2, byteAt n 1, byteAt n 0]
def headB (l : List Int) : List UInt8 := three (listB l).length ++ listB l
def frameB (l : List Int) : List UInt8 := headB l ++ eight (fnv fnv0 (headB l))

/-- The number of bytes, the most significant one first. -/
def valB (bs : List UInt8) : Nat := bs.foldl (fun a c => a * 256 + c.toNat) 0
theorem valB_snoc (bs : List UInt8) (c : UInt8) : valB (bs ++ [c]) = valB bs * 256 + c.toNat := by simp [valB]
theorem valB_lt : ∀ (k : Nat) (bs : List UInt8), bs.length = k → valB bs < 256 ^ k := by
  intro k
  induction k with
  | zero => intro bs h; rw [List.length_eq_zero_iff.1 h]; simp [valB]
  | succ k ih =>
    intro bs h
    have hne : bs ≠ [] := by intro e; subst e; simp at h
    have e := List.dropLast_concat_getLast hne
    have h1 := ih bs.dropLast (by simp [h])
    have h2 := u8_lt (bs.getLast hne)
    rw [← e, valB_snoc, Nat.pow_succ]
    omega

theorem valB_three (a b c : UInt8) : three (valB [a, b, c]) = [a, b, c] := by
  have ha := u8_lt a
  have hb := u8_lt b
  have hc := u8_lt c
  simp only [valB, List.foldl_cons, List.foldl_nil, three, List.cons.injEq, and_true]
  refine ⟨?_, ?_, ?_⟩ <;> apply UInt8.toNat_inj.1 <;> rw [byteAt_toNat] <;> omega
theorem three_val {n : Nat} (h : n < 16777216) : valB (three n) = n := by
  simp only [valB, List.foldl_cons, List.foldl_nil, three, byteAt_toNat]
  omega
theorem eight_val {n : Nat} (h : n < 18446744073709551616) : valB (eight n) = n := by
  simp only [valB, List.foldl_cons, List.foldl_nil, eight, byteAt_toNat]
  omega
theorem val_eight {bs : List UInt8} (h : bs.length = 8) : eight (valB bs) = bs := by
  match bs, h with
  | [a, b, c, d, e, f, g, i], _ =>
    have := u8_lt a; have := u8_lt b; have := u8_lt c; have := u8_lt d
    have := u8_lt e; have := u8_lt f; have := u8_lt g; have := u8_lt i
    simp only [valB, List.foldl_cons, List.foldl_nil, eight, List.cons.injEq, and_true]
    refine ⟨?_, ?_, ?_, ?_, ?_, ?_, ?_, ?_⟩ <;> apply UInt8.toNat_inj.1 <;> rw [byteAt_toNat] <;> omega
theorem val_eq_eight {bs : List UInt8} (h : bs.length = 8) {d : Nat} (hd : d < 18446744073709551616) : valB bs = d ↔ bs = eight d :=
  ⟨fun e => by rw [← e, val_eight h], fun e => by rw [e, eight_val hd]⟩

/-- The list of the frame with which bytes begin, and its length. -/
def nextR (b : List UInt8) : Option (List Int × Nat) :=
  if b.length < 3 then none
  else if b.length < valB (b.take 3) + 11 then none
  else if (b.drop (valB (b.take 3) + 3)).take 8 = eight (fnv fnv0 (b.take (valB (b.take 3) + 3))) then
    (getR ((b.take (valB (b.take 3) + 3)).drop 3)).map fun l => (l, valB (b.take 3) + 11)
  else none

def OkL (l : List Int) : Prop := l.length ≤ 1000 ∧ AllI l
theorem OkL.len {l : List Int} (h : OkL l) : (listB l).length ≤ 10002 := by
  have h1 := listB_len h.2 h.1
  have h2 := h.1
  omega
theorem headB_len (l : List Int) : (headB l).length = (listB l).length + 3 := by simp [headB, three]
theorem frameB_len (l : List Int) : (frameB l).length = (listB l).length + 11 := by rw [frameB, List.length_append, headB_len, eight_length]

theorem nextR_frame {l : List Int} (h : OkL l) (r : List UInt8) : nextR (frameB l ++ r) = some (l, (frameB l).length) := by
  have hlen := h.len
  have h3 : (frameB l ++ r).take 3 = three (listB l).length := by
    rw [frameB, headB, List.append_assoc, List.append_assoc]; rfl
  have hv : valB ((frameB l ++ r).take 3) = (listB l).length := by rw [h3, three_val (by omega)]
  have ht : (frameB l ++ r).take ((listB l).length + 3) = headB l := by
    rw [frameB, List.append_assoc, ← headB_len, List.take_left']
    rfl
  have hd : (frameB l ++ r).drop ((listB l).length + 3) = eight (fnv fnv0 (headB l)) ++ r := by
    rw [frameB, List.append_assoc, ← headB_len, List.drop_left']
    rfl
  have hg : (headB l).drop 3 = listB l := rfl
  have hfl := frameB_len l
  rw [nextR, if_neg (by rw [List.length_append]; omega), hv, if_neg (by rw [List.length_append]; omega), ht, hd, if_pos (List.take_left' (eight_length _)), hg, getR_list h.2 h.1, hfl]
  rfl

theorem three_take (b : List UInt8) (h : 3 ≤ b.length) : three (valB (b.take 3)) = b.take 3 := by
  match b, h with
  | x :: y :: z :: t, _ => exact valB_three x y z
theorem nextR_some {b : List UInt8} {l : List Int} {n : Nat} (h : nextR b = some (l, n)) : (∃ r, b = frameB l ++ r) ∧ n = (frameB l).length ∧ OkL l := by
  rw [nextR] at h
  by_cases h1 : b.length < 3
  · rw [if_pos h1] at h; cases h
  rw [if_neg h1] at h
  by_cases h2 : b.length < valB (b.take 3) + 11
  · rw [if_pos h2] at h; cases h
  rw [if_neg h2] at h
  by_cases h3 : (b.drop (valB (b.take 3) + 3)).take 8 = eight (fnv fnv0 (b.take (valB (b.take 3) + 3)))
  · rw [if_pos h3] at h
    cases hg : getR ((b.take (valB (b.take 3) + 3)).drop 3) with
    | none => rw [hg] at h; cases h
    | some m =>
      rw [hg] at h
      simp only [Option.map_some, Option.some.injEq, Prod.mk.injEq] at h
      obtain ⟨rfl, rfl⟩ := h
      obtain ⟨e, h4, h5⟩ := getR_some hg
      have hl : (listB m).length = valB (b.take 3) := by rw [← e]; simp; omega
      have hb3 : three (valB (b.take 3)) = b.take 3 := three_take b (by omega)
      have ht3 : (b.take (valB (b.take 3) + 3)).take 3 = b.take 3 := by rw [List.take_take, Nat.min_eq_left (by omega)]
      have hh : headB m = b.take (valB (b.take 3) + 3) := by
        rw [headB, hl, hb3, ← e]
        conv => rhs; rw [← List.take_append_drop 3 (b.take (valB (b.take 3) + 3)), ht3]
      refine ⟨⟨b.drop (valB (b.take 3) + 11), ?_⟩, by rw [frameB_len, hl], h4, h5⟩
      rw [frameB, hh, ← h3]
      rw [List.append_assoc]
      have : (b.drop (valB (b.take 3) + 3)).take 8 ++ b.drop (valB (b.take 3) + 11) = b.drop (valB (b.take 3) + 3) := by
        conv => rhs; rw [← List.take_append_drop 8 (b.drop (valB (b.take 3) + 3)), List.drop_drop]
      rw [this, List.take_append_drop]
  · rw [if_neg h3] at h; cases h

theorem nextR_cut {l : List Int} (h : OkL l) (r : List UInt8) (k : Nat) (hk : k < (frameB l).length) : nextR ((frameB l ++ r).take k) = none := by
  cases hn : nextR ((frameB l ++ r).take k) with
  | none => rfl
  | some p =>
    obtain ⟨m, n⟩ := p
    obtain ⟨⟨s, e⟩, hlen, hm⟩ := nextR_some hn
    have e2 : frameB l ++ r = frameB m ++ (s ++ (frameB l ++ r).drop k) := by
      rw [← List.append_assoc, ← e, List.take_append_drop]
    have h1 := nextR_frame h r
    rw [e2, nextR_frame hm] at h1
    simp only [Option.some.injEq, Prod.mk.injEq] at h1
    have := congrArg List.length e
    rw [List.length_append, List.length_take] at this
    omega

def framesB (ls : List (List Int)) : List UInt8 := ls.flatMap frameB
def AllOk (ls : List (List Int)) : Prop := ∀ l ∈ ls, OkL l
theorem framesB_cons (l : List Int) (ls : List (List Int)) : framesB (l :: ls) = frameB l ++ framesB ls := by simp [framesB]
theorem framesB_append (a b : List (List Int)) : framesB (a ++ b) = framesB a ++ framesB b := by simp [framesB]
theorem framesB_snoc (a : List (List Int)) (l : List Int) : framesB (a ++ [l]) = framesB a ++ frameB l := by simp [framesB]
theorem framesB_nil : framesB [] = [] := rfl

/-- These lists are told of bytes, and that their frames have so many bytes. -/
def Told (b : List UInt8) (ls : List (List Int)) (n : Nat) : Prop := (∃ r, b = framesB ls ++ r ∧ nextR r = none) ∧ n = (framesB ls).length ∧ AllOk ls

theorem Told.unique : ∀ {ls ms : List (List Int)} {b : List UInt8} {n m : Nat}, Told b ls n → Told b ms m → ls = ms ∧ n = m := by
  intro ls
  induction ls with
  | nil =>
    intro ms b n m h k
    cases ms with
    | nil => exact ⟨rfl, by rw [h.2.1, k.2.1]⟩
    | cons l ms =>
      obtain ⟨⟨r, e, hr⟩, _, _⟩ := h
      obtain ⟨⟨s, e2, _⟩, _, ko⟩ := k
      rw [framesB_nil, List.nil_append] at e
      subst e
      rw [e2, framesB_cons, List.append_assoc, nextR_frame (ko l (by simp))] at hr
      cases hr
  | cons l ls ih =>
    intro ms b n m h k
    obtain ⟨⟨r, e, hr⟩, hn, ho⟩ := h
    obtain ⟨⟨s, e2, hs⟩, km, ko⟩ := k
    cases ms with
    | nil =>
      rw [framesB_nil, List.nil_append] at e2
      subst e2
      rw [e, framesB_cons, List.append_assoc, nextR_frame (ho l (by simp))] at hs
      cases hs
    | cons p ms =>
      rw [framesB_cons, List.append_assoc] at e e2
      have h1 := nextR_frame (ho l (by simp)) (framesB ls ++ r)
      rw [← e, e2, nextR_frame (ko p (by simp))] at h1
      simp only [Option.some.injEq, Prod.mk.injEq] at h1
      obtain ⟨rfl, _⟩ := h1
      rw [e] at e2
      have e3 := List.append_cancel_left e2
      obtain ⟨h2, h3⟩ := ih (b := framesB ls ++ r) (n := (framesB ls).length) (m := (framesB ms).length) (ms := ms) ⟨⟨r, rfl, hr⟩, rfl, fun x hx => ho x (by simp [hx])⟩ ⟨⟨s, e3, hs⟩, rfl, fun x hx => ko x (by simp [hx])⟩
      subst h2
      exact ⟨rfl, by rw [hn, km]⟩

theorem Told.behind {ls ps : List (List Int)} {b : List UInt8} {q : Nat} (ho : AllOk ls) (h : Told b ps q) : Told (framesB ls ++ b) (ls ++ ps) ((framesB ls).length + q) := by
  obtain ⟨⟨r, e, hr⟩, hq, hp⟩ := h
  refine ⟨⟨r, by rw [e, framesB_append, List.append_assoc], hr⟩, by rw [hq, framesB_append, List.length_append], fun x hx => ?_⟩
  rcases List.mem_append.1 hx with hx | hx
  · exact ho x hx
  · exact hp x hx
theorem nextR_nil : nextR [] = none := rfl
theorem Told.alone {ls : List (List Int)} (ho : AllOk ls) : Told (framesB ls) ls (framesB ls).length :=
  ⟨⟨[], (List.append_nil _).symm, nextR_nil⟩, rfl, ho⟩

/-- Frames that are cut: those are told that are whole. -/
theorem Told.cut {ls ms : List (List Int)} {k : Nat} (ho : AllOk (ls ++ ms)) (h1 : (framesB ls).length ≤ k) (h2 : ∀ m r, ms = m :: r → k < (framesB ls).length + (frameB m).length) (hk : k ≤ (framesB (ls ++ ms)).length) :
    Told ((framesB (ls ++ ms)).take k) ls (framesB ls).length := by
  refine ⟨⟨(framesB ms).take (k - (framesB ls).length), ?_, ?_⟩, rfl, fun x hx => ho x (by simp [hx])⟩
  · rw [framesB_append, List.take_append, List.take_of_length_le h1]
  · cases ms with
    | nil => simp [framesB, nextR_nil]
    | cons m r =>
      rw [framesB_cons]
      exact nextR_cut (ho m (by simp)) _ _ (by have := h2 m r rfl; omega)
end Go.Proofs.Ytdambggcaimndaa
