/- Layer 4: rows of new blocks, slices of what lies (gen/from_s04.py). -/
import Derived.IntWalk
import Derived.OwnWalk
import Derived.Test.YtmfbnajaocaikaaCSame
namespace Go.Proofs.Ytmfbnajaocaikaa
open Go.RowKit Go.Sort Go
set_option linter.unusedVariables false
set_option linter.unusedSimpArgs false

theorem row8_new (w : World) (bs : List UInt8) (n : Nat) (hn : n = bs.length) : Row8 (w.alloc (.cells (Lib.byteCells bs).toArray 5)).heap.size (w.alloc (.cells (Lib.byteCells bs).toArray 5)) (some ⟨w.heap.size, 0, none⟩) n bs := by
  subst hn
  refine ⟨rfl, fun _ => ⟨_, rfl, (by simp), fun i hi => ?_⟩⟩
  rw [Lib.add_plain, Nat.zero_add, cell_of_row _ w.heap.size i _ 5 (0, 0) (heap_alloc_new w _)]
  simp [Lib.byteCells, List.getD, hi]

theorem rowI_new (w : World) (zs : List Int) (n : Nat) (hn : n = zs.length) (hz : ∀ x ∈ zs, -9223372036854775808 ≤ x ∧ x ≤ 9223372036854775807) : RowI (w.alloc (.cells (intCells zs).toArray 3)).heap.size (w.alloc (.cells (intCells zs).toArray 3)) (some ⟨w.heap.size, 0, none⟩) n zs := by
  subst hn
  refine ⟨rfl, fun _ => ⟨_, rfl, (by simp), fun i hi => ?_⟩, hz⟩
  rw [Lib.add_plain, Nat.zero_add, cell_of_row _ w.heap.size i _ 3 (0, 0) (heap_alloc_new w _)]
  simp [intCells, List.getD, hi]

theorem own_new (w : World) (bs : List UInt8) (B : Nat) (hB : B ≤ w.heap.size) (hn : bs.length ≤ maxLen) : Own B (w.alloc (.cells (Lib.byteCells bs).toArray 5)) (.slice (some ⟨w.heap.size, 0, none⟩) bs.length bs.length) bs := by
  exact World.ownsRow_lit (base := B) (e := 5) (size := 1) w (Lib.byteCells bs).toArray bs.length hB hn (by simp [Lib.byteCells])

theorem getR_in {bs : List UInt8} {l : List Int} (h : getR bs = some l) : l.length ≤ 1000 ∧ ∀ x ∈ l, -9223372036854775808 ≤ x ∧ x ≤ 9223372036854775807 := (getR_some h).2

theorem RowV.take {B : Nat} {w : World} {A : Option Addr} {n k : Nat} {f : Nat → Value} (h : RowV B w A n f) (hk : k ≤ n) : RowV B w A k f := fun h0 => by
  obtain ⟨p, e, hp, hc⟩ := h (by omega)
  exact ⟨p, e, hp, fun i hi => hc i (by omega)⟩
theorem Row8.take {B : Nat} {w : World} {A : Option Addr} {n k : Nat} {bs : List UInt8} (h : Row8 B w A n bs) (hk : k ≤ n) : Row8 B w A k (bs.take k) := by
  refine ⟨by rw [List.length_take, h.1]; omega, fun h0 => ?_⟩
  obtain ⟨p, e, hp, hc⟩ := h.2 (by omega)
  refine ⟨p, e, hp, fun i hi => ?_⟩
  rw [hc i (by omega)]
  simp [List.getD, hi]
theorem RowI.take {B : Nat} {w : World} {A : Option Addr} {n k : Nat} {bs : List Int} (h : RowI B w A n bs) (hk : k ≤ n) : RowI B w A k (bs.take k) := by
  refine ⟨by rw [List.length_take, h.1]; omega, fun h0 => ?_, fun x hx => h.2.2 x (List.mem_of_mem_take hx)⟩
  obtain ⟨p, e, hp, hc⟩ := h.2.1 (by omega)
  refine ⟨p, e, hp, fun i hi => ?_⟩
  rw [hc i (by omega)]
  simp [List.getD, hi]
theorem one_u8 (W : World) (x : Int) : ∀ j u, ([Value.int .u8 x] : List Value)[j]? = some u → (W.alloc (.cells #[.int .u8 x] 5)).cell? ((⟨W.heap.size, 0, none⟩ : Addr).add j) = some u := by
  intro j u' hj
  match j, hj with
  | 0, hj => simp at hj; subst hj; simp [Addr.add]
  | j + 1, hj => simp at hj

theorem RowV.cut {B : Nat} {w : World} {p q : Addr} {n k at_ : Nat} {bs : List UInt8} (h : Row8 B w (some p) n bs) (hk : at_ + k ≤ n) (hq : q = p.add at_ ∨ k = 0) : Row8 B w (some q) k ((bs.drop at_).take k) := by
  have hl := h.1
  refine ⟨by simp; omega, fun h0 => ?_⟩
  obtain ⟨p', e, hb, hc⟩ := h.2 (by omega)
  injection e with e
  subst e
  rcases hq with rfl | hq
  · refine ⟨_, rfl, by rw [block_of_add]; exact hb, fun i hi => ?_⟩
    rw [Addr.add_add, hc (at_ + i) (by omega)]
    have e1 : ((bs.drop at_).take k).getD i 0 = bs.getD (at_ + i) 0 := by
      simp [List.getD, hi]
    simp only [e1]
  · omega

theorem readI_drop {bs r : List UInt8} {at_ : Nat} {x : Int} (h : readI (bs.drop at_) = some (x, r)) : r = bs.drop (bs.length - r.length) ∧ r.length ≤ bs.length ∧ InI x := by
  obtain ⟨e, hx⟩ := readI_some h
  have hs : r <:+ bs := by
    refine List.IsSuffix.trans ⟨intB x, e.symm⟩ (List.drop_suffix _ _)
  exact ⟨(List.suffix_iff_eq_drop.1 hs), hs.length_le, hx⟩

theorem readM_none {k : Nat} {b : List UInt8} (h : readI b = none) : readM (k + 1) b = none := by rw [readM, h]
theorem readM_step {k : Nat} {b r : List UInt8} {x : Int} (h : readI b = some (x, r)) : readM (k + 1) b = (readM k r).map fun p => (x :: p.1, p.2) := by
  rw [readM, h]
  simp only
  cases readM k r with
  | none => rfl
  | some p => rfl

theorem one_int (W : World) (x : Int) : ∀ j u, ([Value.int .i64 x] : List Value)[j]? = some u → (W.alloc (.cells #[.int .i64 x] 3)).cell? ((⟨W.heap.size, 0, none⟩ : Addr).add j) = some u := by
  intro j u' hj
  match j, hj with
  | 0, hj => simp at hj; subst hj; simp [Addr.add]
  | j + 1, hj => simp at hj

theorem drop_cons {α : Type} (bs : List α) (d : α) (k : Nat) (h : k < bs.length) : bs.drop k = bs.getD k d :: bs.drop (k + 1) := by
  rw [List.drop_eq_getElem_cons h]; simp [List.getD, h]

theorem digit_more {a d k : Nat} (hk : k ≤ 9) (ha : a < 128 ^ k) (hd : d < 128) (h9 : k = 9 → d ≤ 1) :
    bits .or .u64 (a : Int) ((d * 128 ^ k : Nat) : Int) = ((a + d * 128 ^ k : Nat) : Int) ∧ a + d * 128 ^ k < 18446744073709551616 ∧ d * 128 ^ k < 18446744073709551616 := by
  have e : 128 ^ k = 2 ^ (7 * k) := by rw [Nat.pow_mul]
  have hb : d * 128 ^ k + 128 ^ k ≤ 18446744073709551616 := by
    rcases Nat.lt_or_ge k 9 with h | h
    · have h1 : 128 ^ k ≤ 128 ^ 8 := Nat.pow_le_pow_right (by omega) (by omega)
      have h2 : d * 128 ^ k ≤ 127 * 128 ^ 8 := Nat.mul_le_mul (by omega) h1
      have h3 : (128 : Nat) ^ 8 = 72057594037927936 := by decide
      rw [h3] at h1 h2
      omega
    · obtain rfl : k = 9 := by omega
      have h3 : (128 : Nat) ^ 9 = 9223372036854775808 := by decide
      have := h9 rfl
      rw [h3]
      omega
  have h1 := Nat.shiftLeft_add_eq_or_of_lt (a := d) (i := 7 * k) (b := a) (by rw [← e]; exact ha)
  rw [Nat.shiftLeft_eq, ← e] at h1
  refine ⟨?_, by omega, by omega⟩
  rw [bits_or_u64_nat _ _ (by omega) (by omega), Nat.or_comm, ← h1, Nat.add_comm]
theorem read_none {bs : List UInt8} {k a n : Nat} {c : UInt8} {r b : List UInt8} (h : readN 0 b = (readN k (bs.drop n)).map fun p => (a + 128 ^ k * p.1, p.2)) (hd : bs.drop n = c :: r) (hc : (k = 9 ∧ 1 < c.toNat) ∨ (c.toNat = 0 ∧ 0 < k)) : readI b = none := by
  have : readN k (c :: r) = none := by
    rw [readN]
    split
    · rfl
    · rw [if_neg (by omega), if_pos (by omega)]
  rw [readI, h, hd, this]; rfl
theorem read_some {bs : List UInt8} {k a a2 n : Nat} {c : UInt8} {r b : List UInt8} (h : readN 0 b = (readN k (bs.drop n)).map fun p => (a + 128 ^ k * p.1, p.2)) (hd : bs.drop n = c :: r) (hc : c.toNat < 128 ∧ (k = 9 → c.toNat ≤ 1) ∧ (c.toNat = 0 → k = 0)) (e : a2 = a + 128 ^ k * c.toNat) : readI b = some (unnum a2, r) := by
  have : readN k (c :: r) = some (c.toNat, r) := by
    rw [readN, if_neg (by omega), if_neg (by omega), if_neg (by omega)]
  rw [readI, h, hd, this, e]; rfl
theorem read_more {bs : List UInt8} {k a a2 at_ : Nat} {c : UInt8} {b : List UInt8} (h : readN 0 b = (readN k (bs.drop (at_ + k))).map fun p => (a + 128 ^ k * p.1, p.2)) (hd : bs.drop (at_ + k) = c :: bs.drop (at_ + k + 1)) (hk : k ≠ 9) (hc : 128 ≤ c.toNat) (e : a2 = a + 128 ^ k * (c.toNat - 128)) :
    readN 0 b = (readN (k + 1) (bs.drop (at_ + (k + 1)))).map fun p => (a2 + 128 ^ (k + 1) * p.1, p.2) := by
  rw [h, hd, readN, if_neg (by omega), if_pos hc, Option.map_map]
  congr 1
  funext p
  simp only [Function.comp_apply, e, Nat.pow_succ, Nat.mul_add, Nat.mul_assoc, Nat.add_assoc]

def GetEnd (o : Option (List Int)) (w : World) (e : Ending) (w' : World) : Prop :=
  Below w.heap.size w w' ∧ match o with
    | some l => ∃ v, e = .returned (.tuple #[v, .int .i64 0]) ∧ OwnI w.heap.size w' v l
    | none => e = .returned (.tuple #[.slice none 0 0, .int .i64 7])

def PutEnd (l : List Int) (B : List UInt8) (w : World) (e : Ending) (w' : World) : Prop :=
  Below w.heap.size w w' ∧ ((l.length ≤ 1000 ∧ ∃ v, e = .returned (.tuple #[v, .int .i64 0]) ∧ Own w.heap.size w' v B) ∨ (1000 < l.length ∧ e = .returned (.tuple #[.slice none 0 0, .int .i64 2])))

theorem take_all (l : List Int) (k : Nat) (h : AllI l) : AllI (l.take k) := fun x hx => h x (List.mem_of_mem_take hx)
theorem put_step (l : List Int) (k : Nat) (h : k < l.length) : (l.take (k + 1)).flatMap intB = (l.take k).flatMap intB ++ intB (l.getD k 0) := by
  rw [take_snoc l 0 k h, List.flatMap_append]; simp
theorem Own.base {w : World} {B B' : Nat} {v : Value} {bs : List UInt8} (h : Own B w v bs) (hb : B' ≤ B) : Own B' w v bs := by
  refine ⟨h.1, ?_⟩
  rcases h.2 with h0 | ⟨g, cap, cur, e, hg, r⟩
  · exact .inl h0
  · exact .inr ⟨g, cap, cur, e, Nat.le_trans hb hg, r⟩

def Made (B : Nat) (bs : List UInt8) (w : World) (A : Option Addr) (n cap : Nat) (w' : World) : Prop :=
  n = bs.length ∧ n ≤ cap ∧ (A = none → cap = 0) ∧ Own B w' (.slice A n cap) bs ∧ Row8 w'.heap.size w' A n bs ∧ Below B w w'

theorem Own.made {B : Nat} {bs : List UInt8} {w w' : World} {v : Value} (h : Own B w' v bs) (b : Below B w w') : ∃ A n cap, v = .slice A n cap ∧ Made B bs w A n cap w' := by
  obtain ⟨A, n, cap, rfl, h1, h2, h3, h4⟩ := h.row
  exact ⟨A, n, cap, rfl, h4.1.symm, h1, h3, h, h4, b⟩

end Go.Proofs.Ytmfbnajaocaikaa
