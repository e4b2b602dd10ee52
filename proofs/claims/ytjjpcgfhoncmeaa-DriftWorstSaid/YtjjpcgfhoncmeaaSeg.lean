/- Layer 7: segments: what a list of them in memory is; what several of them add up to. -/
import Derived.Test.YtjjpcgfhoncmeaaRCo
namespace Go.Proofs.Ytjjpcgfhoncmeaa
open Go.RowKit Go
set_option linter.unusedVariables false
set_option linter.unusedSimpArgs false

/-- A segment: a count, and the ends of two ranges. -/
structure Sg where
  (c tl th al ah : Int)
instance : Inhabited Sg := ⟨⟨0, 0, 0, 0, 0⟩⟩
def Sg.nil : Sg := ⟨0, 0, 0, 0, 0⟩
def Sg.Int64 (s : Sg) : Prop := I64 s.c ∧ I64 s.tl ∧ I64 s.th ∧ I64 s.al ∧ I64 s.ah
/-- Its five cells, from q on. -/
def SgAt (w : World) (q : Addr) (s : Sg) : Prop :=
  w.cell? q = some (.int .i64 s.c) ∧ w.cell? ⟨q.block, q.off + 1, none⟩ = some (.int .i64 s.tl) ∧ w.cell? ⟨q.block, q.off + 2, none⟩ = some (.int .i64 s.th) ∧
    w.cell? ⟨q.block, q.off + 3, none⟩ = some (.int .i64 s.al) ∧ w.cell? ⟨q.block, q.off + 4, none⟩ = some (.int .i64 s.ah)
theorem SgAt.below {B : Nat} {w w' : World} {q : Addr} {s : Sg} (h : SgAt w q s) (hb : Below B w w') (hq : q.block < B) : SgAt w' q s :=
  ⟨(hb.cell hq).trans h.1, (hb.cell (p := ⟨q.block, q.off + 1, none⟩) hq).trans h.2.1, (hb.cell (p := ⟨q.block, q.off + 2, none⟩) hq).trans h.2.2.1,
    (hb.cell (p := ⟨q.block, q.off + 3, none⟩) hq).trans h.2.2.2.1, (hb.cell (p := ⟨q.block, q.off + 4, none⟩) hq).trans h.2.2.2.2⟩
/-- A slice holds these segments. -/
def RowS (B : Nat) (w : World) (A : Option Addr) (len : Nat) (l : List Sg) : Prop :=
  l.length = len ∧ (0 < len → ∃ p : Addr, A = some p ∧ p.block < B ∧ ∀ i, i < len → SgAt w (p.add (i * 5)) (l.getD i Sg.nil)) ∧ ∀ s ∈ l, s.Int64
theorem RowS.step {w w' : World} {A : Option Addr} {len : Nat} {l : List Sg} (h : RowS w.heap.size w A len l) (b : Below w.heap.size w w') : RowS w'.heap.size w' A len l :=
  ⟨h.1, fun hn => by
    obtain ⟨p, e, hp, hc⟩ := h.2.1 hn
    exact ⟨p, e, Nat.lt_of_lt_of_le hp b.size, fun i hi => (hc i hi).below b (by rw [block_of_add]; exact hp)⟩, h.2.2⟩
theorem RowS.at_ {B : Nat} {w : World} {A : Option Addr} {len : Nat} {l : List Sg} (h : RowS B w A len l) (k : Nat) (hk : k < len) :
    ∃ p, A = some p ∧ p.block < B ∧ SgAt w (p.add (k * 5)) (l.getD k Sg.nil) ∧ (l.getD k Sg.nil).Int64 := by
  obtain ⟨p, e, hp, hc⟩ := h.2.1 (by omega)
  have hz := h.1
  have hm : l.getD k Sg.nil ∈ l := by
    have : k < l.length := by omega
    simp [List.getD, this]
  exact ⟨p, e, hp, hc k hk, h.2.2 _ hm⟩

/-- The error of a segment, 0 if it has none; what it adds. -/
def segE (T : Tb) (s : Sg) : Int := if StretchOk s.c then (worstR T s.tl s.th s.al s.ah).2 else 1
def segLo (T : Tb) (s : Sg) : Int := elLo (worstR T s.tl s.th s.al s.ah).1 s.c
def segHi (T : Tb) (s : Sg) : Int := elHi (worstR T s.tl s.th s.al s.ah).1 s.c
/-- The first error; the sums. -/
def firstE (T : Tb) : List Sg → Int
  | [] => 0
  | s :: r => if segE T s = 0 then firstE T r else segE T s
def sumLo (T : Tb) : List Sg → Int
  | [] => 0
  | s :: r => segLo T s + sumLo T r
def sumHi (T : Tb) : List Sg → Int
  | [] => 0
  | s :: r => segHi T s + sumHi T r
def sevR (T : Tb) (l : List Sg) : Int × Int × Int :=
  if T.Ok then
    (if 64 < l.length then (0, 0, 2)
     else if firstE T l ≠ 0 then (0, 0, firstE T l)
     else if 3000000000000000 < sumHi T l then (0, 0, 3) else (sumLo T l, sumHi T l, 0))
  else (0, 0, 1)

theorem firstE_app (T : Tb) (a b : List Sg) : firstE T (a ++ b) = if firstE T a = 0 then firstE T b else firstE T a := by
  induction a with
  | nil => simp [firstE]
  | cons s r ih =>
    by_cases h : segE T s = 0
    · simp only [List.cons_append, firstE, if_pos h]; exact ih
    · simp only [List.cons_append, firstE, if_neg h]
theorem sumLo_app (T : Tb) (a b : List Sg) : sumLo T (a ++ b) = sumLo T a + sumLo T b := by
  induction a with
  | nil => simp [sumLo]
  | cons s r ih => simp only [List.cons_append, sumLo, ih]; omega
theorem sumHi_app (T : Tb) (a b : List Sg) : sumHi T (a ++ b) = sumHi T a + sumHi T b := by
  induction a with
  | nil => simp [sumHi]
  | cons s r ih => simp only [List.cons_append, sumHi, ih]; omega
/-- A worst rate is a rate bound. -/
theorem worst_bound (T : Tb) (tl th al ah : Int) : 0 ≤ (worstR T tl th al ah).1 ∧ (worstR T tl th al ah).1 ≤ 1000000 := by
  unfold worstR
  split
  · rename_i h
    obtain ⟨ho, h1, h2⟩ := h
    split
    · simp
    · rename_i h3
      refine ⟨maxTab_nonneg _ _ _ _ _, maxTab_le _ _ _ _ _ ?_⟩
      intro a j ha hj
      have c1 := cnt_le T.tm th
      have c2 := cnt_le T.ag ah
      have hm1 := cnt_mono ho.1 h1
      have hm2 := cnt_mono ho.2.1 h2
      exact (ho.rate (i := cnt T.tm tl - 1 + a) (k := cnt T.ag al - 1 + j) (by omega) (by omega)).2
  · simp
theorem worst_err (T : Tb) (tl th al ah : Int) : (worstR T tl th al ah).2 = 0 ∨ (worstR T tl th al ah).2 = 1 ∨ (worstR T tl th al ah).2 = 3 := by
  unfold worstR
  split
  · split <;> simp
  · simp
theorem seg_bound (T : Tb) (s : Sg) (h : StretchOk s.c) : 0 ≤ segLo T s ∧ segLo T s ≤ 2000000000000002 ∧ 0 ≤ segHi T s ∧ segHi T s ≤ 2000000000000002 := by
  have b := worst_bound T s.tl s.th s.al s.ah
  unfold segLo segHi
  obtain ⟨h1, h2⟩ := h
  have a1 := elLo_nonneg b.1 h1
  have a2 := elLo_up b.1 h1
  have a3 := elHi_nonneg b.1 b.2 h1
  have a4 := elHi_le b.1 b.2 h1
  omega
theorem seg_ok {T : Tb} {s : Sg} (h : segE T s = 0) : StretchOk s.c := by
  unfold segE at h
  split at h
  · assumption
  · omega
theorem sum_bound (T : Tb) : ∀ l : List Sg, firstE T l = 0 → 0 ≤ sumLo T l ∧ sumLo T l ≤ 2000000000000002 * l.length ∧ 0 ≤ sumHi T l ∧ sumHi T l ≤ 2000000000000002 * l.length := by
  intro l
  induction l with
  | nil => intro _; simp [sumLo, sumHi]
  | cons s r ih =>
    intro h
    by_cases q : segE T s = 0
    · simp only [firstE, if_pos q] at h
      have a := ih h
      have b := seg_bound T s (seg_ok q)
      simp only [sumLo, sumHi, List.length_cons]
      omega
    · simp only [firstE, if_neg q] at h
      exact absurd h q
end Go.Proofs.Ytjjpcgfhoncmeaa
