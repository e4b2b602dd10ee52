/- Layer 7: tables: what a list, a list of lists and a table in memory are; what it is to be well-formed. -/
import Derived.Lib.Hide
import Derived.Deep.QuietTactic
import Derived.BigQuiet
import Derived.OneCell
import Derived.Outline
import Derived.Laws.Rows
import Derived.Test.YtjjpcgfhoncmeaaSRef
import Derived.Test.YtjjpcgfhoncmeaaDrf
namespace Go.Proofs.Ytjjpcgfhoncmeaa
open Go.RowKit Go
set_option linter.unusedVariables false
set_option linter.unusedSimpArgs false

theorem block_of_add (a : Addr) (n : Nat) : (a.add n).block = a.block := by unfold Addr.add; split <;> rfl
theorem below_more {w W W' : World} (h : Below w.heap.size w W) (b : Below W.heap.size W W') : Below w.heap.size w W' := h.trans (b.mono h.size)
theorem below_alloc (w : World) (o : Obj) : Below w.heap.size w (w.alloc o) := (Below.refl _ _).alloc (Nat.le_refl _) _

/-- The same world but for what was drawn. -/
def Drew (w w' : World) : Prop := ∃ q, w' = w.drewN q
theorem Drew.refl (w : World) : Drew w w := ⟨0, rfl⟩
theorem Drew.trans {a b c : World} (h : Drew a b) (k : Drew b c) : Drew a c := by
  obtain ⟨q, rfl⟩ := h
  obtain ⟨r, rfl⟩ := k
  exact ⟨q + r, World.drewN_drewN _ _ _⟩
theorem Drew.n (w : World) (q : Nat) : Drew w (w.drewN q) := ⟨q, rfl⟩
theorem Drew.one (w : World) : Drew w w.drew := ⟨1, rfl⟩
theorem Drew.below {w w' : World} (h : Drew w w') (B : Nat) : Below B w w' := by
  obtain ⟨q, rfl⟩ := h
  exact ⟨rfl, rfl, rfl, Nat.le_refl _, fun _ _ => rfl⟩
theorem Drew.cell {w w' : World} (h : Drew w w') {p : Addr} {v : Value} (c : w.cell? p = some v) : w'.cell? p = some v := by
  obtain ⟨q, rfl⟩ := h; exact c
theorem Drew.size {w w' : World} (h : Drew w w') : w'.heap.size = w.heap.size := by
  obtain ⟨q, rfl⟩ := h; rfl

theorem Drew.lt {w w' : World} (h : Drew w w') {g : Nat} (l : g < w.heap.size) : g < w'.heap.size := by rw [h.size]; exact l

def RowV (B : Nat) (w : World) (A : Option Addr) (len : Nat) (f : Nat → Value) : Prop :=
  0 < len → ∃ p : Addr, A = some p ∧ p.block < B ∧ ∀ i, i < len → w.cell? (p.add i) = some (f i)
def RowI (B : Nat) (w : World) (A : Option Addr) (len : Nat) (zs : List Int) : Prop :=
  zs.length = len ∧ RowV B w A len (fun i => .int .i64 (zs.getD i 0)) ∧ ∀ x ∈ zs, -9223372036854775808 ≤ x ∧ x ≤ 9223372036854775807
def RowL (B : Nat) (w : World) (A : Option Addr) (len : Nat) (ls : List (List Int)) : Prop :=
  ls.length = len ∧ ∃ f : Nat → Value, RowV B w A len f ∧ ∀ i, i < len → ∃ a n c, f i = .slice a n c ∧ n ≤ 9223372036854775807 ∧ RowI B w a n (ls.getD i [])

theorem RowV.below {B : Nat} {w w' : World} {A : Option Addr} {len : Nat} {f : Nat → Value} (h : RowV B w A len f) (hb : Below B w w') : RowV B w' A len f :=
  fun hn => by
    obtain ⟨p, e, hp, hc⟩ := h hn
    exact ⟨p, e, hp, fun i hi => (hb.cell (by rw [block_of_add]; exact hp)).trans (hc i hi)⟩
theorem RowV.more {B B' : Nat} {w : World} {A : Option Addr} {len : Nat} {f : Nat → Value} (h : RowV B w A len f) (hb : B ≤ B') : RowV B' w A len f :=
  fun hn => by
    obtain ⟨p, e, hp, hc⟩ := h hn
    exact ⟨p, e, by omega, hc⟩
theorem RowI.step {w w' : World} {A : Option Addr} {len : Nat} {zs : List Int} (h : RowI w.heap.size w A len zs) (b : Below w.heap.size w w') : RowI w'.heap.size w' A len zs :=
  ⟨h.1, (h.2.1.below b).more b.size, h.2.2⟩
theorem RowL.step {w w' : World} {A : Option Addr} {len : Nat} {ls : List (List Int)} (h : RowL w.heap.size w A len ls) (b : Below w.heap.size w w') : RowL w'.heap.size w' A len ls := by
  obtain ⟨h1, f, h2, h3⟩ := h
  refine ⟨h1, f, (h2.below b).more b.size, fun i hi => ?_⟩
  obtain ⟨a, n, c, e, hn, hr⟩ := h3 i hi
  exact ⟨a, n, c, e, hn, hr.step b⟩
theorem RowI.at_ {B : Nat} {w : World} {A : Option Addr} {len : Nat} {zs : List Int} (h : RowI B w A len zs) (k : Nat) (hk : k < len) :
    ∃ p, A = some p ∧ w.cell? (p.add k) = some (.int .i64 (zs.getD k 0)) ∧ -9223372036854775808 ≤ zs.getD k 0 ∧ zs.getD k 0 ≤ 9223372036854775807 := by
  obtain ⟨p, e, _, hc⟩ := h.2.1 (by omega)
  have hz := h.1
  have hm : zs.getD k 0 ∈ zs := by
    have : k < zs.length := by omega
    simp [List.getD, this]
  exact ⟨p, e, hc k hk, h.2.2 _ hm⟩
theorem RowL.at_ {B : Nat} {w : World} {A : Option Addr} {n : Nat} {ls : List (List Int)} (h : RowL B w A n ls) (k : Nat) (hk : k < n) :
    ∃ p a m c, A = some p ∧ w.cell? (p.add k) = some (.slice a m c) ∧ m ≤ 9223372036854775807 ∧ RowI B w a m (ls.getD k []) := by
  obtain ⟨h1, f, h2, h3⟩ := h
  obtain ⟨p, e, hp, hc⟩ := h2 (by omega)
  obtain ⟨a, m, c, hf, hm, hr⟩ := h3 k hk
  exact ⟨p, a, m, c, e, by rw [hc k hk, hf], hm, hr⟩

/-- A list of 1 to 8 integers from -1000000 to 1000000 that rise strictly. -/
def StepOk (l : List Int) (i : Nat) : Prop := -1000000 ≤ l.getD i 0 ∧ l.getD i 0 ≤ 1000000 ∧ (0 < i → l.getD (i - 1) 0 < l.getD i 0)
def RisesL (l : List Int) : Prop := (∀ i, i < l.length → StepOk l i) ∧ 1 ≤ l.length ∧ l.length ≤ 8
/-- A row of rate bounds; a table. -/
def RowOk (n : Nat) (l : List Int) : Prop := l.length = n ∧ ∀ k, k < n → 0 ≤ l.getD k 0 ∧ l.getD k 0 ≤ 1000000
def ValidT (tm ag : List Int) (rt : List (List Int)) : Prop := RisesL tm ∧ RisesL ag ∧ rt.length = tm.length ∧ ∀ i, i < rt.length → RowOk ag.length (rt.getD i [])

/-- Lists that rise: less of two is where the index is less. -/
theorem RisesL.lt {l : List Int} (h : RisesL l) : ∀ j i, i < j → j < l.length → l.getD i 0 < l.getD j 0 := by
  intro j
  induction j with
  | zero => intro i h1; omega
  | succ j ih =>
    intro i h1 h2
    have s := (h.1 (j + 1) h2).2.2 (by omega)
    rw [Nat.add_sub_cancel] at s
    by_cases q : i = j
    · subst q; exact s
    · have := ih i (by omega) (by omega)
      omega

/-- How many, from the first one on, are not above n. -/
def cnt : List Int → Int → Nat
  | [], _ => 0
  | x :: r, n => if x ≤ n then cnt r n + 1 else 0
theorem cnt_le (l : List Int) (n : Int) : cnt l n ≤ l.length := by
  induction l with
  | nil => simp [cnt]
  | cons x r ih => unfold cnt; split <;> simp <;> omega
theorem cnt_in (l : List Int) (n : Int) : ∀ i, i < cnt l n → l.getD i 0 ≤ n := by
  induction l with
  | nil => intro i h; simp [cnt] at h
  | cons x r ih =>
    intro i h
    unfold cnt at h
    split at h
    · cases i with
      | zero => simpa using ‹x ≤ n›
      | succ i => simpa using ih i (by omega)
    · omega
theorem cnt_out (l : List Int) (n : Int) : cnt l n < l.length → n < l.getD (cnt l n) 0 := by
  induction l with
  | nil => intro h; simp [cnt] at h
  | cons x r ih =>
    intro h
    unfold cnt at h ⊢
    split
    · rename_i q
      rw [if_pos q] at h
      simpa using ih (by simpa using h)
    · simp; omega
theorem cnt_iff {l : List Int} (h : RisesL l) (n : Int) (i : Nat) (hi : i < l.length) : l.getD i 0 ≤ n ↔ i < cnt l n := by
  constructor
  · intro q
    rcases Nat.lt_or_ge i (cnt l n) with r | r
    · exact r
    · exfalso
      have o := cnt_out l n (by omega)
      by_cases e : i = cnt l n
      · subst e; omega
      · have := h.lt i (cnt l n) (by omega) hi
        omega
  · exact cnt_in l n i
theorem cnt_mono {l : List Int} (h : RisesL l) {m n : Int} (hmn : m ≤ n) : cnt l m ≤ cnt l n := by
  rcases Nat.lt_or_ge (cnt l n) (cnt l m) with q | q
  · exfalso
    have a := cnt_in l m (cnt l n) q
    have b := cnt_le l m
    have c := cnt_out l n (by omega)
    omega
  · exact q
end Go.Proofs.Ytjjpcgfhoncmeaa
