/- What every layer's texts want (wip/lib): worlds, blocks of two and three cells, integers of so many bits. No program in it. -/
import Derived.WalkKit
import Derived.OpenShut
import Derived.Below
import Derived.Lib.Hide
import Derived.Lib.MinMax
import Derived.Deep.QuietTactic
import Derived.BigQuiet
import Derived.OneCell
import Derived.Outline
import Derived.OwnWalk
import Derived.Laws.Rows
import Derived.Laws.ResultCell
import Derived.Test.YtmfbnajaocaikaaRows
namespace Go.Proofs.Ytmfbnajaocaikaa
open Go.RowKit Go
set_option linter.unusedVariables false
set_option linter.unusedSimpArgs false

/-- Returned v; nothing that was there is changed. -/
def Gives (v : Value) (w : World) (e : Ending) (w' : World) : Prop := e = .returned v ∧ Below w.heap.size w w'
theorem below_draws {B : Nat} {a w : World} (h : Below B a w) (n : Nat) : Below B a (w.drewN n) := h.trans ⟨rfl, rfl, rfl, Nat.le_refl _, fun _ _ => rfl⟩
theorem block_of_add (a : Addr) (n : Nat) : (a.add n).block = a.block := by unfold Addr.add; split <;> rfl
theorem below_more {w W W' : World} (h : Below w.heap.size w W) (b : Below W.heap.size W W') : Below w.heap.size w W' := h.trans (b.mono h.size)
theorem below_alloc (w : World) (o : Obj) : Below w.heap.size w (w.alloc o) := (Below.refl _ _).alloc (Nat.le_refl _) _

/-- The same world but for what was drawn. -/
def Drew (w w' : World) : Prop := ∃ q, w' = w.drewN q
theorem Drew.refl (w : World) : Drew w w := ⟨0, rfl⟩
theorem Drew.trans {a b c : World} (h : Drew a b) (k : Drew b c) : Drew a c := by
  obtain ⟨q, rfl⟩ := h
  obtain ⟨r, rfl⟩ := k
  exact ⟨q + r, World.drewN_drewN _ _ _⟩
theorem Drew.n (w : World) (q : Nat) : Drew w (w.drewN q) := ⟨q, rfl⟩
theorem Drew.one (w : World) : Drew w w.drew := ⟨1, rfl⟩
theorem Drew.below {w w' : World} (h : Drew w w') (B : Nat) : Below B w w' := by
  obtain ⟨q, rfl⟩ := h
  exact ⟨rfl, rfl, rfl, Nat.le_refl _, fun _ _ => rfl⟩
theorem Drew.cell {w w' : World} (h : Drew w w') {p : Addr} {v : Value} (c : w.cell? p = some v) : w'.cell? p = some v := by
  obtain ⟨q, rfl⟩ := h; exact c
theorem Drew.size {w w' : World} (h : Drew w w') : w'.heap.size = w.heap.size := by
  obtain ⟨q, rfl⟩ := h; rfl

theorem Drew.lt {w w' : World} (h : Drew w w') {g : Nat} (l : g < w.heap.size) : g < w'.heap.size := by rw [h.size]; exact l

/-- Block g holds just three cells. -/
def Three (w : World) (g : Nat) (t : TypeId) (u v x : Value) : Prop := w.heap[g]? = some (.cells #[u, v, x] t (0, 0))
section
variable {w : World} {g : Nat} {t : TypeId} {u v x : Value}
theorem Three.lt (h : Three w g t u v x) : g < w.heap.size := by
  rcases Nat.lt_or_ge g w.heap.size with hl | hl
  · exact hl
  · unfold Three at h; rw [Array.getElem?_eq_none hl] at h; cases h
theorem Three.c0 (h : Three w g t u v x) : w.cell? ⟨g, 0, none⟩ = some u := cell_of_row w g 0 _ t (0, 0) h
theorem Three.c1 (h : Three w g t u v x) : w.cell? ⟨g, 1, none⟩ = some v := cell_of_row w g 1 _ t (0, 0) h
theorem Three.c2 (h : Three w g t u v x) : w.cell? ⟨g, 2, none⟩ = some x := cell_of_row w g 2 _ t (0, 0) h
theorem Three.new (w : World) (t : TypeId) (u v x : Value) : Three (w.alloc (.cells #[u, v, x] t)) w.heap.size t u v x := heap_alloc_new w _
theorem Three.below {B : Nat} {w' : World} (h : Three w g t u v x) (hb : Below B w w') (hg : g < B) : Three w' g t u v x := (hb.block g hg).trans h
theorem Three.drew {w' : World} (h : Three w g t u v x) (hb : Drew w w') : Three w' g t u v x := h.below (hb.below w.heap.size) h.lt
end

/-- Two cells, of a range. -/
def Two (w : World) (g : Nat) (t : TypeId) (u v : Value) : Prop := w.heap[g]? = some (.cells #[u, v] t (0, 0))
section
variable {w : World} {g : Nat} {t : TypeId} {u v : Value}
theorem Two.lt (h : Two w g t u v) : g < w.heap.size := by
  rcases Nat.lt_or_ge g w.heap.size with hl | hl
  · exact hl
  · unfold Two at h; rw [Array.getElem?_eq_none hl] at h; cases h
theorem Two.c0 (h : Two w g t u v) : w.cell? ⟨g, 0, none⟩ = some u := cell_of_row w g 0 _ t (0, 0) h
theorem Two.c1 (h : Two w g t u v) : w.cell? ⟨g, 1, none⟩ = some v := cell_of_row w g 1 _ t (0, 0) h
theorem Two.free (h : Two w g t u v) (i : Nat) : w.frozen? ⟨g, i, none⟩ = false := by
  unfold Two at h
  simp [World.frozen?, h]
theorem Two.new (w : World) (t : TypeId) (u v : Value) : Two (w.alloc (.cells #[u, v] t)) w.heap.size t u v := heap_alloc_new w _
theorem Two.below {B : Nat} {w' : World} (h : Two w g t u v) (hb : Below B w w') (hg : g < B) : Two w' g t u v := (hb.block g hg).trans h
theorem Two.alloc (h : Two w g t u v) (o : Obj) : Two (w.alloc o) g t u v := h.below (below_alloc w o) h.lt
theorem Three.alloc {x : Value} (h : Three w g t u v x) (o : Obj) : Three (w.alloc o) g t u v x := h.below (below_alloc w o) h.lt
end

section
variable {w : World} {g : Nat} {t : TypeId} {u v : Value}
theorem Two.set0 (h : Two w g t u v) (x : Value) : Two (w.setCell ⟨g, 0, none⟩ x) g t x v := by
  unfold Two at h ⊢
  simp [World.setCell, Array.getElem?_modify, h]
theorem Two.set1 (h : Two w g t u v) (x : Value) : Two (w.setCell ⟨g, 1, none⟩ x) g t u x := by
  unfold Two at h ⊢
  simp [World.setCell, Array.getElem?_modify, h]
end

theorem Two.other {w : World} {g : Nat} {t : TypeId} {u v : Value} (h : Two w g t u v) {p : Addr} (hne : g ≠ p.block) (x : Value) : Two (w.setCell p x) g t u v := by
  have e := Below.heap_setCell w p x g hne
  unfold Two at h ⊢
  rw [e]; exact h

/-- An integer of 64 bits. -/
def I64 (x : Int) : Prop := -9223372036854775808 ≤ x ∧ x ≤ 9223372036854775807
theorem Three.free {w : World} {g : Nat} {t : TypeId} {u v x : Value} (h : Three w g t u v x) (i : Nat) : w.frozen? ⟨g, i, none⟩ = false := by
  unfold Three at h
  simp [World.frozen?, h]
section
variable {w : World} {g : Nat} {t : TypeId} {u v x : Value}
theorem Three.set0 (h : Three w g t u v x) (z : Value) : Three (w.setCell ⟨g, 0, none⟩ z) g t z v x := by
  unfold Three at h ⊢
  simp [World.setCell, Array.getElem?_modify, h]
theorem Three.set1 (h : Three w g t u v x) (z : Value) : Three (w.setCell ⟨g, 1, none⟩ z) g t u z x := by
  unfold Three at h ⊢
  simp [World.setCell, Array.getElem?_modify, h]
theorem Three.set2 (h : Three w g t u v x) (z : Value) : Three (w.setCell ⟨g, 2, none⟩ z) g t u v z := by
  unfold Three at h ⊢
  simp [World.setCell, Array.getElem?_modify, h]
end

theorem Three.other {w : World} {g : Nat} {t : TypeId} {u v x : Value} (h : Three w g t u v x) {p : Addr} (hne : g ≠ p.block) (z : Value) : Three (w.setCell p z) g t u v x := by
  have e := Below.heap_setCell w p z g hne
  unfold Three at h ⊢
  rw [e]; exact h

/-- Block g holds just four cells. -/
def Four (w : World) (g : Nat) (t : TypeId) (u0 u1 u2 u3 : Value) : Prop := w.heap[g]? = some (.cells #[u0, u1, u2, u3] t (0, 0))
section
variable {w : World} {g : Nat} {t : TypeId} {u0 u1 u2 u3 : Value}
theorem Four.lt (h : Four w g t u0 u1 u2 u3) : g < w.heap.size := by
  rcases Nat.lt_or_ge g w.heap.size with hl | hl
  · exact hl
  · unfold Four at h; rw [Array.getElem?_eq_none hl] at h; cases h
theorem Four.c0 (h : Four w g t u0 u1 u2 u3) : w.cell? ⟨g, 0, none⟩ = some u0 := cell_of_row w g 0 _ t (0, 0) h
theorem Four.c1 (h : Four w g t u0 u1 u2 u3) : w.cell? ⟨g, 1, none⟩ = some u1 := cell_of_row w g 1 _ t (0, 0) h
theorem Four.c2 (h : Four w g t u0 u1 u2 u3) : w.cell? ⟨g, 2, none⟩ = some u2 := cell_of_row w g 2 _ t (0, 0) h
theorem Four.c3 (h : Four w g t u0 u1 u2 u3) : w.cell? ⟨g, 3, none⟩ = some u3 := cell_of_row w g 3 _ t (0, 0) h
theorem Four.free (h : Four w g t u0 u1 u2 u3) (i : Nat) : w.frozen? ⟨g, i, none⟩ = false := by
  unfold Four at h
  simp [World.frozen?, h]
theorem Four.new (w : World) (t : TypeId) (u0 u1 u2 u3 : Value) : Four (w.alloc (.cells #[u0, u1, u2, u3] t)) w.heap.size t u0 u1 u2 u3 := heap_alloc_new w _
theorem Four.below {B : Nat} {w' : World} (h : Four w g t u0 u1 u2 u3) (hb : Below B w w') (hg : g < B) : Four w' g t u0 u1 u2 u3 := (hb.block g hg).trans h
theorem Four.drew {w' : World} (h : Four w g t u0 u1 u2 u3) (hb : Drew w w') : Four w' g t u0 u1 u2 u3 := h.below (hb.below w.heap.size) h.lt
theorem Four.alloc (h : Four w g t u0 u1 u2 u3) (o : Obj) : Four (w.alloc o) g t u0 u1 u2 u3 := h.below (below_alloc w o) h.lt
theorem Four.set0 (h : Four w g t u0 u1 u2 u3) (z : Value) : Four (w.setCell ⟨g, 0, none⟩ z) g t z u1 u2 u3 := by
  unfold Four at h ⊢
  simp [World.setCell, Array.getElem?_modify, h]
theorem Four.set1 (h : Four w g t u0 u1 u2 u3) (z : Value) : Four (w.setCell ⟨g, 1, none⟩ z) g t u0 z u2 u3 := by
  unfold Four at h ⊢
  simp [World.setCell, Array.getElem?_modify, h]
theorem Four.set2 (h : Four w g t u0 u1 u2 u3) (z : Value) : Four (w.setCell ⟨g, 2, none⟩ z) g t u0 u1 z u3 := by
  unfold Four at h ⊢
  simp [World.setCell, Array.getElem?_modify, h]
theorem Four.set3 (h : Four w g t u0 u1 u2 u3) (z : Value) : Four (w.setCell ⟨g, 3, none⟩ z) g t u0 u1 u2 z := by
  unfold Four at h ⊢
  simp [World.setCell, Array.getElem?_modify, h]
theorem Four.other (h : Four w g t u0 u1 u2 u3) {p : Addr} (hne : g ≠ p.block) (z : Value) : Four (w.setCell p z) g t u0 u1 u2 u3 := by
  have e := Below.heap_setCell w p z g hne
  unfold Four at h ⊢
  rw [e]; exact h
end

/-- Block g holds just five cells. -/
def Five (w : World) (g : Nat) (t : TypeId) (u0 u1 u2 u3 u4 : Value) : Prop := w.heap[g]? = some (.cells #[u0, u1, u2, u3, u4] t (0, 0))
section
variable {w : World} {g : Nat} {t : TypeId} {u0 u1 u2 u3 u4 : Value}
theorem Five.lt (h : Five w g t u0 u1 u2 u3 u4) : g < w.heap.size := by
  rcases Nat.lt_or_ge g w.heap.size with hl | hl
  · exact hl
  · unfold Five at h; rw [Array.getElem?_eq_none hl] at h; cases h
theorem Five.c0 (h : Five w g t u0 u1 u2 u3 u4) : w.cell? ⟨g, 0, none⟩ = some u0 := cell_of_row w g 0 _ t (0, 0) h
theorem Five.c1 (h : Five w g t u0 u1 u2 u3 u4) : w.cell? ⟨g, 1, none⟩ = some u1 := cell_of_row w g 1 _ t (0, 0) h
theorem Five.c2 (h : Five w g t u0 u1 u2 u3 u4) : w.cell? ⟨g, 2, none⟩ = some u2 := cell_of_row w g 2 _ t (0, 0) h
theorem Five.c3 (h : Five w g t u0 u1 u2 u3 u4) : w.cell? ⟨g, 3, none⟩ = some u3 := cell_of_row w g 3 _ t (0, 0) h
theorem Five.c4 (h : Five w g t u0 u1 u2 u3 u4) : w.cell? ⟨g, 4, none⟩ = some u4 := cell_of_row w g 4 _ t (0, 0) h
theorem Five.free (h : Five w g t u0 u1 u2 u3 u4) (i : Nat) : w.frozen? ⟨g, i, none⟩ = false := by
  unfold Five at h
  simp [World.frozen?, h]
theorem Five.new (w : World) (t : TypeId) (u0 u1 u2 u3 u4 : Value) : Five (w.alloc (.cells #[u0, u1, u2, u3, u4] t)) w.heap.size t u0 u1 u2 u3 u4 := heap_alloc_new w _
theorem Five.below {B : Nat} {w' : World} (h : Five w g t u0 u1 u2 u3 u4) (hb : Below B w w') (hg : g < B) : Five w' g t u0 u1 u2 u3 u4 := (hb.block g hg).trans h
theorem Five.drew {w' : World} (h : Five w g t u0 u1 u2 u3 u4) (hb : Drew w w') : Five w' g t u0 u1 u2 u3 u4 := h.below (hb.below w.heap.size) h.lt
theorem Five.alloc (h : Five w g t u0 u1 u2 u3 u4) (o : Obj) : Five (w.alloc o) g t u0 u1 u2 u3 u4 := h.below (below_alloc w o) h.lt
theorem Five.set0 (h : Five w g t u0 u1 u2 u3 u4) (z : Value) : Five (w.setCell ⟨g, 0, none⟩ z) g t z u1 u2 u3 u4 := by
  unfold Five at h ⊢
  simp [World.setCell, Array.getElem?_modify, h]
theorem Five.set1 (h : Five w g t u0 u1 u2 u3 u4) (z : Value) : Five (w.setCell ⟨g, 1, none⟩ z) g t u0 z u2 u3 u4 := by
  unfold Five at h ⊢
  simp [World.setCell, Array.getElem?_modify, h]
theorem Five.set2 (h : Five w g t u0 u1 u2 u3 u4) (z : Value) : Five (w.setCell ⟨g, 2, none⟩ z) g t u0 u1 z u3 u4 := by
  unfold Five at h ⊢
  simp [World.setCell, Array.getElem?_modify, h]
theorem Five.set3 (h : Five w g t u0 u1 u2 u3 u4) (z : Value) : Five (w.setCell ⟨g, 3, none⟩ z) g t u0 u1 u2 z u4 := by
  unfold Five at h ⊢
  simp [World.setCell, Array.getElem?_modify, h]
theorem Five.set4 (h : Five w g t u0 u1 u2 u3 u4) (z : Value) : Five (w.setCell ⟨g, 4, none⟩ z) g t u0 u1 u2 u3 z := by
  unfold Five at h ⊢
  simp [World.setCell, Array.getElem?_modify, h]
theorem Five.other (h : Five w g t u0 u1 u2 u3 u4) {p : Addr} (hne : g ≠ p.block) (z : Value) : Five (w.setCell p z) g t u0 u1 u2 u3 u4 := by
  have e := Below.heap_setCell w p z g hne
  unfold Five at h ⊢
  rw [e]; exact h
end

/-- Block g holds just these cells. -/
def Cells (w : World) (g : Nat) (t : TypeId) (cs : Array Value) : Prop := w.heap[g]? = some (.cells cs t (0, 0))
section
variable {w : World} {g : Nat} {t : TypeId} {cs : Array Value}
theorem Cells.lt (h : Cells w g t cs) : g < w.heap.size := by
  rcases Nat.lt_or_ge g w.heap.size with hl | hl
  · exact hl
  · unfold Cells at h; rw [Array.getElem?_eq_none hl] at h; cases h
theorem Cells.c (h : Cells w g t cs) (i : Nat) {v : Value} (hv : cs[i]? = some v) : w.cell? ⟨g, i, none⟩ = some v := by
  rw [cell_of_row w g i _ t (0, 0) h]; exact hv
theorem Cells.free (h : Cells w g t cs) (i : Nat) : w.frozen? ⟨g, i, none⟩ = false := by
  unfold Cells at h
  simp [World.frozen?, h]
theorem Cells.new (w : World) (t : TypeId) (cs : Array Value) : Cells (w.alloc (.cells cs t)) w.heap.size t cs := heap_alloc_new w _
theorem Cells.below {B : Nat} {w' : World} (h : Cells w g t cs) (hb : Below B w w') (hg : g < B) : Cells w' g t cs := (hb.block g hg).trans h
theorem Cells.alloc (h : Cells w g t cs) (o : Obj) : Cells (w.alloc o) g t cs := h.below (below_alloc w o) h.lt
theorem Cells.other (h : Cells w g t cs) {p : Addr} (hne : g ≠ p.block) (z : Value) : Cells (w.setCell p z) g t cs := by
  have e := Below.heap_setCell w p z g hne
  unfold Cells at h ⊢
  rw [e]; exact h
end

def RowV (B : Nat) (w : World) (A : Option Addr) (len : Nat) (f : Nat → Value) : Prop :=
  0 < len → ∃ p : Addr, A = some p ∧ p.block < B ∧ ∀ i, i < len → w.cell? (p.add i) = some (f i)
def RowI (B : Nat) (w : World) (A : Option Addr) (len : Nat) (zs : List Int) : Prop :=
  zs.length = len ∧ RowV B w A len (fun i => .int .i64 (zs.getD i 0)) ∧ ∀ x ∈ zs, -9223372036854775808 ≤ x ∧ x ≤ 9223372036854775807
theorem RowV.below {B : Nat} {w w' : World} {A : Option Addr} {len : Nat} {f : Nat → Value} (h : RowV B w A len f) (hb : Below B w w') : RowV B w' A len f :=
  fun hn => by
    obtain ⟨p, e, hp, hc⟩ := h hn
    exact ⟨p, e, hp, fun i hi => (hb.cell (by rw [block_of_add]; exact hp)).trans (hc i hi)⟩
theorem RowV.more {B B' : Nat} {w : World} {A : Option Addr} {len : Nat} {f : Nat → Value} (h : RowV B w A len f) (hb : B ≤ B') : RowV B' w A len f :=
  fun hn => by
    obtain ⟨p, e, hp, hc⟩ := h hn
    exact ⟨p, e, by omega, hc⟩
theorem RowI.step {w w' : World} {A : Option Addr} {len : Nat} {zs : List Int} (h : RowI w.heap.size w A len zs) (b : Below w.heap.size w w') : RowI w'.heap.size w' A len zs :=
  ⟨h.1, (h.2.1.below b).more b.size, h.2.2⟩
theorem RowI.at_ {B : Nat} {w : World} {A : Option Addr} {len : Nat} {zs : List Int} (h : RowI B w A len zs) (k : Nat) (hk : k < len) :
    ∃ p, A = some p ∧ w.cell? (p.add k) = some (.int .i64 (zs.getD k 0)) ∧ -9223372036854775808 ≤ zs.getD k 0 ∧ zs.getD k 0 ≤ 9223372036854775807 := by
  obtain ⟨p, e, _, hc⟩ := h.2.1 (by omega)
  have hz := h.1
  have hm : zs.getD k 0 ∈ zs := by
    have : k < zs.length := by omega
    simp [List.getD, this]
  exact ⟨p, e, hc k hk, h.2.2 _ hm⟩

theorem i64_wf {x : Int} (h : (Lit.int .i64 x).wf = true) : I64 x := by
  have e1 : IntKind.i64.min = -9223372036854775808 := by decide
  have e2 : IntKind.i64.max = 9223372036854775807 := by decide
  simp only [Lit.wf, Bool.and_eq_true, decide_eq_true_eq, e1, e2] at h
  exact h
theorem u64_wf {x : Int} (h : (Lit.int .u64 x).wf = true) : 0 ≤ x ∧ x ≤ 18446744073709551615 := by
  have e1 : IntKind.u64.min = 0 := by decide
  have e2 : IntKind.u64.max = 18446744073709551615 := by decide
  simp only [Lit.wf, Bool.and_eq_true, decide_eq_true_eq, e1, e2] at h
  exact h
theorem i32_wf {x : Int} (h : (Lit.int .i32 x).wf = true) : -2147483648 ≤ x ∧ x ≤ 2147483647 := by
  have e1 : IntKind.i32.min = -2147483648 := by decide
  have e2 : IntKind.i32.max = 2147483647 := by decide
  simp only [Lit.wf, Bool.and_eq_true, decide_eq_true_eq, e1, e2] at h
  exact h
theorem u16_wf {x : Int} (h : (Lit.int .u16 x).wf = true) : 0 ≤ x ∧ x ≤ 65535 := by
  have e1 : IntKind.u16.min = 0 := by decide
  have e2 : IntKind.u16.max = 65535 := by decide
  simp only [Lit.wf, Bool.and_eq_true, decide_eq_true_eq, e1, e2] at h
  exact h
theorem u8_wf {x : Int} (h : (Lit.int .u8 x).wf = true) : 0 ≤ x ∧ x ≤ 255 := by
  have e1 : IntKind.u8.min = 0 := by decide
  have e2 : IntKind.u8.max = 255 := by decide
  simp only [Lit.wf, Bool.and_eq_true, decide_eq_true_eq, e1, e2] at h
  exact h
theorem u32_wf {x : Int} (h : (Lit.int .u32 x).wf = true) : 0 ≤ x ∧ x ≤ 4294967295 := by
  have e1 : IntKind.u32.min = 0 := by decide
  have e2 : IntKind.u32.max = 4294967295 := by decide
  simp only [Lit.wf, Bool.and_eq_true, decide_eq_true_eq, e1, e2] at h
  exact h
end Go.Proofs.Ytmfbnajaocaikaa
