/- Layer 9: rows of turns; how far a clock that is steered again and again can be. -/
import Derived.Test.YtihfafmockaljaaHead
namespace Go.Proofs.Ytihfafmockaljaa
open Go.RowKit Go
set_option linter.unusedVariables false
set_option linter.unusedSimpArgs false

/-- A turn: after so many counts, to this time, within these counts. -/
structure Tn where
  (a v h : Int)
instance : Inhabited Tn := ⟨⟨0, 0, 0⟩⟩
def Tn.nil : Tn := ⟨0, 0, 0⟩
def U32 (x : Int) : Prop := 0 ≤ x ∧ x ≤ 4294967295
def Tn.U32 (t : Tn) : Prop := Go.Proofs.Ytihfafmockaljaa.U32 t.a ∧ Go.Proofs.Ytihfafmockaljaa.U32 t.v ∧ Go.Proofs.Ytihfafmockaljaa.U32 t.h
def TnAt (w : World) (q : Addr) (t : Tn) : Prop :=
  w.cell? q = some (.int .u32 t.a) ∧ w.cell? ⟨q.block, q.off + 1, none⟩ = some (.int .u32 t.v) ∧ w.cell? ⟨q.block, q.off + 2, none⟩ = some (.int .u32 t.h)
theorem TnAt.below {B : Nat} {w w' : World} {q : Addr} {t : Tn} (h : TnAt w q t) (hb : Below B w w') (hq : q.block < B) : TnAt w' q t :=
  ⟨(hb.cell hq).trans h.1, (hb.cell (p := ⟨q.block, q.off + 1, none⟩) hq).trans h.2.1, (hb.cell (p := ⟨q.block, q.off + 2, none⟩) hq).trans h.2.2⟩
/-- A slice holds these turns. -/
def RowT (B : Nat) (w : World) (A : Option Addr) (len : Nat) (l : List Tn) : Prop :=
  l.length = len ∧ (0 < len → ∃ p : Addr, A = some p ∧ p.block < B ∧ ∀ i, i < len → TnAt w (p.add (i * 3)) (l.getD i Tn.nil)) ∧ ∀ t ∈ l, t.U32
theorem RowT.step {w w' : World} {A : Option Addr} {len : Nat} {l : List Tn} (h : RowT w.heap.size w A len l) (b : Below w.heap.size w w') : RowT w'.heap.size w' A len l :=
  ⟨h.1, fun hn => by
    obtain ⟨p, e, hp, hc⟩ := h.2.1 hn
    exact ⟨p, e, Nat.lt_of_lt_of_le hp b.size, fun i hi => (hc i hi).below b (by rw [block_of_add]; exact hp)⟩, h.2.2⟩
theorem RowT.at_ {B : Nat} {w : World} {A : Option Addr} {len : Nat} {l : List Tn} (h : RowT B w A len l) (k : Nat) (hk : k < len) :
    ∃ p, A = some p ∧ p.block < B ∧ TnAt w (p.add (k * 3)) (l.getD k Tn.nil) ∧ (l.getD k Tn.nil).U32 := by
  obtain ⟨p, e, hp, hc⟩ := h.2.1 (by omega)
  have hz := h.1
  have hm : l.getD k Tn.nil ∈ l := by
    have : k < l.length := by omega
    simp [List.getD, this]
  exact ⟨p, e, hp, hc k hk, h.2.2 _ hm⟩

/-- After k turns, at the reading t, the clock shows y and has the rate z. -/
def Inv (a s m : Int) (k : Nat) (t y z : Int) : Prop :=
  a ≤ t ∧ t ≤ a + k * 1000000000 ∧ -m ≤ z ∧ z ≤ m ∧ (t - a) + part (t - a) (-m) - k ≤ y - s ∧ y - s ≤ (t - a) + part (t - a) m ∧ s ≤ y
theorem inv_start (a s m : Int) (hm : 0 ≤ m) : Inv a s m 0 a s 0 := by
  unfold Inv
  rw [Int.sub_self, part_zero, part_zero]
  omega
/-- Going on by c counts. -/
theorem go_on {a s m : Int} {k : Nat} {t y z c : Int} (hm0 : 0 ≤ m) (hm : m ≤ 100000000) (h : Inv a s m k t y z) (hc : 0 ≤ c) :
    (t + c - a) + part (t + c - a) (-m) - (k + 1) ≤ y + c + part c z - s ∧ y + c + part c z - s ≤ (t + c - a) + part (t + c - a) m ∧ y ≤ y + c + part c z := by
  obtain ⟨h1, h2, h3, h4, h5, h6, h7⟩ := h
  have a1 := part_add (t - a) c (-m)
  have a2 := part_add (t - a) c m
  rw [show t - a + c = t + c - a by omega] at a1 a2
  have b1 := part_mono hc h3
  have b2 := part_mono hc h4
  have b3 := part_small hc (r := z) (by omega) (by omega)
  omega
theorem inv_bound {a s m : Int} {k : Nat} {t y z : Int} (hm0 : 0 ≤ m) (hm : m ≤ 100000000) (h : Inv a s m k t y z) (hk : k ≤ 8) (ha : TimeOk a) (ha2 : a ≤ 1500000000000000) (hs : TimeOk s) (hs2 : s ≤ 1500000000000000) :
    0 ≤ t ∧ t ≤ 1500008000000000 ∧ 0 ≤ y ∧ y ≤ 1500010000000000 ∧ ClOk t y z := by
  obtain ⟨h1, h2, h3, h4, h5, h6, h7⟩ := h
  have b := part_small (n := t - a) (r := m) (by omega) (by omega) (by omega)
  obtain ⟨ha0, _⟩ := ha
  obtain ⟨hs0, _⟩ := hs
  have t1 : t ≤ 1500008000000000 := by omega
  have y1 : y ≤ 1500010000000000 := by omega
  exact ⟨by omega, t1, by omega, y1, ⟨by omega, by omega⟩, ⟨by omega, by omega⟩, by omega, by omega⟩
/-- What is shown some counts later. -/
theorem walk_show {t y z c : Int} (hc : ClOk t y z) (t1 : t ≤ 1500008000000000) (y1 : y ≤ 1500010000000000) (c0 : 0 ≤ c) (c1 : c ≤ 1000000000) :
    showR t y z (t + c) = (y + c + part c z, 0) ∧ y + c + part c z ≤ 1500013000000000 ∧ y ≤ y + c + part c z := by
  have hc2 := hc
  obtain ⟨⟨_, _⟩, ⟨_, _⟩, z1, z2⟩ := hc2
  have b := part_small c0 z1 z2
  have e := show_is (a := t + c) hc ⟨by omega, by omega⟩ (by omega) (by rw [show t + c - t = c by omega]; omega)
  rw [show t + c - t = c by omega] at e
  exact ⟨e, by omega, by omega⟩
theorem walk_steer {t y z c n v m h : Int} (hc : ClOk t y z) (hs : showR t y z (t + c) = (n, 0)) (v0 : 0 ≤ v) (v1 : v ≤ 3000000000000000) (m0 : 0 ≤ m) (m1 : m ≤ 100000000) (h0 : 1 ≤ h) (h1 : h ≤ 1000000000000) :
    ∃ R, steerR t y z (t + c) v m h = (t + c, n, R, 0) ∧ -m ≤ R ∧ R ≤ m := by
  obtain ⟨_, ha, _⟩ := show_ok hs
  have sp := speed_in (d := v - n) (lim := m) (h := h) m0 (by omega)
  refine ⟨speedR (v - n) m h, ?_, sp.1, sp.2.1⟩
  unfold steerR
  rw [if_pos ⟨hc, ha, ⟨v0, v1⟩, m0, m1, h0, h1⟩, hs, if_pos rfl]
end Go.Proofs.Ytihfafmockaljaa
