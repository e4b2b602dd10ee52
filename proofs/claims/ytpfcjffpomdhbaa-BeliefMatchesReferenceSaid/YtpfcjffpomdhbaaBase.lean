/- Layer 8: what is wanted of layers 1 and 7 (gen/from_s07.py writes this): worlds, blocks of two and three cells, what Elapsed and Counts return. -/
import Derived.Lib.Hide
import Derived.Lib.MinMax
import Derived.Deep.QuietTactic
import Derived.BigQuiet
import Derived.OneCell
import Derived.Outline
import Derived.Laws.Rows
import Derived.Laws.ResultCell
import Derived.Test.YtpfcjffpomdhbaaSRef
import Derived.Test.YtpfcjffpomdhbaaDrf
namespace Go.Proofs.Ytpfcjffpomdhbaa
open Go.RowKit Go
set_option linter.unusedVariables false
set_option linter.unusedSimpArgs false

theorem block_of_add (a : Addr) (n : Nat) : (a.add n).block = a.block := by unfold Addr.add; split <;> rfl
theorem below_more {w W W' : World} (h : Below w.heap.size w W) (b : Below W.heap.size W W') : Below w.heap.size w W' := h.trans (b.mono h.size)
theorem below_alloc (w : World) (o : Obj) : Below w.heap.size w (w.alloc o) := (Below.refl _ _).alloc (Nat.le_refl _) _

/-- The same world but for what was drawn. -/
def Drew (w w' : World) : Prop := ∃ q, w' = w.drewN q
theorem Drew.refl (w : World) : Drew w w := ⟨0, rfl⟩
theorem Drew.trans {a b c : World} (h : Drew a b) (k : Drew b c) : Drew a c := by
  obtain ⟨q, rfl⟩ := h
  obtain ⟨r, rfl⟩ := k
  exact ⟨q + r, World.drewN_drewN _ _ _⟩
theorem Drew.n (w : World) (q : Nat) : Drew w (w.drewN q) := ⟨q, rfl⟩
theorem Drew.one (w : World) : Drew w w.drew := ⟨1, rfl⟩
theorem Drew.below {w w' : World} (h : Drew w w') (B : Nat) : Below B w w' := by
  obtain ⟨q, rfl⟩ := h
  exact ⟨rfl, rfl, rfl, Nat.le_refl _, fun _ _ => rfl⟩
theorem Drew.cell {w w' : World} (h : Drew w w') {p : Addr} {v : Value} (c : w.cell? p = some v) : w'.cell? p = some v := by
  obtain ⟨q, rfl⟩ := h; exact c
theorem Drew.size {w w' : World} (h : Drew w w') : w'.heap.size = w.heap.size := by
  obtain ⟨q, rfl⟩ := h; rfl

theorem Drew.lt {w w' : World} (h : Drew w w') {g : Nat} (l : g < w.heap.size) : g < w'.heap.size := by rw [h.size]; exact l

/-- Block g holds just three cells. -/
def Three (w : World) (g : Nat) (t : TypeId) (u v x : Value) : Prop := w.heap[g]? = some (.cells #[u, v, x] t (0, 0))
section
variable {w : World} {g : Nat} {t : TypeId} {u v x : Value}
theorem Three.lt (h : Three w g t u v x) : g < w.heap.size := by
  rcases Nat.lt_or_ge g w.heap.size with hl | hl
  · exact hl
  · unfold Three at h; rw [Array.getElem?_eq_none hl] at h; cases h
theorem Three.c0 (h : Three w g t u v x) : w.cell? ⟨g, 0, none⟩ = some u := cell_of_row w g 0 _ t (0, 0) h
theorem Three.c1 (h : Three w g t u v x) : w.cell? ⟨g, 1, none⟩ = some v := cell_of_row w g 1 _ t (0, 0) h
theorem Three.c2 (h : Three w g t u v x) : w.cell? ⟨g, 2, none⟩ = some x := cell_of_row w g 2 _ t (0, 0) h
theorem Three.new (w : World) (t : TypeId) (u v x : Value) : Three (w.alloc (.cells #[u, v, x] t)) w.heap.size t u v x := heap_alloc_new w _
theorem Three.below {B : Nat} {w' : World} (h : Three w g t u v x) (hb : Below B w w') (hg : g < B) : Three w' g t u v x := (hb.block g hg).trans h
theorem Three.drew {w' : World} (h : Three w g t u v x) (hb : Drew w w') : Three w' g t u v x := h.below (hb.below w.heap.size) h.lt
end

/-- Two cells, of a range. -/
def Two (w : World) (g : Nat) (t : TypeId) (u v : Value) : Prop := w.heap[g]? = some (.cells #[u, v] t (0, 0))
section
variable {w : World} {g : Nat} {t : TypeId} {u v : Value}
theorem Two.lt (h : Two w g t u v) : g < w.heap.size := by
  rcases Nat.lt_or_ge g w.heap.size with hl | hl
  · exact hl
  · unfold Two at h; rw [Array.getElem?_eq_none hl] at h; cases h
theorem Two.c0 (h : Two w g t u v) : w.cell? ⟨g, 0, none⟩ = some u := cell_of_row w g 0 _ t (0, 0) h
theorem Two.c1 (h : Two w g t u v) : w.cell? ⟨g, 1, none⟩ = some v := cell_of_row w g 1 _ t (0, 0) h
theorem Two.free (h : Two w g t u v) (i : Nat) : w.frozen? ⟨g, i, none⟩ = false := by
  unfold Two at h
  simp [World.frozen?, h]
theorem Two.new (w : World) (t : TypeId) (u v : Value) : Two (w.alloc (.cells #[u, v] t)) w.heap.size t u v := heap_alloc_new w _
theorem Two.below {B : Nat} {w' : World} (h : Two w g t u v) (hb : Below B w w') (hg : g < B) : Two w' g t u v := (hb.block g hg).trans h
theorem Two.alloc (h : Two w g t u v) (o : Obj) : Two (w.alloc o) g t u v := h.below (below_alloc w o) h.lt
theorem Three.alloc {x : Value} (h : Three w g t u v x) (o : Obj) : Three (w.alloc o) g t u v x := h.below (below_alloc w o) h.lt
end

def rgV (lo hi : Int) : Value := .agg #[.int .i64 lo, .int .i64 hi]

/-- What Elapsed and Counts return. -/
def RateOk (r : Int) : Prop := 0 ≤ r ∧ r ≤ 1000000
def StretchOk (n : Int) : Prop := 0 ≤ n ∧ n ≤ 1000000000000000
instance (r : Int) : Decidable (RateOk r) := by unfold RateOk; infer_instance
instance (r : Int) : Decidable (StretchOk r) := by unfold StretchOk; infer_instance
def elR (r c : Int) : Int × Int × Int := if RateOk r ∧ StretchOk c then (elLo r c, elHi r c, 0) else (0, 0, 1)
def coR (r e : Int) : Int × Int × Int := if RateOk r ∧ StretchOk e then (coLo r e, coHi r e, 0) else (0, 0, 1)

/-- A quotient rounded up, as layer 1 says it. -/
theorem ceil_up (x d : Int) (hd : 0 < d) : ceilR (x / d) (x % d) = upD x d := by
  have a := Int.mul_ediv_add_emod x d
  have b := Int.emod_nonneg x (by omega : d ≠ 0)
  have c := Int.emod_lt_of_pos x hd
  unfold ceilR
  generalize x / d = q at *
  generalize x % d = m at *
  split
  · -- q + 1 = upD
    have h1 : ¬ (q + 1 < upD x d) := by rw [lt_up hd, Int.add_mul, Int.one_mul, Int.mul_comm q d]; omega
    have h2 : q < upD x d := by rw [lt_up hd, Int.mul_comm q d]; omega
    omega
  · have h1 : ¬ (q < upD x d) := by rw [lt_up hd, Int.mul_comm q d]; omega
    have h2 : q - 1 < upD x d := by rw [lt_up hd, Int.sub_mul, Int.one_mul, Int.mul_comm q d]; omega
    omega
theorem finR_in {x : Int} (h1 : -3000000000000000 ≤ x) (h2 : x ≤ 3000000000000000) : finR x = (x, 0) := if_pos ⟨h1, h2⟩

/-- What the four calls of layer 1 return. -/
theorem fl_el {r c : Int} (hr : RateOk r) (hc : StretchOk c) (h : 0 < c) : floorR (c - 1) 1000000000 (1000000000 + r) = (elLo r c - 1, 0) := by
  obtain ⟨r1, r2⟩ := hr
  obtain ⟨c1, c2⟩ := hc
  have a := elLo_nonneg r1 c1
  have b := elLo_up r1 c1
  have e : (c - 1) * 1000000000 / (1000000000 + r) = elLo r c - 1 := by unfold elLo; rw [if_neg (by omega)]; omega
  have n := Int.ediv_nonneg (by omega : (0 : Int) ≤ (c - 1) * 1000000000) (by omega : (0 : Int) ≤ 1000000000 + r)
  rw [floorR, if_pos (by unfold rOK; omega), finR_in (by omega) (by omega), e]
theorem ce_el {r c : Int} (hr : RateOk r) (hc : StretchOk c) : ceilR' (c + 1) 1000000000 (1000000000 - r) = (elHi r c + 1, 0) := by
  obtain ⟨r1, r2⟩ := hr
  obtain ⟨c1, c2⟩ := hc
  have a := elHi_nonneg r1 r2 c1
  have b := elHi_le r1 r2 c1
  have e : upD ((c + 1) * 1000000000) (1000000000 - r) = elHi r c + 1 := by unfold elHi; omega
  rw [ceilR', if_pos (by unfold rOK; omega), ceil_up _ _ (by omega), finR_in (by omega) (by omega), e]
theorem fl_co {r e : Int} (hr : RateOk r) (he : StretchOk e) : floorR e (1000000000 - r) 1000000000 = (coLo r e, 0) := by
  obtain ⟨r1, r2⟩ := hr
  obtain ⟨c1, c2⟩ := he
  have a := coLo_nonneg r2 c1
  have b := coLo_le_self r1 c1
  have q : e * (1000000000 - r) / 1000000000 = coLo r e := rfl
  rw [floorR, if_pos (by unfold rOK; omega), finR_in (by omega) (by omega), q]
theorem ce_co {r e : Int} (hr : RateOk r) (he : StretchOk e) : ceilR' e (1000000000 + r) 1000000000 = (coHi r e, 0) := by
  obtain ⟨r1, r2⟩ := hr
  obtain ⟨c1, c2⟩ := he
  have a := coHi_nonneg r1 c1
  have b := coHi_le r2 c1
  have q : upD (e * (1000000000 + r)) 1000000000 = coHi r e := rfl
  rw [ceilR', if_pos (by unfold rOK; omega), ceil_up _ _ (by omega), finR_in (by omega) (by omega), q]
section
variable {w : World} {g : Nat} {t : TypeId} {u v : Value}
theorem Two.set0 (h : Two w g t u v) (x : Value) : Two (w.setCell ⟨g, 0, none⟩ x) g t x v := by
  unfold Two at h ⊢
  simp [World.setCell, Array.getElem?_modify, h]
theorem Two.set1 (h : Two w g t u v) (x : Value) : Two (w.setCell ⟨g, 1, none⟩ x) g t u x := by
  unfold Two at h ⊢
  simp [World.setCell, Array.getElem?_modify, h]
end

theorem Two.other {w : World} {g : Nat} {t : TypeId} {u v : Value} (h : Two w g t u v) {p : Addr} (hne : g ≠ p.block) (x : Value) : Two (w.setCell p x) g t u v := by
  have e := Below.heap_setCell w p x g hne
  unfold Two at h ⊢
  rw [e]; exact h

theorem rbound_any (x : Int) (q : Bool) (hq : q = true ↔ 0 ≤ x ∧ x ≤ 1000000) (h1 : -9223372036854775808 ≤ x) (h2 : x ≤ 9223372036854775807) (w : World) :
    Calls Try.prog 42 #[.int .i64 x] w fun e w' => e = .returned (.bool q) ∧ w = w' := by
  have hd : q = decide (0 ≤ x ∧ x ≤ 1000000) := by rw [Bool.eq_iff_iff, decide_eq_true_iff]; exact hq
  subst hd
  clear hq
  go_enter Try.func42, Try.ntmps42
  by_cases h : 0 ≤ x
  · go_wp2_with fail
    go_ret
    exact ⟨by simp_all <;> omega, rfl⟩
  · go_wp2_with fail
    go_ret
    exact ⟨by simp_all <;> omega, rfl⟩

theorem rstretch_any (x : Int) (q : Bool) (hq : q = true ↔ 0 ≤ x ∧ x ≤ 1000000000000000) (h1 : -9223372036854775808 ≤ x) (h2 : x ≤ 9223372036854775807) (w : World) :
    Calls Try.prog 43 #[.int .i64 x] w fun e w' => e = .returned (.bool q) ∧ w = w' := by
  have hd : q = decide (0 ≤ x ∧ x ≤ 1000000000000000) := by rw [Bool.eq_iff_iff, decide_eq_true_iff]; exact hq
  subst hd
  clear hq
  go_enter Try.func43, Try.ntmps43
  by_cases h : 0 ≤ x
  · go_wp2_with fail
    go_ret
    exact ⟨by simp_all <;> omega, rfl⟩
  · go_wp2_with fail
    go_ret
    exact ⟨by simp_all <;> omega, rfl⟩

/-- An integer of 64 bits. -/
def I64 (x : Int) : Prop := -9223372036854775808 ≤ x ∧ x ≤ 9223372036854775807

end Go.Proofs.Ytpfcjffpomdhbaa
