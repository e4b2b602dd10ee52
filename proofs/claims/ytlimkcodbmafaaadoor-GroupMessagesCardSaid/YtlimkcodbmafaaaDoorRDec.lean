/- Layer 3: the reference's Decimal: the decimal text of an integer. -/
import Derived.Laws.IdiomStrings
import Derived.Deep.RegionWith
import Derived.Test.YtlimkcodbmafaaaDoorRef
namespace Go.Proofs.YtlimkcodbmafaaaDoor
open Go.RowKit Go.Sort Go
set_option linter.unusedVariables false

/-- 'string([]byte{c})', c's cell at block g. -/
theorem conv_one (W : World) (g : Nat) (b : UInt8) (x : Int) (hx : x = (b.toNat : Int)) (h : W.cell? ⟨g, 0, none⟩ = some (.int .u8 x)) :
    (convert 55 9 (.slice (some ⟨g, 0, none⟩) 1 1)).run Tryd.prog W = .ok (.string ⟨#[b]⟩) W := by
  subst hx
  refine run_convert_bytes_back (P := Tryd.prog) W 55 9 5 ⟨g, 0, none⟩ 1 [b] Tryd.underlying55 Tryd.underlying5 Tryd.underlying9 ?_
  intro j hj
  obtain rfl : j = 0 := by simp at hj; omega
  simpa [Addr.add] using h

theorem dig_toNat (d : Nat) (h : d < 10) : (48 : Int) + (d : Int) = ((UInt8.ofNat (48 + d)).toNat : Int) := by
  simp only [UInt8.toNat_ofNat']; omega

theorem rdec_small (n : Nat) (hn : n < 10) (w : World) : Calls Tryd.prog 45 #[.int .i64 n] w (Gives (.string ⟨(Lib.itoa n).toArray⟩) w) := by
  have hx := dig_toNat n hn
  rw [Lib.itoa_nonneg, Lib.decDigits_one hn]
  generalize UInt8.ofNat (48 + n) = b at hx ⊢
  have kc := conv_one (w.alloc (.cells #[.int .u8 (48 + (n : Int))] 5)) w.heap.size b (48 + (n : Int)) hx (by simp)
  clear hx
  go_enter Tryd.func45, Tryd.ntmps45
  go_wp2_with fail
  go_ret
  exact ⟨rfl, (Below.refl _ _).alloc (Nat.le_refl _) _⟩

theorem rdec_neg (n : Nat) (h1 : 1 ≤ n) (hn : n < 10) (w : World) : Calls Tryd.prog 45 #[.int .i64 (-(n : Int))] w (Gives (.string ⟨(Lib.itoa (-(n : Int))).toArray⟩) w) := by
  have hx := dig_toNat n hn
  rw [Lib.itoa_neg _ h1, Lib.decDigits_one hn]
  generalize UInt8.ofNat (48 + n) = b at hx ⊢
  have kc := conv_one (w.alloc (.cells #[.int .u8 (48 + (n : Int))] 5)) w.heap.size b (48 + (n : Int)) hx (by simp)
  clear hx
  have e1 : Int.tdiv (-(n : Int)) 10 = 0 := by rw [Int.neg_tdiv, Int.tdiv_eq_ediv_of_nonneg (by omega)]; omega
  have e2 : (48 : Int) - -(n : Int) = 48 + (n : Int) := by omega
  go_enter Tryd.func45, Tryd.ntmps45
  go_wp2_with fail
  go_ret
  exact ⟨rfl, (Below.refl _ _).alloc (Nat.le_refl _) _⟩

theorem below_of_drew {w w' : World} (h : Below w.drew.heap.size w.drew w') : Below w.heap.size w w' := ⟨h.os, h.tape, h.output, h.size, h.block⟩

/-- A call that gives a string, with what it keeps spelt out. -/
def KeepS (q : Int) (S : ByteArray) : Prop := ∀ w : World, Calls Tryd.prog 45 #[.int .i64 q] w fun e w' => e = .returned (.string S) ∧ (∀ b o, b < w.heap.size → w'.cell? ⟨b, o, none⟩ = w.cell? ⟨b, o, none⟩) ∧ w.heap.size ≤ w'.heap.size ∧ Hid (Below w.heap.size w w')

set_option maxHeartbeats 4000000 in
set_option maxRecDepth 100000 in
theorem rdec_big (u q d : Nat) (hu : u < 9223372036854775808) (h10 : 10 ≤ u) (hq : u / 10 = q) (hd : u % 10 = d) (S : ByteArray) (hS : S.size ≤ 20) (hL : KeepS (q : Int) S) (b : UInt8) (hb : (48 : Int) + (d : Int) = (b.toNat : Int)) (hd10 : d < 10) (w : World) :
    Calls Tryd.prog 45 #[.int .i64 u] w (Gives (.string (S ++ ⟨#[b]⟩)) w) := by
  have IH := Lib.hid hL
  have kc := fun W g h => conv_one W g b (48 + (d : Int)) hb h
  have e1 : (u : Int) / 10 = (q : Int) := by omega
  have e2 : (u : Int) % 10 = (d : Int) := by omega
  have e3 : Int.tdiv (u : Int) 10 = (q : Int) := by rw [Int.tdiv_eq_ediv_of_nonneg (by omega)]; exact e1
  have e4 : Int.tmod (u : Int) 10 = (d : Int) := by rw [Int.tmod_eq_emod_of_nonneg (by omega)]; exact e2
  have b1 : (10 : Int) ≤ (u : Int) := by omega
  have w1 : IntKind.i64.wrap (q : Int) = (q : Int) := by rw [IntKind.wrap_i64]; omega
  have w2 : IntKind.i64.wrap (48 + (d : Int)) = 48 + (d : Int) := by rw [IntKind.wrap_i64]; omega
  have w3 : IntKind.u8.wrap (48 + (d : Int)) = 48 + (d : Int) := by rw [IntKind.wrap_u8']; omega
  have hb1 : (⟨#[b]⟩ : ByteArray).size = 1 := rfl
  have hmx : IntKind.i64.max = 9223372036854775807 := by decide
  have ks : Op.stringOp .add S ⟨#[b]⟩ = pure (.string (S ++ ⟨#[b]⟩)) := by
    unfold Op.stringOp
    have : ¬ ((S.size + (⟨#[b]⟩ : ByteArray).size : Nat) : Int) > IntKind.i64.max := by rw [hb1, hmx]; omega
    simp only [this, if_false]
  clear hmx hb1
  generalize (⟨#[b]⟩ : ByteArray) = Y at ks kc ⊢
  clear hS
  clear hb hL hq hd hu
  go_enter Tryd.func45, Tryd.ntmps45
  go_wp2_with fail
  go_region_with (go_at_call 45; refine (IH.out _).mono ?_; rintro e w' ⟨rfl, hc, hz, hb⟩)
  all_goals
    have HB := hb.out
    have HZ := hz
    clear hc hz hb kc ks IH
    go_wp2_with fail
    go_ret
  · have h1 := below_of_drew HB
    exact ⟨rfl, h1.alloc h1.size _⟩
  · exact ⟨rfl, below_more ((Below.refl _ _).alloc (Nat.le_refl _) _) (below_of_drew HB)⟩
  · exact ⟨rfl, below_more ((Below.refl _ _).alloc (Nat.le_refl _) _) (below_of_drew HB)⟩
set_option maxHeartbeats 4000000 in
set_option maxRecDepth 100000 in
theorem rdec_nbig (u q d : Nat) (hu : u ≤ 9223372036854775808) (h10 : 10 ≤ u) (hq : u / 10 = q) (hd : u % 10 = d) (S : ByteArray) (hS : S.size ≤ 20) (hL : KeepS (-(q : Int)) S) (b : UInt8) (hb : (48 : Int) + (d : Int) = (b.toNat : Int)) (hd10 : d < 10) (w : World) :
    Calls Tryd.prog 45 #[.int .i64 (-(u : Int))] w (Gives (.string (S ++ ⟨#[b]⟩)) w) := by
  have IH := Lib.hid hL
  have kc := fun W g h => conv_one W g b (48 + (d : Int)) hb h
  have e3 : Int.tdiv (-(u : Int)) 10 = -(q : Int) := by rw [Int.neg_tdiv, Int.tdiv_eq_ediv_of_nonneg (by omega)]; omega
  have e4 : Int.tmod (-(u : Int)) 10 = -(d : Int) := by rw [Int.neg_tmod, Int.tmod_eq_emod_of_nonneg (by omega)]; omega
  have b1 : (10 : Int) ≤ (u : Int) := by omega
  have b2 : -(u : Int) < 0 := by omega
  have b3 : (1 : Int) ≤ (q : Int) := by omega
  have b4 : (-(q : Int) == 0) = false := by rw [beq_eq_false_iff_ne]; omega
  have w1 : IntKind.i64.wrap (-(q : Int)) = -(q : Int) := by rw [IntKind.wrap_i64]; omega
  have w2 : IntKind.i64.wrap (48 + (d : Int)) = 48 + (d : Int) := by rw [IntKind.wrap_i64]; omega
  have w3 : IntKind.u8.wrap (48 + (d : Int)) = 48 + (d : Int) := by rw [IntKind.wrap_u8']; omega
  have w4 : (48 : Int) - -(d : Int) = 48 + (d : Int) := by omega
  have w5 : IntKind.i64.wrap (-(d : Int)) = -(d : Int) := by rw [IntKind.wrap_i64]; omega
  have hb1 : (⟨#[b]⟩ : ByteArray).size = 1 := rfl
  have hmx : IntKind.i64.max = 9223372036854775807 := by decide
  have ks : Op.stringOp .add S ⟨#[b]⟩ = pure (.string (S ++ ⟨#[b]⟩)) := by
    unfold Op.stringOp
    have : ¬ ((S.size + (⟨#[b]⟩ : ByteArray).size : Nat) : Int) > IntKind.i64.max := by rw [hb1, hmx]; omega
    simp only [this, if_false]
  clear hmx hb1
  generalize (⟨#[b]⟩ : ByteArray) = Y at ks kc ⊢
  clear hS
  clear hb hL hq hd hu
  go_enter Tryd.func45, Tryd.ntmps45
  go_wp2_with fail
  go_region_with (go_at_call 45; refine (IH.out _).mono ?_; rintro e w' ⟨rfl, hc, hz, hb⟩)
  all_goals
    have HB := hb.out
    have HZ := hz
    clear hc hz hb kc ks IH
    go_wp2_with fail
    go_ret
  · have h1 := below_of_drew HB
    exact ⟨rfl, h1.alloc h1.size _⟩
  · exact ⟨rfl, below_more ((Below.refl _ _).alloc (Nat.le_refl _) _) (below_of_drew HB)⟩
  · exact ⟨rfl, below_more ((Below.refl _ _).alloc (Nat.le_refl _) _) (below_of_drew HB)⟩
end Go.Proofs.YtlimkcodbmafaaaDoor
