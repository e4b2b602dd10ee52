/- Layer 3: the reference's Decimal, at every integer. -/
import Derived.Test.YtlimkcodbmafaaaDoorRDec
namespace Go.Proofs.YtlimkcodbmafaaaDoor
open Go.RowKit Go.Sort Go
set_option linter.unusedVariables false

theorem bytes_app (L M : List UInt8) : (⟨L.toArray⟩ ++ ⟨M.toArray⟩ : ByteArray) = ⟨(L ++ M).toArray⟩ := by
  apply ByteArray.ext
  simp

theorem gives_keep {q : Int} {S : ByteArray} (h : ∀ w : World, Calls Tryd.prog 45 #[.int .i64 q] w (Gives (.string S) w)) : KeepS q S := fun w =>
  (h w).mono fun e w' ⟨he, hb⟩ => ⟨he, fun b o hl => hb.cell (p := ⟨b, o, none⟩) hl, hb.size, hb⟩

theorem size_list (L : List UInt8) : (⟨L.toArray⟩ : ByteArray).size = L.length := by simp [ByteArray.size]

theorem dec_big (u : Nat) (h : 10 ≤ u) : Lib.decDigits u = Lib.decDigits (u / 10) ++ [UInt8.ofNat (48 + u % 10)] := by
  rw [Lib.decDigits, dif_neg (by omega)]

theorem rdec_pos : ∀ (k u : Nat), u ≤ k → u < 9223372036854775808 → ∀ w : World, Calls Tryd.prog 45 #[.int .i64 (u : Int)] w (Gives (.string ⟨(Lib.itoa (u : Int)).toArray⟩) w) := by
  intro k
  induction k with
  | zero => intro u h1 h2 w; exact rdec_small u (by omega) w
  | succ k ih =>
    intro u h1 h2 w
    by_cases h : u < 10
    · exact rdec_small u h w
    · have h3 := ih (u / 10) (by omega) (by omega)
      rw [Lib.itoa_nonneg] at h3
      have hlen : (⟨(Lib.decDigits (u / 10)).toArray⟩ : ByteArray).size ≤ 20 := by
        rw [size_list, Lib.decDigits_length]
        have := nDigits_le 19 (u / 10) (by omega) (by omega)
        omega
      have := rdec_big u (u / 10) (u % 10) h2 (by omega) rfl rfl _ hlen (gives_keep h3) _ (dig_toNat (u % 10) (by omega)) (by omega) w
      rw [Lib.itoa_nonneg, dec_big u (by omega), ← bytes_app]
      exact this

theorem rdec_negs : ∀ (k u : Nat), u ≤ k → 1 ≤ u → u ≤ 9223372036854775808 → ∀ w : World, Calls Tryd.prog 45 #[.int .i64 (-(u : Int))] w (Gives (.string ⟨(Lib.itoa (-(u : Int))).toArray⟩) w) := by
  intro k
  induction k with
  | zero => intro u h1 h2 h3 w; omega
  | succ k ih =>
    intro u h1 h2 h3 w
    by_cases h : u < 10
    · exact rdec_neg u h2 h w
    · have h4 := ih (u / 10) (by omega) (by omega) (by omega)
      have hlen : (⟨(Lib.itoa (-((u / 10 : Nat) : Int))).toArray⟩ : ByteArray).size ≤ 20 := by
        rw [size_list]
        exact itoa_len20 _ (by omega) (by omega)
      have := rdec_nbig u (u / 10) (u % 10) (by omega) (by omega) rfl rfl _ hlen (gives_keep h4) _ (dig_toNat (u % 10) (by omega)) (by omega) w
      rw [Lib.itoa_neg _ h2, dec_big u (by omega), ← List.cons_append, ← bytes_app]
      rw [Lib.itoa_neg _ (by omega)] at this
      exact this

theorem rdec_any (x : Int) (h0 : -9223372036854775808 ≤ x) (h1 : x ≤ 9223372036854775807) (w : World) : Calls Tryd.prog 45 #[.int .i64 x] w (Gives (.string ⟨(Lib.itoa x).toArray⟩) w) := by
  by_cases h : 0 ≤ x
  · obtain ⟨u, rfl⟩ : ∃ u : Nat, x = (u : Int) := ⟨x.toNat, by omega⟩
    exact rdec_pos u u (Nat.le_refl _) (by omega) w
  · obtain ⟨u, rfl⟩ : ∃ u : Nat, x = -(u : Int) := ⟨x.natAbs, by omega⟩
    exact rdec_negs u u (Nat.le_refl _) (by omega) (by omega) w
end Go.Proofs.YtlimkcodbmafaaaDoor
