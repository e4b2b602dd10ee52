/- Layer 1: what Floor, Ceil and Near of package scale return, for any arguments, as plain functions; nothing that was in memory is changed. -/
import Derived.Test.YtihfafmockaljaaSum
import Derived.OpenShut
namespace Go.Proofs.Ytihfafmockaljaa
open Go.RowKit Go
set_option linter.unusedVariables false

def rOK (a n d : Int) : Prop := -3000000000000000 ≤ a ∧ a ≤ 3000000000000000 ∧ 0 ≤ n ∧ n ≤ 2000000000 ∧ 1 ≤ d ∧ d ≤ 2000000000
instance (a n d : Int) : Decidable (rOK a n d) := by unfold rOK; infer_instance
def floorR (a n d : Int) : Int × Int := if rOK a n d then finR (a * n / d) else (0, 1)
def ceilR' (a n d : Int) : Int × Int := if rOK a n d then finR (ceilR (a * n / d) (a * n % d)) else (0, 1)
def nearR' (a n d : Int) : Int × Int := if rOK a n d then finR (nearR a d (a * n / d) (a * n % d)) else (0, 1)

theorem fin_pair (x : Int) : fin x = pairV (finR x) := by
  unfold fin finR; split <;> rfl

theorem finR_out (x : Int) (h : x < -3000000000000000 ∨ 3000000000000000 < x) : finR x = (0, 3) := by
  unfold finR; rw [if_neg (by omega)]

theorem near_bounds (a n d : Int) (h3 : 0 ≤ n) (h5 : 1 ≤ d) (h : ¬ far a n d) : -4000000000000000 ≤ a * n / d ∧ a * n / d ≤ 4000000000000000 := by
  obtain ⟨n, rfl⟩ := Int.eq_ofNat_of_zero_le h3
  obtain ⟨d, rfl⟩ := Int.eq_ofNat_of_zero_le (show 0 ≤ d by omega)
  obtain ⟨k, hk⟩ : ∃ k, k = a.natAbs := ⟨_, rfl⟩
  unfold far at h
  rw [← hk, Int.toNat_natCast, Int.toNat_natCast] at h
  by_cases c2 : 0 ≤ a
  · obtain rfl : a = (k : Int) := by omega
    rw [← Int.natCast_mul, ← Int.natCast_ediv]
    generalize k * n / d = q at *
    omega
  · obtain rfl : a = -(k : Int) := by omega
    obtain ⟨e1, e2⟩ := neg_div (k * n) d (by omega)
    rw [Int.neg_mul, ← Int.natCast_mul, e1]
    generalize k * n / d = q at *
    split <;> omega

theorem rem_bounds (a n d : Int) (h5 : 1 ≤ d) : 0 ≤ a * n % d ∧ a * n % d < d :=
  ⟨Int.emod_nonneg _ (by omega), Int.emod_lt_of_pos _ (by omega)⟩

theorem drawn_gives {v : Value} {w : World} {e : Ending} {w' : World} (h : Drawn v w e w') : Gives v w e w' := by
  obtain ⟨n, rfl, rfl⟩ := h
  exact ⟨rfl, below_draws (Below.refl _ _) n⟩

theorem floor_any (a n d : Int) (w : World) : Calls Try.prog 25 #[.int .i64 a, .int .i64 n, .int .i64 d] w (Gives (pairV (floorR a n d)) w) := by
  have H : Hid (∀ w, Calls Try.prog 31 #[.int .i64 a, .int .i64 n, .int .i64 d, .func (.func 32) #[] #[]] w (Drawn (pairV (floorR a n d)) w)) := by
    show ∀ w, _
    intro w
    by_cases h : rOK a n d
    · rw [floorR, if_pos h]
      obtain ⟨h1, h2, h3, h4, h5, h6⟩ := h
      by_cases hf : far a n d
      · rw [finR_out _ (far_out a n d h3 h5 hf _ (.inl rfl))]
        exact scaled_far a n d _ h1 h2 h3 h4 h5 h6 (fun w => (divide_any a n d h1 h2 h3 h4 h5 h6 w).1 hf) w
      · rw [← fin_pair]
        obtain ⟨b1, b2⟩ := near_bounds a n d h3 h5 hf
        obtain ⟨b3, b4⟩ := rem_bounds a n d h5
        exact scaled_floor a n d _ _ h1 h2 h3 h4 h5 h6 b1 b2 b3 b4 (fun w => (divide_any a n d h1 h2 h3 h4 h5 h6 w).2 hf) w
    · rw [floorR, if_neg h]
      refine (scaled_bad a n d _ (by unfold rOK at h; omega) w).mono ?_
      rintro e w' ⟨rfl, rfl⟩
      exact ⟨0, rfl, rfl⟩
  generalize floorR a n d = R at H ⊢
  obtain ⟨x, er⟩ := R
  go_enter Try.func25, Try.ntmps25
  go_wp2_with (go_at_call 31; refine (H.out _).mono ?_; rintro e w' ⟨m, rfl, rfl⟩; unfold pairV)
  go_ret2
  exact ⟨rfl, below_draws (Below.refl _ _) _⟩

end Go.Proofs.Ytihfafmockaljaa
