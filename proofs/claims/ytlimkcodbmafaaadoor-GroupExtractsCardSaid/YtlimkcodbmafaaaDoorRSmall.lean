/- Layer 6: the reference's Exponent, Key, Member, Mul, Exp, Over, Rest, Secret, Element, Public. -/
import Derived.Test.YtlimkcodbmafaaaDoorRPow
namespace Go.Proofs.YtlimkcodbmafaaaDoor
open Go.RowKit Go
set_option linter.unusedVariables false
set_option linter.unusedSimpArgs false

/-- An integer is an element; an exponent; a secret. -/
def ElI (a : Int) : Prop := 1 ≤ a ∧ a < 2147483579 ∧ pw 2147483579 a.toNat 1073741789 = 1
def ExI (x : Int) : Prop := 0 ≤ x ∧ x < 1073741789
def SeI (x : Int) : Prop := 1 ≤ x ∧ x < 1073741789
instance (a : Int) : Decidable (ElI a) := by unfold ElI; infer_instance
instance (a : Int) : Decidable (ExI a) := by unfold ExI; infer_instance
instance (a : Int) : Decidable (SeI a) := by unfold SeI; infer_instance
theorem ElI.nat {a : Int} (h : ElI a) : ∃ n : Nat, a = (n : Int) ∧ El n := by
  obtain ⟨h1, h2, h3⟩ := h
  exact ⟨a.toNat, by omega, by omega, by omega, h3⟩
theorem elI_nat {n : Nat} (h : El n) : ElI (n : Int) := ⟨by have := h.1; omega, by have := h.2.1; omega, by rw [Int.toNat_natCast]; exact h.2.2⟩
theorem elI_iff (n : Nat) : ElI (n : Int) ↔ El n := ⟨fun h => by obtain ⟨m, e, hm⟩ := h.nat; obtain rfl : n = m := (by omega); exact hm, elI_nat⟩

theorem rexponent_any (x : Int) (q : Bool) (hq : q = true ↔ ExI x) (h1 : -9223372036854775808 ≤ x) (h2 : x ≤ 9223372036854775807) (w : World) :
    Calls Tryd.prog 27 #[.int .i64 x] w fun e w' => e = .returned (.bool q) ∧ w = w' := by
  have hd : q = decide (0 ≤ x ∧ x < 1073741789) := by rw [Bool.eq_iff_iff, decide_eq_true_iff]; exact hq
  subst hd
  clear hq
  go_enter Tryd.func27, Tryd.ntmps27
  by_cases h : 0 ≤ x
  · go_wp2_with fail
    go_ret
    exact ⟨by simp_all <;> omega, rfl⟩
  · go_wp2_with fail
    go_ret
    exact ⟨by simp_all <;> omega, rfl⟩

theorem rkey_any (x : Int) (q : Bool) (hq : q = true ↔ SeI x) (h1 : -9223372036854775808 ≤ x) (h2 : x ≤ 9223372036854775807) (w : World) :
    Calls Tryd.prog 35 #[.int .i64 x] w fun e w' => e = .returned (.bool q) ∧ w = w' := by
  have hd : q = decide (1 ≤ x ∧ x < 1073741789) := by rw [Bool.eq_iff_iff, decide_eq_true_iff]; exact hq
  subst hd
  clear hq
  go_enter Tryd.func35, Tryd.ntmps35
  by_cases h : 1 ≤ x
  · go_wp2_with fail
    go_ret
    exact ⟨by simp_all <;> omega, rfl⟩
  · go_wp2_with fail
    go_ret
    exact ⟨by simp_all <;> omega, rfl⟩

theorem rpower_p (a : Int) (x : Nat) (h1 : 0 ≤ a) (h2 : a < 2147483579) (hx : x ≤ 4611686018427387904) (w : World) :
    Calls Tryd.prog 31 #[.int .i64 a, .int .i64 x, .int .i64 2147483579] w fun e w' => e = .returned (.int .i64 (pw 2147483579 a.toNat x : Int)) ∧ w = w' := by
  have := rpower_any a.toNat x 2147483579 (by omega) (by omega) (by omega) hx w
  rwa [show ((a.toNat : Nat) : Int) = a by omega] at this

theorem rmember_any (a : Int) (q : Bool) (hq : q = true ↔ ElI a) (h1 : -9223372036854775808 ≤ a) (h2 : a ≤ 9223372036854775807) (w : World) :
    Calls Tryd.prog 14 #[.int .i64 a] w fun e w' => e = .returned (.bool q) ∧ w = w' := by
  by_cases l : 1 ≤ a
  · by_cases u : a < 2147483579
    · have PW := Lib.hid (rpower_p a 1073741789 (by omega) u (by omega) w)
      have hq2 : q = true ↔ pw 2147483579 a.toNat 1073741789 = 1 := hq.trans ⟨fun h => h.2.2, fun h => ⟨l, u, h⟩⟩
      generalize pw 2147483579 a.toNat 1073741789 = r at PW hq2
      have hd : q = ((r : Int) == 1) := by rw [Bool.eq_iff_iff, hq2]; simp; omega
      subst hd
      clear hq hq2
      go_enter Tryd.func14, Tryd.ntmps14
      go_wp2_with (go_at_call 31; refine PW.out.mono ?_; rintro e w' ⟨rfl, rfl⟩)
      go_ret
      exact ⟨by simp, rfl⟩
    · have hd : q = false := by
        cases q with
        | false => rfl
        | true => exact absurd (hq.1 rfl).2.1 u
      subst hd
      clear hq
      go_enter Tryd.func14, Tryd.ntmps14
      go_wp2_with fail
      go_ret
      exact ⟨rfl, rfl⟩
  · have hd : q = false := by
      cases q with
      | false => rfl
      | true => exact absurd (hq.1 rfl).1 l
    subst hd
    clear hq
    go_enter Tryd.func14, Tryd.ntmps14
    go_wp2_with fail
    go_ret
    exact ⟨rfl, rfl⟩

/-- What Mul and Exp return. -/
def mulR (a b : Int) : Int × Int := if ElI a ∧ ElI b then (((a.toNat * b.toNat % 2147483579 : Nat) : Int), 0) else (0, 1)
def expR (a x : Int) : Int × Int := if ElI a ∧ ExI x then ((pw 2147483579 a.toNat x.toNat : Int), 0) else (0, 1)
theorem mulR_el {a b : Nat} (ha : El a) (hb : El b) : mulR a b = (((a * b % 2147483579 : Nat) : Int), 0) := by
  rw [mulR, if_pos ⟨elI_nat ha, elI_nat hb⟩, Int.toNat_natCast, Int.toNat_natCast]
theorem expR_el {a : Nat} (ha : El a) (x : Nat) (hx : x < 1073741789) : expR a x = ((pw 2147483579 a x : Int), 0) := by
  rw [expR, if_pos ⟨elI_nat ha, by unfold ExI; omega⟩, Int.toNat_natCast, Int.toNat_natCast]

theorem rmul_any (a b : Int) (h1 : -9223372036854775808 ≤ a) (h2 : a ≤ 9223372036854775807) (h3 : -9223372036854775808 ≤ b) (h4 : b ≤ 9223372036854775807) (w : World) :
    Calls Tryd.prog 12 #[.int .i64 a, .int .i64 b] w (Gives (.tuple #[.int .i64 (mulR a b).1, .int .i64 (mulR a b).2]) w) := by
  by_cases ha : ElI a
  · have MA := Lib.hid (rmember_any a true (by simp [ha]) h1 h2)
    by_cases hb : ElI b
    · have MB := Lib.hid (rmember_any b true (by simp [hb]) h3 h4)
      obtain ⟨n, rfl, hn⟩ := ha.nat
      obtain ⟨k, rfl, hk⟩ := hb.nat
      rw [mulR_el hn hk]
      have p1 := mul_small (m := 2147483579) (a := n) (b := k) (by have := hn.2.1; omega) (by have := hk.2.1; omega)
      have p2 := mod_nat (n * k) 2147483579
      have l2 : n * k % 2147483579 < 2147483579 := Nat.mod_lt _ (by omega)
      obtain ⟨s, hs⟩ : ∃ s, n * k = s := ⟨_, rfl⟩
      obtain ⟨t, ht⟩ : ∃ t, s % 2147483579 = t := ⟨_, rfl⟩
      rw [hs] at p1 p2 l2 ⊢
      rw [ht] at p2 l2 ⊢
      have p3 : Int.tmod (s : Int) 2147483579 = (t : Int) := p2
      clear hs ht hn hk ha hb p2
      go_enter Tryd.func12, Tryd.ntmps12
      go_wp2_with (first
        | (go_at_call 14; refine (MA.out _).mono ?_; rintro e w' ⟨rfl, rfl⟩; clear MA)
        | (go_at_call 14; refine (MB.out _).mono ?_; rintro e w' ⟨rfl, rfl⟩; clear MB))
      go_ret2
      exact ⟨rfl, .refl _ _⟩
    · have MB := Lib.hid (rmember_any b false (by simp [hb]) h3 h4)
      have e : mulR a b = (0, 1) := if_neg (fun h => hb h.2)
      rw [e]
      clear e ha hb
      go_enter Tryd.func12, Tryd.ntmps12
      go_wp2_with (first
        | (go_at_call 14; refine (MA.out _).mono ?_; rintro e w' ⟨rfl, rfl⟩; clear MA)
        | (go_at_call 14; refine (MB.out _).mono ?_; rintro e w' ⟨rfl, rfl⟩; clear MB))
      go_ret2
      exact ⟨rfl, .refl _ _⟩
  · have MA := Lib.hid (rmember_any a false (by simp [ha]) h1 h2)
    have e : mulR a b = (0, 1) := if_neg (fun h => ha h.1)
    rw [e]
    clear e ha
    go_enter Tryd.func12, Tryd.ntmps12
    go_wp2_with (go_at_call 14; refine (MA.out _).mono ?_; rintro e w' ⟨rfl, rfl⟩)
    go_ret2
    exact ⟨rfl, .refl _ _⟩

theorem rexp_any (a x : Int) (h1 : -9223372036854775808 ≤ a) (h2 : a ≤ 9223372036854775807) (h3 : -9223372036854775808 ≤ x) (h4 : x ≤ 9223372036854775807) (w : World) :
    Calls Tryd.prog 16 #[.int .i64 a, .int .i64 x] w (Gives (.tuple #[.int .i64 (expR a x).1, .int .i64 (expR a x).2]) w) := by
  by_cases ha : ElI a
  · have MA := Lib.hid (rmember_any a true (by simp [ha]) h1 h2)
    by_cases hb : ExI x
    · have MB := Lib.hid (rexponent_any x true (by simp [hb]) h3 h4)
      have e : expR a x = ((pw 2147483579 a.toNat x.toNat : Int), 0) := if_pos ⟨ha, hb⟩
      rw [e]
      have PW := Lib.hid (rpower_p a x.toNat (by have := ha.1; omega) ha.2.1 (by have := hb.2; omega))
      rw [show ((x.toNat : Nat) : Int) = x by have := hb.1; omega] at PW
      generalize pw 2147483579 a.toNat x.toNat = r at PW
      clear e ha hb
      go_enter Tryd.func16, Tryd.ntmps16
      go_wp2_with (first
        | (go_at_call 14; refine (MA.out _).mono ?_; rintro e w' ⟨rfl, rfl⟩)
        | (go_at_call 27; refine (MB.out _).mono ?_; rintro e w' ⟨rfl, rfl⟩)
        | (go_at_call 31; refine (PW.out _).mono ?_; rintro e w' ⟨rfl, rfl⟩))
      go_ret2
      exact ⟨rfl, .refl _ _⟩
    · have MB := Lib.hid (rexponent_any x false (by simp [hb]) h3 h4)
      have e : expR a x = (0, 1) := if_neg (fun h => hb h.2)
      rw [e]
      clear e ha hb
      go_enter Tryd.func16, Tryd.ntmps16
      go_wp2_with (first
        | (go_at_call 14; refine (MA.out _).mono ?_; rintro e w' ⟨rfl, rfl⟩)
        | (go_at_call 27; refine (MB.out _).mono ?_; rintro e w' ⟨rfl, rfl⟩))
      go_ret2
      exact ⟨rfl, .refl _ _⟩
  · have MA := Lib.hid (rmember_any a false (by simp [ha]) h1 h2)
    have e : expR a x = (0, 1) := if_neg (fun h => ha h.1)
    rw [e]
    clear e ha
    go_enter Tryd.func16, Tryd.ntmps16
    go_wp2_with (go_at_call 14; refine (MA.out _).mono ?_; rintro e w' ⟨rfl, rfl⟩)
    go_ret2
    exact ⟨rfl, .refl _ _⟩

/-- An integer modulo Q, from 0 on. -/
def restN (n : Int) : Nat := (n % 1073741789).toNat
theorem restN_lt (n : Int) : restN n < 1073741789 := by unfold restN; omega
theorem restN_eq (n : Int) : (restN n : Int) = n % 1073741789 := by unfold restN; omega
theorem rrest_any (n : Int) (h1 : -9223372036854775808 ≤ n) (h2 : n ≤ 9223372036854775807) (w : World) :
    Calls Tryd.prog 24 #[.int .i64 n] w fun e w' => e = .returned (.int .i64 (restN n : Int)) ∧ w = w' := by
  obtain ⟨t, ht⟩ : ∃ t, Int.tmod n 1073741789 = t := ⟨_, rfl⟩
  have b : -1073741789 < t ∧ t < 1073741789 ∧ (t + 1073741789) % 1073741789 = n % 1073741789 := by
    rcases Int.le_total 0 n with q | q
    · rw [Int.tmod_eq_emod_of_nonneg q] at ht; omega
    · have e : Int.tmod (-n) 1073741789 = -(Int.tmod n 1073741789) := Int.neg_tmod n 1073741789
      rw [Int.tmod_eq_emod_of_nonneg (by omega)] at e; omega
  have e1 : Int.tmod (t + 1073741789) 1073741789 = (restN n : Int) := by
    rw [Int.tmod_eq_emod_of_nonneg (by omega), b.2.2]; unfold restN; omega
  obtain ⟨b1, b2, _⟩ := b
  go_enter Tryd.func24, Tryd.ntmps24
  go_wp2_with fail
  go_ret
  exact ⟨rfl, rfl⟩

theorem rsecret_any (n : Int) (h1 : 0 ≤ n) (h2 : n ≤ 18446744073709551615) (w : World) :
    Calls Tryd.prog 22 #[.int .u64 n] w fun e w' => e = .returned (.int .i64 (1 + n % 1073741788)) ∧ w = w' := by
  obtain ⟨t, ht⟩ : ∃ t, n % 1073741788 = t := ⟨_, rfl⟩
  have e1 : Int.tmod n 1073741788 = t := by rw [Int.tmod_eq_emod_of_nonneg h1]; exact ht
  have b : 0 ≤ t ∧ t < 1073741788 := by omega
  rw [ht]
  clear ht
  go_enter Tryd.func22, Tryd.ntmps22
  go_wp2_with fail
  go_ret
  exact ⟨rfl, rfl⟩

theorem rpublic_any (k : Nat) (hk : k < 1073741789) (w : World) :
    Calls Tryd.prog 23 #[.int .i64 k] w fun e w' => e = .returned (.int .i64 (pw 2147483579 4 k : Int)) ∧ w = w' := by
  have PW := Lib.hid (rpower_p 4 k (by omega) (by omega) (by omega) w)
  rw [show (4 : Int).toNat = 4 from rfl] at PW
  generalize pw 2147483579 4 k = r at PW
  go_enter Tryd.func23, Tryd.ntmps23
  go_wp2_with (go_at_call 31; refine PW.out.mono ?_; rintro e w' ⟨rfl, rfl⟩)
  go_ret
  exact ⟨rfl, rfl⟩

theorem relement_any (n : Int) (h1 : 0 ≤ n) (h2 : n ≤ 18446744073709551615) (w : World) :
    Calls Tryd.prog 21 #[.int .u64 n] w fun e w' => e = .returned (.int .i64 (pw 2147483579 4 (n % 1073741789).toNat : Int)) ∧ w = w' := by
  obtain ⟨t, ht⟩ : ∃ t, (n % 1073741789).toNat = t := ⟨_, rfl⟩
  have e1 : Int.tmod n 1073741789 = (t : Int) := by rw [Int.tmod_eq_emod_of_nonneg h1]; omega
  have b : t < 1073741789 := by omega
  rw [ht]
  clear ht
  have PW := Lib.hid (rpower_p 4 t (by omega) (by omega) (by omega) w)
  rw [show (4 : Int).toNat = 4 from rfl] at PW
  generalize pw 2147483579 4 t = r at PW
  go_enter Tryd.func21, Tryd.ntmps21
  go_wp2_with (go_at_call 31; refine PW.out.mono ?_; rintro e w' ⟨rfl, rfl⟩)
  go_ret
  exact ⟨rfl, rfl⟩

/-- s / t modulo Q. -/
theorem rover_any (s t : Nat) (hs : s < 1073741789) (ht : t < 1073741789) (w : World) :
    Calls Tryd.prog 28 #[.int .i64 s, .int .i64 t] w fun e w' => e = .returned (.int .i64 ((s * pw 1073741789 t 1073741787 % 1073741789 : Nat) : Int)) ∧ w = w' := by
  have PW := Lib.hid (rpower_any t 1073741787 1073741789 (by omega) (by omega) ht (by omega))
  have lr := pw_lt (m := 1073741789) t 1073741787 (by omega)
  generalize pw 1073741789 t 1073741787 = r at PW lr ⊢
  have p1 := mul_small (m := 1073741789) (a := s) (b := r) (by omega) (by omega)
  have p2 := mod_nat (s * r) 1073741789
  obtain ⟨u, hu⟩ : ∃ u, s * r = u := ⟨_, rfl⟩
  rw [hu] at p1 p2 ⊢
  have p3 : Int.tmod (u : Int) 1073741789 = ((u % 1073741789 : Nat) : Int) := p2
  generalize u % 1073741789 = v at p3 ⊢
  clear p2 hu
  go_enter Tryd.func28, Tryd.ntmps28
  go_wp2_with (go_at_call 31; refine (PW.out _).mono ?_; rintro e w' ⟨rfl, rfl⟩)
  go_ret
  exact ⟨rfl, rfl⟩
end Go.Proofs.YtlimkcodbmafaaaDoor
