/- Layer 6: package group's product, its closure that multiplies, power, isExponent, isSecret. -/
import Derived.RangeFuncBox
import Derived.Lib.ItoaNum
import Derived.Test.YtlimkcodbmafaaaDoorShelf
import Derived.Test.YtlimkcodbmafaaaDoorCon
namespace Go.Proofs.YtlimkcodbmafaaaDoor
open Go.RowKit Go.Sort Go
set_option linter.unusedVariables false
set_option linter.unusedSimpArgs false

/-- The bits of a number, from the left. -/
theorem bit_one (i : Nat) (hi : i < 9223372036854775808) : bits BinOp.and IntKind.i64 (i : Int) 1 = ((i % 2 : Nat) : Int) := by
  have h := bits_mask .i64 63 (by decide) (fun n h0 h1 => by rw [show (2 : Int) ^ 63 = 9223372036854775808 by decide] at h1; rw [IntKind.wrap_i64]; omega) 1 (by decide) (i : Int) (by omega) (by rw [show (2 : Int) ^ 63 = 9223372036854775808 by decide]; omega)
  have e : ((2 : Int) ^ 1 - 1) = 1 := by decide
  rw [e] at h
  rw [h]
  omega
theorem len_end (x : Nat) (hx : x < 2 ^ 64) : x / 2 ^ Lib.bitLen x = 0 := by
  by_cases h : x = 0
  · subst h; simp
  · exact Nat.div_eq_of_lt (Lib.bitLenAux_bounds 64 x hx h).2.2
theorem half_pow (x k : Nat) : x / 2 ^ (k + 1) = x / 2 ^ k / 2 := by rw [Nat.pow_succ, Nat.div_div_eq_div_mul]
theorem pw_twice (m a h : Nat) (e : h % 2 = 0) : pw m a (h / 2) * pw m a (h / 2) % m = pw m a h := by
  rw [← pw_add]; congr 1; omega
theorem pw_twice1 (m a h : Nat) (e : h % 2 = 1) : pw m a (h / 2) * pw m a (h / 2) % m * a % m = pw m a h := by
  rw [← pw_add, ← pw_succ]; congr 1; omega

theorem product_any (a b : Nat) (ha : a < 2147483579) (hb : b < 2147483579) (w : World) :
    Calls Tryd.prog 29 #[.int .i64 a, .int .i64 b] w fun e w' => e = .returned (.int .i64 ((a * b % 2147483579 : Nat) : Int)) ∧ w = w' := by
  have p1 := mul_small (m := 2147483579) (a := a) (b := b) (by omega) (by omega)
  have p2 := mod_nat (a * b) 2147483579
  obtain ⟨s, hs⟩ : ∃ s, a * b = s := ⟨_, rfl⟩
  obtain ⟨t, ht⟩ : ∃ t, s % 2147483579 = t := ⟨_, rfl⟩
  have l2 : t < 2147483579 := by rw [← ht]; exact Nat.mod_lt _ (by omega)
  rw [hs] at p1 p2 ⊢
  rw [ht] at p2 ⊢
  have p3 : Int.tmod (s : Int) 2147483579 = (t : Int) := p2
  clear hs ht p2
  go_enter Tryd.func29, Tryd.ntmps29
  go_wp2_with fail
  go_ret
  exact ⟨rfl, rfl⟩

theorem mult_any (g z a t : Nat) (ht : z * a % 2147483579 = t) (W : World) (hd : Boxed W g 3 (.int .i64 z)) (hz : z < 2147483579) (ha : a < 2147483579) :
    Calls Tryd.prog 37 #[.int .i64 a, .pointer (some ⟨g, 0, none⟩)] W fun e w' => e = .returned (.tuple #[]) ∧ W.setCell ⟨g, 0, none⟩ (.int .i64 (t : Int)) = w' := by
  have d1 := hd.cell
  have d2 := hd.frozen
  have PR := Lib.hid (product_any z a hz ha W)
  rw [ht] at PR
  clear hd ht
  go_enter Tryd.func37, Tryd.ntmps37
  go_wp2_with (go_at_call 29; refine PR.out.mono ?_; rintro e w' ⟨rfl, rfl⟩)
  go_end0
  exact ⟨rfl, rfl⟩

theorem gpower_any (a x : Nat) (ha : 1 ≤ a) (ha2 : a < 2147483579) (hx : x ≤ 4611686018427387904) (w : World) :
    Calls Tryd.prog 30 #[.int .i64 a, .int .i64 x] w (Gives (.int .i64 (pw 2147483579 a x : Int)) w) := by
  obtain ⟨L, hL⟩ : ∃ L, Lib.bitLen x = L := ⟨_, rfl⟩
  have hL2 : L ≤ 63 := by rw [← hL]; exact Lib.bitLen_le x 63 (by omega) (by omega)
  have hL3 : x / 2 ^ L = 0 := by rw [← hL]; exact len_end x (by omega)
  have LN := Lib.hid (fun w => Tryd.bits_Len (x : Int) w (by omega) (by omega))
  rw [Int.toNat_natCast, hL] at LN
  have e0 : IntKind.u64.wrap (x : Int) = (x : Int) := IntWalk.u64_in _ ⟨by omega, by omega⟩
  obtain ⟨r, hr⟩ : ∃ r, pw 2147483579 a x = r := ⟨_, rfl⟩
  have HR := Lib.hid hr
  have H3 := Lib.hid hL3
  rw [hr]
  clear hr hL hL3
  obtain ⟨g, hg⟩ : ∃ g, w.heap.size = g := ⟨_, rfl⟩
  obtain ⟨W, hW⟩ : ∃ W, w.alloc (.cells #[.int .i64 (1 : Int)] 3) = W := ⟨_, rfl⟩
  have BX : Hid (Boxed W g 3 (.int .i64 (1 : Nat))) := by rw [← hW, ← hg]; exact Boxed.new _ _ _
  have BW : Hid (Below g w W) := by rw [← hW, ← hg]; exact (Below.refl _ _).alloc (Nat.le_refl _) _
  go_enter Tryd.func30, Tryd.ntmps30
  go_wp2_with (go_at_call 38; refine (LN.out _).mono ?_; rintro e w' ⟨rfl, rfl⟩)
  go_loopw [7] (fun i wr => ∃ k z : Nat, i = .int .i64 ((k : Int) - 1) ∧ k ≤ 63 ∧ z < 2147483579 ∧ Hid (Boxed wr g 3 (.int .i64 z)) ∧ Hid (Below g w wr) ∧ Hid (z = pw 2147483579 a (x / 2 ^ k))) (fun i _ => (intOf i + 1).toNat)
  case atStart => exact ⟨L, 1, rfl, hL2, by omega, BX, BW, by unfold Hid; rw [H3.out, pw_zero _ (by omega)]⟩
  case round =>
    obtain ⟨k, z, rfl, k1, z1, B1, W1, E⟩ := hrel
    cases k with
    | zero =>
      have e : z = r := by
        have := E.out
        rw [Nat.pow_zero, Nat.div_one, HR.out] at this; exact this
      subst e
      have c1 := B1.out.cell
      go_wp2_with fail
      go_ret
      exact ⟨rfl, by rw [hg]; exact W1.out⟩
    | succ k =>
      obtain ⟨h, hh⟩ : ∃ h, x / 2 ^ k = h := ⟨_, rfl⟩
      have e1 : ((k + 1 : Nat) : Int) - 1 = (k : Int) := by omega
      have E1 : Hid (z = pw 2147483579 a (h / 2)) := by rw [← hh, ← half_pow]; exact E
      have c1 := B1.out.cell
      obtain ⟨t, ht⟩ : ∃ t, z * z % 2147483579 = t := ⟨_, rfl⟩
      have t1 : t < 2147483579 := by rw [← ht]; exact Nat.mod_lt _ (by omega)
      have M1 := Lib.hid (mult_any g z z t ht wr B1.out z1 z1)
      have B2 : Hid (Boxed (wr.setCell ⟨g, 0, none⟩ (.int .i64 (t : Int))) g 3 (.int .i64 t)) := B1.out.set _
      have W2 : Hid (Below g w (wr.setCell ⟨g, 0, none⟩ (.int .i64 (t : Int)))) := W1.out.setCell (by simp) _
      have eb : bits BinOp.and IntKind.i64 ((x : Int) / 2 ^ k) 1 = ((h % 2 : Nat) : Int) := by
        rw [show (x : Int) / 2 ^ k = (h : Int) by rw [← hh]; simp]
        exact bit_one h (by have := Nat.div_le_self x (2 ^ k); omega)
      rw [e1]
      rcases (by omega : h % 2 = 0 ∨ h % 2 = 1) with q | q
      · have E2 : Hid (t = pw 2147483579 a (x / 2 ^ k)) := by rw [hh, ← pw_twice _ _ _ q, ← E1.out]; exact ht.symm
        rw [q] at eb
        clear B1 W1 E ht E1 hh
        go_wp2_with (go_at_call 37; refine M1.out.mono ?_; rintro e w1 ⟨rfl, rfl⟩; clear M1)
        go_roundw
        case rel => exact ⟨k, t, rfl, by omega, t1, B2, W2, E2⟩
        case measure => simp [intOf]
      · obtain ⟨s, hs⟩ : ∃ s, t * a % 2147483579 = s := ⟨_, rfl⟩
        have s1 : s < 2147483579 := by rw [← hs]; exact Nat.mod_lt _ (by omega)
        have E2 : Hid (s = pw 2147483579 a (x / 2 ^ k)) := by rw [hh, ← pw_twice1 _ _ _ q, ← E1.out, ht]; exact hs.symm
        have M2 := Lib.hid (mult_any g t a s hs _ B2.out t1 ha2)
        have B3 : Hid (Boxed ((wr.setCell ⟨g, 0, none⟩ (.int .i64 (t : Int))).setCell ⟨g, 0, none⟩ (.int .i64 (s : Int))) g 3 (.int .i64 s)) := B2.out.set _
        have W3 : Hid (Below g w ((wr.setCell ⟨g, 0, none⟩ (.int .i64 (t : Int))).setCell ⟨g, 0, none⟩ (.int .i64 (s : Int)))) := W2.out.setCell (by simp) _
        rw [q] at eb
        clear B1 W1 E ht E1 hh hs B2 W2
        go_wp2_with (first
          | (go_at_call 37; refine M1.out.mono ?_; rintro e w1 ⟨rfl, rfl⟩; clear M1)
          | (go_at_call 37; refine M2.out.mono ?_; rintro e w1 ⟨rfl, rfl⟩; clear M2))
        go_roundw
        case rel => exact ⟨k, s, rfl, by omega, s1, B3, W3, E2⟩
        case measure => simp [intOf]

theorem gexponent_any (x : Int) (q : Bool) (hq : q = true ↔ ExI x) (h1 : -9223372036854775808 ≤ x) (h2 : x ≤ 9223372036854775807) (w : World) :
    Calls Tryd.prog 32 #[.int .i64 x] w fun e w' => e = .returned (.bool q) ∧ w = w' := by
  have hd : q = decide (0 ≤ x ∧ x < 1073741789) := by rw [Bool.eq_iff_iff, decide_eq_true_iff]; exact hq
  subst hd
  clear hq
  go_enter Tryd.func32, Tryd.ntmps32
  by_cases h : 0 ≤ x
  · go_wp2_with fail
    go_ret
    exact ⟨by simp_all <;> omega, rfl⟩
  · go_wp2_with fail
    go_ret
    exact ⟨by simp_all <;> omega, rfl⟩

theorem gsecret_any (x : Int) (q : Bool) (hq : q = true ↔ SeI x) (h1 : -9223372036854775808 ≤ x) (h2 : x ≤ 9223372036854775807) (w : World) :
    Calls Tryd.prog 33 #[.int .i64 x] w fun e w' => e = .returned (.bool q) ∧ w = w' := by
  have hd : q = decide (1 ≤ x ∧ x < 1073741789) := by rw [Bool.eq_iff_iff, decide_eq_true_iff]; exact hq
  subst hd
  clear hq
  go_enter Tryd.func33, Tryd.ntmps33
  by_cases h : 1 ≤ x
  · go_wp2_with fail
    go_ret
    exact ⟨by simp_all <;> omega, rfl⟩
  · go_wp2_with fail
    go_ret
    exact ⟨by simp_all <;> omega, rfl⟩

/-- Member. -/
theorem gmember_any (a : Int) (q : Bool) (hq : q = true ↔ ElI a) (h1 : -9223372036854775808 ≤ a) (h2 : a ≤ 9223372036854775807) (w : World) :
    Calls Tryd.prog 13 #[.int .i64 a] w (Gives (.bool q) w) := by
  by_cases l : 1 ≤ a
  · by_cases u : a < 2147483579
    · have PW := Lib.hid (gpower_any a.toNat 1073741789 (by omega) (by omega) (by omega) w)
      rw [show ((a.toNat : Nat) : Int) = a by omega] at PW
      have hq2 : q = true ↔ pw 2147483579 a.toNat 1073741789 = 1 := hq.trans ⟨fun h => h.2.2, fun h => ⟨l, u, h⟩⟩
      generalize pw 2147483579 a.toNat 1073741789 = r at PW hq2
      have hd : q = ((r : Int) == 1) := by rw [Bool.eq_iff_iff, hq2]; simp; omega
      subst hd
      clear hq hq2
      go_enter Tryd.func13, Tryd.ntmps13
      go_wp2_with (go_at_call 30; refine PW.out.mono ?_; rintro e w' ⟨rfl, b1⟩; have B1 := Lib.hid b1; clear b1)
      go_ret
      exact ⟨by simp, B1.out⟩
    · have hd : q = false := by
        cases q with
        | false => rfl
        | true => exact absurd (hq.1 rfl).2.1 u
      subst hd
      clear hq
      go_enter Tryd.func13, Tryd.ntmps13
      go_wp2_with fail
      go_ret
      exact ⟨rfl, .refl _ _⟩
  · have hd : q = false := by
      cases q with
      | false => rfl
      | true => exact absurd (hq.1 rfl).1 l
    subst hd
    clear hq
    go_enter Tryd.func13, Tryd.ntmps13
    go_wp2_with fail
    go_ret
    exact ⟨rfl, .refl _ _⟩
end Go.Proofs.YtlimkcodbmafaaaDoor
