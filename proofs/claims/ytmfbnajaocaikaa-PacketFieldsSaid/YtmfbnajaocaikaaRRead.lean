/- Layer 4: the reference's Read. -/
import Derived.Test.YtmfbnajaocaikaaRPut
namespace Go.Proofs.Ytmfbnajaocaikaa
open Go.RowKit Go.Sort Go
set_option linter.unusedVariables false

def RReadEnd (n : Nat) (o : Option (Int × List UInt8)) (w : World) (e : Ending) (w' : World) : Prop :=
  w = w' ∧ match o with
    | some (x, r) => e = .returned (.tuple #[.int .i64 x, .int .i64 ((n - r.length : Nat) : Int), .bool true]) ∧ r.length ≤ n
    | none => e = .returned (.tuple #[.int .i64 0, .int .i64 0, .bool false])

theorem rdigit {a k z c : Nat} (hk : k ≤ 9) (ha : a < 128 ^ k) (hz : z = 128 ^ k) (hc : c < 256) (h9 : k = 9 → c ≤ 1) :
    ∃ D a2 : Nat, IntKind.u64.wrap ((c : Int) % 128 * (z : Int)) = (D : Int) ∧ IntKind.u64.wrap ((a : Int) + (D : Int)) = (a2 : Int) ∧ a2 < 18446744073709551616 ∧ a2 = a + c % 128 * 128 ^ k := by
  obtain ⟨h1, h2, h3⟩ := digit_more (d := c % 128) hk ha (by omega) (fun h => by have := h9 h; omega)
  rw [← hz] at h2 h3
  refine ⟨c % 128 * z, a + c % 128 * z, ?_, ?_, h2, by rw [hz]⟩
  · have e5 : (c : Int) % 128 * (z : Int) = ((c % 128 * z : Nat) : Int) := by rw [Int.natCast_mul]; rfl
    rw [e5]
    exact IntWalk.u64_in _ (by omega)
  · have e5 : (a : Int) + ((c % 128 * z : Nat) : Int) = ((a + c % 128 * z : Nat) : Int) := by omega
    rw [e5]
    exact IntWalk.u64_in _ (by omega)
theorem rsize {k z : Nat} (hk : k ≤ 9) (hz : z = 128 ^ k) : ∃ z2 : Nat, IntKind.u64.wrap ((z : Int) * 128) = (z2 : Int) ∧ (k ≠ 9 → z2 = 128 ^ (k + 1)) := by
  refine ⟨(IntKind.u64.wrap ((z : Int) * 128)).toNat, ?_, fun h => ?_⟩
  · rw [IntKind.wrap_u64]; omega
  · have h1 : 128 ^ (k + 1) ≤ 128 ^ 9 := Nat.pow_le_pow_right (by omega) (by omega)
    have h3 : (128 : Nat) ^ 9 = 9223372036854775808 := by decide
    rw [Nat.pow_succ, ← hz] at h1 ⊢
    rw [h3] at h1
    rw [IntKind.wrap_u64]; omega
theorem unnum_odd {n : Nat} (h : n % 2 = 1) : unnum n = -1 - (n : Int) / 2 := by unfold unnum; rw [if_pos h]; omega
theorem unnum_even {n : Nat} (h : ¬ n % 2 = 1) : unnum n = (n : Int) / 2 := by unfold unnum; rw [if_neg h]; omega

set_option maxRecDepth 100000 in
set_option maxHeartbeats 4000000 in
theorem rread_any (A : Option Addr) (n cap at_ : Nat) (bs : List UInt8) (w : World) (hr : Row8 w.heap.size w A n bs) (hn : n ≤ 1000000000) (ha : at_ ≤ n) :
    Calls Try.prog 46 #[.slice A n cap, .int .i64 at_] w (RReadEnd n (readI (bs.drop at_)) w) := by
  have HR := Lib.hid hr
  have hbl := Lib.hid hr.1
  clear hr
  go_enter Try.func46, Try.ntmps46
  go_wp2_with fail
  go_loop [7, 8, 9] (fun u s i => ∃ k a z : Nat, k ≤ 9 ∧ i = .int .i64 k ∧ u = .int .u64 a ∧ s = .int .u64 z ∧ Hid (z = 128 ^ k) ∧ Hid (a < 128 ^ k) ∧ at_ + k ≤ n ∧ Hid (readN 0 (bs.drop at_) = (readN k (bs.drop (at_ + k))).map fun p => (a + 128 ^ k * p.1, p.2))) (fun _ _ i => 100 - (intOf i).toNat)
  case atStart => exact ⟨0, 0, 1, by omega, rfl, rfl, rfl, (by show 1 = 128 ^ 0; decide), (by show 0 < 128 ^ 0; decide), ha, (by show _ = _; simp)⟩
  case round =>
    obtain ⟨k, a, z, hk, rfl, rfl, rfl, HZ, HA, hak, HE⟩ := hrel
    obtain ⟨q, hq⟩ : ∃ q : Nat, q = at_ + k := ⟨_, rfl⟩
    rw [← hq] at HE hak
    have HQ := Lib.hid hq
    have e0 : IntKind.i64.wrap ((at_ : Int) + (k : Int)) = (q : Int) := by rw [IntWalk.i64_in _ (by omega)]; omega
    clear hq
    have f0 : decide ((k : Int) < 10) = true := by rw [decide_eq_true_eq]; omega
    by_cases hlt : q < n
    · have g1 : decide ((n : Int) ≤ (q : Int)) = false := by rw [decide_eq_false_iff_not]; omega
      obtain ⟨p, rfl, hpb, hcell⟩ := HR.out.2 (by omega)
      have hx : w.cell? (p.add q) = some (.int .u8 ((bs.getD q 0).toNat : Int)) := hcell q hlt
      generalize hc0 : (bs.getD q 0) = c0 at hx
      have hdrop := drop_cons bs 0 q (by rw [hbl.out]; exact hlt)
      rw [hc0] at hdrop
      have HDR := Lib.hid hdrop
      have hc256 := u8_lt c0
      clear hcell hdrop hc0 hpb
      generalize hc1 : c0.toNat = c at hx hc256
      have HC1 := Lib.hid hc1
      clear hc1
      have e1 : IntKind.u64.wrap (c : Int) = (c : Int) := by rw [IntKind.wrap_u64]; omega
      have e10 : IntKind.i64.wrap ((q : Int) + 1) = (q : Int) + 1 := IntWalk.i64_in _ (by omega)
      obtain ⟨z2, e6, hz2⟩ := rsize hk HZ.out
      have HZ2 := Lib.hid hz2
      clear hz2
      by_cases q9 : k = 9
      · by_cases q1 : 1 < c
        · have f1 : (((k : Int) : Int) == 9) = true := by rw [beq_iff_eq]; omega
          have f2 : decide ((1 : Int) < (c : Int)) = true := by rw [decide_eq_true_eq]; omega
          have f22 : decide (1 < c) = true := by rw [decide_eq_true_eq]; omega
          have HN : Hid (readI (bs.drop at_) = none) := read_none HE.out HDR.out (by rw [HC1.out]; omega)
          clear q9 q1
          go_wp2_with fail
          go_ret3
          rw [HN.out]
          exact ⟨rfl, rfl⟩
        · by_cases q0 : c = 0
          · have f1 : (((k : Int) : Int) == 9) = true := by rw [beq_iff_eq]; omega
            have f2 : decide ((1 : Int) < (c : Int)) = false := by rw [decide_eq_false_iff_not]; omega
            have f22 : decide (1 < c) = false := by rw [decide_eq_false_iff_not]; omega
            have f5 : decide ((0 : Int) < (k : Int)) = true := by rw [decide_eq_true_eq]; omega
            have f55 : decide (0 < k) = true := by rw [decide_eq_true_eq]; omega
            have f4 : (((c : Int) : Int) == 0) = true := by rw [beq_iff_eq]; omega
            have HN : Hid (readI (bs.drop at_) = none) := read_none HE.out HDR.out (by rw [HC1.out]; omega)
            clear q9 q1 q0
            go_wp2_with fail
            go_ret3
            rw [HN.out]
            exact ⟨rfl, rfl⟩
          · have f1 : (((k : Int) : Int) == 9) = true := by rw [beq_iff_eq]; omega
            have f2 : decide ((1 : Int) < (c : Int)) = false := by rw [decide_eq_false_iff_not]; omega
            have f22 : decide (1 < c) = false := by rw [decide_eq_false_iff_not]; omega
            have f5 : decide ((0 : Int) < (k : Int)) = true := by rw [decide_eq_true_eq]; omega
            have f55 : decide (0 < k) = true := by rw [decide_eq_true_eq]; omega
            have f4 : (((c : Int) : Int) == 0) = false := by rw [beq_eq_false_iff_ne]; omega
            obtain ⟨D, a2, e2, e3, h2, ha2⟩ := rdigit hk HA.out HZ.out hc256 (by omega)
            have HA2 := Lib.hid ha2
            clear ha2
            have f3 : decide ((c : Int) < 128) = true := by rw [decide_eq_true_eq]; omega
            have f33 : decide (c < 128) = true := by rw [decide_eq_true_eq]; omega
            have HN : Hid (readI (bs.drop at_) = some (unnum a2, bs.drop (q + 1))) := read_some HE.out HDR.out (by rw [HC1.out]; omega) (by rw [HC1.out, HA2.out, Nat.mod_eq_of_lt (show c < 128 by omega), Nat.mul_comm])
            have HF : Hid (((n - (bs.drop (q + 1)).length : Nat) : Int) = (q : Int) + 1 ∧ (bs.drop (q + 1)).length ≤ n) := by
              have h := hbl.out
              constructor
              · rw [List.length_drop]; omega
              · rw [List.length_drop]; omega
            have e7 : IntKind.i64.wrap ((a2 : Int) / 2) = (a2 : Int) / 2 := IntWalk.i64_in _ (by omega)
            have e9 : IntKind.i64.wrap (-1 - (a2 : Int) / 2) = -1 - (a2 : Int) / 2 := IntWalk.i64_in _ (by omega)
            clear q9 q1 q0
            by_cases hodd : a2 % 2 = 1
            · have HU := Lib.hid (unnum_odd hodd)
              have f8 : (((a2 : Int) % 2 : Int) == 1) = true := by rw [beq_iff_eq]; omega
              clear hodd
              go_wp2_with fail
              go_ret3
              rw [HN.out]
              refine ⟨rfl, ?_, HF.out.2⟩
              rw [HU.out, HF.out.1]
              rfl
            · have HU := Lib.hid (unnum_even hodd)
              have f8 : (((a2 : Int) % 2 : Int) == 1) = false := by rw [beq_eq_false_iff_ne]; omega
              clear hodd
              go_wp2_with fail
              go_ret3
              rw [HN.out]
              refine ⟨rfl, ?_, HF.out.2⟩
              rw [HU.out, HF.out.1]
              rfl
      · by_cases qb : 128 ≤ c
        · by_cases qk : 0 < k
          · have f1 : (((k : Int) : Int) == 9) = false := by rw [beq_eq_false_iff_ne]; omega
            have f5 : decide ((0 : Int) < (k : Int)) = true := by rw [decide_eq_true_eq]; omega
            have f55 : decide (0 < k) = true := by rw [decide_eq_true_eq]; omega
            have f4 : (((c : Int) : Int) == 0) = false := by rw [beq_eq_false_iff_ne]; omega
            obtain ⟨D, a2, e2, e3, h2, ha2⟩ := rdigit hk HA.out HZ.out hc256 (by omega)
            have HA2 := Lib.hid ha2
            clear ha2
            have f3 : decide ((c : Int) < 128) = false := by rw [decide_eq_false_iff_not]; omega
            have f33 : decide (c < 128) = false := by rw [decide_eq_false_iff_not]; omega
            have QB : Hid (128 ≤ c) := qb
            have hq9 : k ≠ 9 := q9
            have hK : k + 1 ≤ 9 ∧ q + 1 ≤ n := by omega
            clear q9 qb qk
            have HX : Hid (a2 < 128 ^ (k + 1)) := by
              have h1 := HA.out
              have h3 : c % 128 * 128 ^ k ≤ 127 * 128 ^ k := Nat.mul_le_mul_right _ (by omega)
              show a2 < 128 ^ (k + 1)
              rw [HA2.out, Nat.pow_succ]; omega
            have HE1 := HE.out
            rw [HQ.out] at HE1
            have HD1 := HDR.out
            rw [HQ.out] at HD1
            have HE2 : Hid (readN 0 (bs.drop at_) = (readN (k + 1) (bs.drop (at_ + (k + 1)))).map fun p => (a2 + 128 ^ (k + 1) * p.1, p.2)) := read_more HE1 HD1 hq9 (by rw [HC1.out]; exact QB.out) (by rw [HC1.out, HA2.out, show c % 128 = c - 128 by have := QB.out; omega, Nat.mul_comm])
            clear HE1 HD1
            have HZ3 := Lib.hid (HZ2.out hq9)
            have HK2 : Hid (at_ + (k + 1) ≤ n) := by show _ ≤ _; have := HQ.out; omega
            clear hq9
            go_wp2_with fail
            go_round
            case rel => exact ⟨k + 1, a2, z2, hK.1, by go_num, rfl, rfl, HZ3, HX, HK2.out, HE2⟩
            case measure => simp [intOf]; omega
          · have f1 : (((k : Int) : Int) == 9) = false := by rw [beq_eq_false_iff_ne]; omega
            have f5 : decide ((0 : Int) < (k : Int)) = false := by rw [decide_eq_false_iff_not]; omega
            have f55 : decide (0 < k) = false := by rw [decide_eq_false_iff_not]; omega
            have f4 : (((c : Int) : Int) == 0) = false := by rw [beq_eq_false_iff_ne]; omega
            obtain ⟨D, a2, e2, e3, h2, ha2⟩ := rdigit hk HA.out HZ.out hc256 (by omega)
            have HA2 := Lib.hid ha2
            clear ha2
            have f3 : decide ((c : Int) < 128) = false := by rw [decide_eq_false_iff_not]; omega
            have f33 : decide (c < 128) = false := by rw [decide_eq_false_iff_not]; omega
            have QB : Hid (128 ≤ c) := qb
            have hq9 : k ≠ 9 := q9
            have hK : k + 1 ≤ 9 ∧ q + 1 ≤ n := by omega
            clear q9 qb qk
            have HX : Hid (a2 < 128 ^ (k + 1)) := by
              have h1 := HA.out
              have h3 : c % 128 * 128 ^ k ≤ 127 * 128 ^ k := Nat.mul_le_mul_right _ (by omega)
              show a2 < 128 ^ (k + 1)
              rw [HA2.out, Nat.pow_succ]; omega
            have HE1 := HE.out
            rw [HQ.out] at HE1
            have HD1 := HDR.out
            rw [HQ.out] at HD1
            have HE2 : Hid (readN 0 (bs.drop at_) = (readN (k + 1) (bs.drop (at_ + (k + 1)))).map fun p => (a2 + 128 ^ (k + 1) * p.1, p.2)) := read_more HE1 HD1 hq9 (by rw [HC1.out]; exact QB.out) (by rw [HC1.out, HA2.out, show c % 128 = c - 128 by have := QB.out; omega, Nat.mul_comm])
            clear HE1 HD1
            have HZ3 := Lib.hid (HZ2.out hq9)
            have HK2 : Hid (at_ + (k + 1) ≤ n) := by show _ ≤ _; have := HQ.out; omega
            clear hq9
            go_wp2_with fail
            go_round
            case rel => exact ⟨k + 1, a2, z2, hK.1, by go_num, rfl, rfl, HZ3, HX, HK2.out, HE2⟩
            case measure => simp [intOf]; omega
        · by_cases qk : 0 < k
          · by_cases q0 : c = 0
            · have f1 : (((k : Int) : Int) == 9) = false := by rw [beq_eq_false_iff_ne]; omega
              have f5 : decide ((0 : Int) < (k : Int)) = true := by rw [decide_eq_true_eq]; omega
              have f55 : decide (0 < k) = true := by rw [decide_eq_true_eq]; omega
              have f4 : (((c : Int) : Int) == 0) = true := by rw [beq_iff_eq]; omega
              have HN : Hid (readI (bs.drop at_) = none) := read_none HE.out HDR.out (by rw [HC1.out]; omega)
              clear q9 qb q0 qk
              go_wp2_with fail
              go_ret3
              rw [HN.out]
              exact ⟨rfl, rfl⟩
            · have f1 : (((k : Int) : Int) == 9) = false := by rw [beq_eq_false_iff_ne]; omega
              have f5 : decide ((0 : Int) < (k : Int)) = true := by rw [decide_eq_true_eq]; omega
              have f55 : decide (0 < k) = true := by rw [decide_eq_true_eq]; omega
              have f4 : (((c : Int) : Int) == 0) = false := by rw [beq_eq_false_iff_ne]; omega
              obtain ⟨D, a2, e2, e3, h2, ha2⟩ := rdigit hk HA.out HZ.out hc256 (by omega)
              have HA2 := Lib.hid ha2
              clear ha2
              have f3 : decide ((c : Int) < 128) = true := by rw [decide_eq_true_eq]; omega
              have f33 : decide (c < 128) = true := by rw [decide_eq_true_eq]; omega
              have HN : Hid (readI (bs.drop at_) = some (unnum a2, bs.drop (q + 1))) := read_some HE.out HDR.out (by rw [HC1.out]; omega) (by rw [HC1.out, HA2.out, Nat.mod_eq_of_lt (show c < 128 by omega), Nat.mul_comm])
              have HF : Hid (((n - (bs.drop (q + 1)).length : Nat) : Int) = (q : Int) + 1 ∧ (bs.drop (q + 1)).length ≤ n) := by
                have h := hbl.out
                constructor
                · rw [List.length_drop]; omega
                · rw [List.length_drop]; omega
              have e7 : IntKind.i64.wrap ((a2 : Int) / 2) = (a2 : Int) / 2 := IntWalk.i64_in _ (by omega)
              have e9 : IntKind.i64.wrap (-1 - (a2 : Int) / 2) = -1 - (a2 : Int) / 2 := IntWalk.i64_in _ (by omega)
              clear q9 qb q0 qk
              by_cases hodd : a2 % 2 = 1
              · have HU := Lib.hid (unnum_odd hodd)
                have f8 : (((a2 : Int) % 2 : Int) == 1) = true := by rw [beq_iff_eq]; omega
                clear hodd
                go_wp2_with fail
                go_ret3
                rw [HN.out]
                refine ⟨rfl, ?_, HF.out.2⟩
                rw [HU.out, HF.out.1]
                rfl
              · have HU := Lib.hid (unnum_even hodd)
                have f8 : (((a2 : Int) % 2 : Int) == 1) = false := by rw [beq_eq_false_iff_ne]; omega
                clear hodd
                go_wp2_with fail
                go_ret3
                rw [HN.out]
                refine ⟨rfl, ?_, HF.out.2⟩
                rw [HU.out, HF.out.1]
                rfl
          · have f1 : (((k : Int) : Int) == 9) = false := by rw [beq_eq_false_iff_ne]; omega
            have f5 : decide ((0 : Int) < (k : Int)) = false := by rw [decide_eq_false_iff_not]; omega
            have f55 : decide (0 < k) = false := by rw [decide_eq_false_iff_not]; omega
            obtain ⟨D, a2, e2, e3, h2, ha2⟩ := rdigit hk HA.out HZ.out hc256 (by omega)
            have HA2 := Lib.hid ha2
            clear ha2
            have f3 : decide ((c : Int) < 128) = true := by rw [decide_eq_true_eq]; omega
            have f33 : decide (c < 128) = true := by rw [decide_eq_true_eq]; omega
            have HN : Hid (readI (bs.drop at_) = some (unnum a2, bs.drop (q + 1))) := read_some HE.out HDR.out (by rw [HC1.out]; omega) (by rw [HC1.out, HA2.out, Nat.mod_eq_of_lt (show c < 128 by omega), Nat.mul_comm])
            have HF : Hid (((n - (bs.drop (q + 1)).length : Nat) : Int) = (q : Int) + 1 ∧ (bs.drop (q + 1)).length ≤ n) := by
              have h := hbl.out
              constructor
              · rw [List.length_drop]; omega
              · rw [List.length_drop]; omega
            have e7 : IntKind.i64.wrap ((a2 : Int) / 2) = (a2 : Int) / 2 := IntWalk.i64_in _ (by omega)
            have e9 : IntKind.i64.wrap (-1 - (a2 : Int) / 2) = -1 - (a2 : Int) / 2 := IntWalk.i64_in _ (by omega)
            clear q9 qb qk
            by_cases hodd : a2 % 2 = 1
            · have HU := Lib.hid (unnum_odd hodd)
              have f8 : (((a2 : Int) % 2 : Int) == 1) = true := by rw [beq_iff_eq]; omega
              clear hodd
              go_wp2_with fail
              go_ret3
              rw [HN.out]
              refine ⟨rfl, ?_, HF.out.2⟩
              rw [HU.out, HF.out.1]
              rfl
            · have HU := Lib.hid (unnum_even hodd)
              have f8 : (((a2 : Int) % 2 : Int) == 1) = false := by rw [beq_eq_false_iff_ne]; omega
              clear hodd
              go_wp2_with fail
              go_ret3
              rw [HN.out]
              refine ⟨rfl, ?_, HF.out.2⟩
              rw [HU.out, HF.out.1]
              rfl
    · obtain rfl : q = n := by omega
      have g1 : decide ((q : Int) ≤ (q : Int)) = true := by simp
      have HN : Hid (readI (bs.drop at_) = none) := by
        have h1 : bs.drop q = [] := List.drop_of_length_le (by rw [hbl.out]; exact Nat.le_refl _)
        have := HE.out
        rw [h1] at this
        show readI _ = none
        rw [readI, this]; rfl
      go_wp2_with fail
      go_ret3
      rw [HN.out]
      exact ⟨rfl, rfl⟩
end Go.Proofs.Ytmfbnajaocaikaa
