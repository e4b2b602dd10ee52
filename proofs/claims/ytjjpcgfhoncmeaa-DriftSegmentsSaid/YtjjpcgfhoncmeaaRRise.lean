/- Layer 7: the reference's Bound, Stretch, rising, band. -/
import Derived.Test.YtjjpcgfhoncmeaaTab
namespace Go.Proofs.Ytjjpcgfhoncmeaa
open Go.RowKit Go
set_option linter.unusedVariables false
set_option linter.unusedSimpArgs false

theorem rbound_any (x : Int) (q : Bool) (hq : q = true ↔ 0 ≤ x ∧ x ≤ 1000000) (h1 : -9223372036854775808 ≤ x) (h2 : x ≤ 9223372036854775807) (w : World) :
    Calls Try.prog 33 #[.int .i64 x] w fun e w' => e = .returned (.bool q) ∧ w = w' := by
  have hd : q = decide (0 ≤ x ∧ x ≤ 1000000) := by rw [Bool.eq_iff_iff, decide_eq_true_iff]; exact hq
  subst hd
  clear hq
  go_enter Try.func33, Try.ntmps33
  by_cases h : 0 ≤ x
  · go_wp2_with fail
    go_ret
    exact ⟨by simp_all <;> omega, rfl⟩
  · go_wp2_with fail
    go_ret
    exact ⟨by simp_all <;> omega, rfl⟩

theorem rstretch_any (x : Int) (q : Bool) (hq : q = true ↔ 0 ≤ x ∧ x ≤ 1000000000000000) (h1 : -9223372036854775808 ≤ x) (h2 : x ≤ 9223372036854775807) (w : World) :
    Calls Try.prog 39 #[.int .i64 x] w fun e w' => e = .returned (.bool q) ∧ w = w' := by
  have hd : q = decide (0 ≤ x ∧ x ≤ 1000000000000000) := by rw [Bool.eq_iff_iff, decide_eq_true_iff]; exact hq
  subst hd
  clear hq
  go_enter Try.func39, Try.ntmps39
  by_cases h : 0 ≤ x
  · go_wp2_with fail
    go_ret
    exact ⟨by simp_all <;> omega, rfl⟩
  · go_wp2_with fail
    go_ret
    exact ⟨by simp_all <;> omega, rfl⟩

theorem rband_any (A : Option Addr) (len cap : Nat) (l : List Int) (n : Int) (hr0 : RisesL l) (w : World) (hr : RowI w.heap.size w A len l) (hl : len ≤ 9223372036854775807) :
    Calls Try.prog 29 #[.slice A len cap, .int .i64 n] w fun e w' => e = .returned (.int .i64 ((cnt l n : Int) - 1)) ∧ w = w' := by
  have HR := Lib.hid hr
  have HI := Lib.hid (fun i hi => cnt_iff hr0 n i hi)
  have hL := hr.1
  have hC := cnt_le l n
  have h8 := hr0.2.2
  clear hr hr0
  go_enter Try.func29, Try.ntmps29
  go_wp2_with fail
  go_loop [5, 6] (fun o i => ∃ k : Nat, ∃ j : Int, k ≤ len ∧ i = .int .i64 k ∧ o = .int .i64 j ∧ Hid (j = ((min k (cnt l n) : Nat) : Int) - 1)) (fun _ i => len - (intOf i).toNat)
  case atStart => exact ⟨0, -1, Nat.zero_le _, rfl, rfl, by unfold Hid; omega⟩
  case round =>
    obtain ⟨k, j, hk, rfl, rfl, J⟩ := hrel
    by_cases hlt : k < len
    · obtain ⟨p, rfl, hx, _, _⟩ := HR.out.at_ k hlt
      have I := HI.out k (by omega)
      generalize l.getD k 0 = x at hx I
      by_cases q : x ≤ n
      · have c1 := Lib.hid (show (k : Int) = ((min (k + 1) (cnt l n) : Nat) : Int) - 1 by have := I.1 q; omega)
        clear I
        go_wp2_with fail
        go_round
        case rel => exact ⟨k + 1, k, by omega, by go_num, rfl, c1⟩
        case measure => simp [intOf]; omega
      · have c1 := Lib.hid (show j = ((min (k + 1) (cnt l n) : Nat) : Int) - 1 by
          have := J.out
          have : ¬ k < cnt l n := fun h => q (I.2 h)
          omega)
        clear I J
        go_wp2_with fail
        go_round
        case rel => exact ⟨k + 1, j, by omega, by go_num, rfl, c1⟩
        case measure => simp [intOf]; omega
    · obtain rfl : k = len := by omega
      have e : j = (cnt l n : Int) - 1 := by have := J.out; omega
      clear J
      go_wp2_with fail
      go_ret
      exact ⟨rfl, rfl⟩

set_option maxHeartbeats 1000000 in
theorem rrising_any (A : Option Addr) (len cap : Nat) (l : List Int) (q : Bool) (hq : q = true ↔ RisesL l) (w : World) (hr : RowI w.heap.size w A len l) (hl : len ≤ 9223372036854775807) :
    Calls Try.prog 32 #[.slice A len cap] w fun e w' => e = .returned (.bool q) ∧ Drew w w' := by
  have HR := Lib.hid hr
  have HQ := Lib.hid hq
  have hL := hr.1
  clear hr hq
  go_enter Try.func32, Try.ntmps32
  go_wp2_with fail
  go_loopw [3] (fun i wr => ∃ k : Nat, k ≤ len ∧ i = .int .i64 k ∧ Hid (∀ i, i < k → StepOk l i) ∧ Drew w wr) (fun i _ => len - (intOf i).toNat)
  case atStart => exact ⟨0, Nat.zero_le _, rfl, fun i hi => absurd hi (by omega), Drew.refl _⟩
  case round =>
    rename_i wr
    obtain ⟨k, hk, rfl, S, hb⟩ := hrel
    by_cases hlt : k < len
    · obtain ⟨p, rfl, hx0, _, _⟩ := HR.out.at_ k hlt
      have hx := hb.cell hx0
      clear hx0
      have NO : ¬ StepOk l k → q = false := fun h => by
        cases hqq : q with
        | false => rfl
        | true => exact absurd ((HQ.out.1 hqq).1 k (by omega)) h
      have YES : StepOk l k → Hid (∀ i, i < k + 1 → StepOk l i) := fun h i hi => by
        by_cases e : i = k
        · subst e; exact h
        · exact S.out i (by omega)
      unfold StepOk at NO YES
      generalize hg : l.getD k 0 = x at hx NO YES
      clear hg
      rcases (by omega : x < -1000000 ∨ 1000000 < x ∨ (-1000000 ≤ x ∧ x ≤ 1000000)) with h | h | ⟨h1, h2⟩
      · have Q := Lib.hid (NO (fun a => by omega))
        clear NO YES
        have d1 : decide (x < -1000000) = true := by simp; omega
        go_wp2_with fail
        go_quiet (fail)
        have hbq : Drew w (World.drewN _ nq) := hb.trans (Drew.n _ _)
        go_wp2_with fail
        go_ret
        exact ⟨by rw [Q.out]; rfl, hbq⟩
      · have Q := Lib.hid (NO (fun a => by omega))
        clear NO YES
        have d1 : decide (x < -1000000) = false := by simp; omega
        have d2 : decide (1000000 < x) = true := by simp; omega
        go_wp2_with fail
        go_quiet (fail)
        have hbq : Drew w (World.drewN _ nq) := hb.trans (Drew.n _ _)
        go_wp2_with fail
        go_ret
        exact ⟨by rw [Q.out]; rfl, hbq⟩
      · have d1 : decide (x < -1000000) = false := by simp; omega
        have d2 : decide (1000000 < x) = false := by simp; omega
        rcases Nat.eq_zero_or_pos k with hk0 | hk0
        · have Y := Lib.hid (YES ⟨h1, h2, fun h => absurd h (by omega)⟩)
          clear NO YES
          have d3 : decide ((0 : Int) < (k : Int)) = false := by simp; omega
          have d4 : decide (0 < k) = false := by simp; omega
          clear hk0
          go_wp2_with fail
          go_quiet (fail)
          have hbq : Drew w (World.drewN _ nq) := hb.trans (Drew.n _ _)
          go_wp2_with fail
          go_roundw
          case rel => exact ⟨k + 1, by omega, by go_num, Y.out, hbq⟩
          case measure => simp [intOf]; omega
        · obtain ⟨m, hm⟩ : ∃ m, k - 1 = m := ⟨_, rfl⟩
          have d3 : decide ((0 : Int) < (k : Int)) = true := by simp; omega
          have d4 : decide (0 < k) = true := by simp; omega
          rw [hm] at NO YES
          have e1 : (k : Int) - 1 = (m : Int) := by omega
          have ml : m < len := by omega
          obtain ⟨p', e', hy0, _, _⟩ := HR.out.at_ m ml
          injection e' with e'
          subst e'
          have hy := hb.cell hy0
          clear hy0
          generalize l.getD m 0 = y at hy NO YES
          clear hm
          by_cases hxy : x ≤ y
          · have Q := Lib.hid (NO (fun a => by have := a.2.2 (by omega); omega))
            clear NO YES
            go_wp2_with fail
            go_quiet (fail)
            have hbq : Drew w (World.drewN _ nq) := hb.trans (Drew.n _ _)
            go_wp2_with fail
            go_ret
            exact ⟨by rw [Q.out]; rfl, hbq⟩
          · have Y := Lib.hid (YES ⟨h1, h2, fun _ => by omega⟩)
            clear NO YES
            have d5 : decide (x ≤ y) = false := by simp; omega
            go_wp2_with fail
            go_quiet (fail)
            have hbq : Drew w (World.drewN _ nq) := hb.trans (Drew.n _ _)
            go_wp2_with fail
            go_roundw
            case rel => exact ⟨k + 1, by omega, by go_num, Y.out, hbq⟩
            case measure => simp [intOf]; omega
    · obtain rfl : k = len := by omega
      have D : q = decide (1 ≤ (k : Int) ∧ (k : Int) ≤ 8) := by
        rw [Bool.eq_iff_iff, HQ.out, decide_eq_true_iff]
        unfold RisesL
        rw [hL]
        exact ⟨fun h => by omega, fun h => ⟨S.out, by omega, by omega⟩⟩
      by_cases g : 1 ≤ (k : Int)
      · have D2 := Lib.hid (show q = decide ((k : Int) ≤ 8) by rw [D, Bool.eq_iff_iff]; simp [g])
        clear D
        go_wp2_with fail
        go_ret
        exact ⟨by rw [D2.out]; rfl, hb⟩
      · have D2 := Lib.hid (show q = false by rw [D]; simp; omega)
        clear D
        go_wp2_with fail
        go_ret
        exact ⟨by rw [D2.out]; rfl, hb⟩
end Go.Proofs.Ytjjpcgfhoncmeaa
