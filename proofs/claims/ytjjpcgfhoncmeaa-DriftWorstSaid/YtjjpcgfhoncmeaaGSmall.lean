/- Layer 7: package drift's isRate, isStretch, validRange, validSegment, validBands, validRow. -/
import Derived.Test.YtjjpcgfhoncmeaaSeg
namespace Go.Proofs.Ytjjpcgfhoncmeaa
open Go.RowKit Go
set_option linter.unusedVariables false
set_option linter.unusedSimpArgs false

theorem isRate_any (x : Int) (q : Bool) (hq : q = true ↔ 0 ≤ x ∧ x ≤ 1000000) (h1 : -9223372036854775808 ≤ x) (h2 : x ≤ 9223372036854775807) (w : World) :
    Calls Try.prog 36 #[.int .i64 x] w fun e w' => e = .returned (.bool q) ∧ w = w' := by
  have hd : q = decide (0 ≤ x ∧ x ≤ 1000000) := by rw [Bool.eq_iff_iff, decide_eq_true_iff]; exact hq
  subst hd
  clear hq
  go_enter Try.func36, Try.ntmps36
  by_cases h : 0 ≤ x
  · go_wp2_with fail
    go_ret
    exact ⟨by simp_all <;> omega, rfl⟩
  · go_wp2_with fail
    go_ret
    exact ⟨by simp_all <;> omega, rfl⟩

theorem isStretch_any (x : Int) (q : Bool) (hq : q = true ↔ 0 ≤ x ∧ x ≤ 1000000000000000) (h1 : -9223372036854775808 ≤ x) (h2 : x ≤ 9223372036854775807) (w : World) :
    Calls Try.prog 37 #[.int .i64 x] w fun e w' => e = .returned (.bool q) ∧ w = w' := by
  have hd : q = decide (0 ≤ x ∧ x ≤ 1000000000000000) := by rw [Bool.eq_iff_iff, decide_eq_true_iff]; exact hq
  subst hd
  clear hq
  go_enter Try.func37, Try.ntmps37
  by_cases h : 0 ≤ x
  · go_wp2_with fail
    go_ret
    exact ⟨by simp_all <;> omega, rfl⟩
  · go_wp2_with fail
    go_ret
    exact ⟨by simp_all <;> omega, rfl⟩

theorem validRange_any (lo hi : Int) (q : Bool) (hq : q = true ↔ lo ≤ hi) (w : World) :
    Calls Try.prog 34 #[rgV lo hi] w (Gives (.bool q) w) := by
  have hd : q = decide (lo ≤ hi) := by rw [Bool.eq_iff_iff, decide_eq_true_iff]; exact hq
  subst hd
  clear hq
  unfold rgV
  obtain ⟨W, hW⟩ : ∃ W, w.alloc (.cells #[.int .i64 lo, .int .i64 hi] 27) = W := ⟨_, rfl⟩
  have T0 : Two W w.heap.size 27 (.int .i64 lo) (.int .i64 hi) := by rw [← hW]; exact Two.new w _ _ _
  have hb : Hid (Below w.heap.size w W) := by rw [← hW]; exact below_alloc w _
  have t0 := T0.c0
  have t1 := T0.c1
  have t4 := T0.lt
  clear T0
  go_enter Try.func34, Try.ntmps34
  go_wp2_with fail
  go_ret
  exact ⟨rfl, hb.out⟩

theorem validRow_any (A : Option Addr) (len cap : Nat) (l : List Int) (n : Nat) (q : Bool) (hq : q = true ↔ RowOk n l) (w : World) (hr : RowI w.heap.size w A len l) (hl : len ≤ 9223372036854775807) (hn : n ≤ 9223372036854775807) :
    Calls Try.prog 31 #[.slice A len cap, .int .i64 n] w fun e w' => e = .returned (.bool q) ∧ Drew w w' := by
  have HR := Lib.hid hr
  have HQ := Lib.hid hq
  have hL := hr.1
  clear hr hq
  by_cases hm : len = n
  · subst hm
    have f1 : ((len : Int) != (len : Int)) = false := by simp
    have f2 : (len != len) = false := by simp
    go_enter Try.func31, Try.ntmps31
    go_wp2_with fail
    go_loopw [13] (fun i wr => ∃ k : Nat, k ≤ len ∧ i = .int .i64 k ∧ Hid (∀ i, i < k → 0 ≤ l.getD i 0 ∧ l.getD i 0 ≤ 1000000) ∧ Drew w wr) (fun i _ => len - (intOf i).toNat)
    case atStart => exact ⟨0, Nat.zero_le _, rfl, fun i hi => absurd hi (by omega), Drew.refl _⟩
    case round =>
      rename_i wr
      obtain ⟨k, hk, rfl, S, hb⟩ := hrel
      by_cases hlt : k < len
      · obtain ⟨p, rfl, hx0, z1, z2⟩ := HR.out.at_ k hlt
        have hx := hb.cell hx0
        clear hx0
        generalize hy : l.getD k 0 = z at hx z1 z2
        have HY := Lib.hid hy
        clear hy
        by_cases hz : 0 ≤ z ∧ z ≤ 1000000
        · have BD := Lib.hid (isRate_any z true (by simp; omega) z1 z2)
          have HB' : Hid (∀ i, i < k + 1 → 0 ≤ l.getD i 0 ∧ l.getD i 0 ≤ 1000000) := fun i hi => by
            by_cases e : i = k
            · subst e; rw [HY.out]; exact hz
            · exact S.out i (by omega)
          clear S hz
          go_wp2_with (go_at_call 36; refine (BD.out _).mono ?_; rintro e w' ⟨rfl, rfl⟩)
          go_roundw
          case rel => exact ⟨k + 1, by omega, by go_num, HB'.out, hb⟩
          case measure => simp [intOf]; omega
        · have BD := Lib.hid (isRate_any z false (by simp; omega) z1 z2)
          have Q := Lib.hid (show q = false by
            cases hqq : q with
            | false => rfl
            | true =>
              have r := (HQ.out.1 hqq).2 k hlt
              rw [HY.out] at r
              exact absurd r hz)
          clear hz
          go_wp2_with (go_at_call 36; refine (BD.out _).mono ?_; rintro e w' ⟨rfl, rfl⟩)
          go_ret
          exact ⟨by rw [Q.out]; rfl, hb⟩
      · obtain rfl : k = len := by omega
        have Q := Lib.hid (show q = true from HQ.out.2 ⟨hL, S.out⟩)
        go_wp2_with fail
        go_ret
        exact ⟨by rw [Q.out]; rfl, hb⟩
  · have f1 : ((len : Int) != (n : Int)) = true := by simp; omega
    have f2 : (len != n) = true := by simpa using hm
    have Q := Lib.hid (show q = false by
      cases hqq : q with
      | false => rfl
      | true => exact absurd ((HQ.out.1 hqq).1.symm.trans hL) (fun e => hm e.symm))
    clear hm
    go_enter Try.func31, Try.ntmps31
    go_wp2_with fail
    go_ret
    exact ⟨by rw [Q.out]; rfl, Drew.refl _⟩

set_option maxHeartbeats 1000000 in
theorem validBands_any (A : Option Addr) (len cap : Nat) (l : List Int) (q : Bool) (hq : q = true ↔ RisesL l) (w : World) (hr : RowI w.heap.size w A len l) (hl : len ≤ 9223372036854775807) :
    Calls Try.prog 30 #[.slice A len cap] w fun e w' => e = .returned (.bool q) ∧ Drew w w' := by
  have HR := Lib.hid hr
  have HQ := Lib.hid hq
  have hL := hr.1
  clear hr hq
  rcases (by omega : len < 1 ∨ 8 < len ∨ (1 ≤ len ∧ len ≤ 8)) with h | h | ⟨h1, h8⟩
  · have Q := Lib.hid (show q = false by
      cases hqq : q with
      | false => rfl
      | true => have := (HQ.out.1 hqq).2; omega)
    obtain rfl : len = 0 := by omega
    go_enter Try.func30, Try.ntmps30
    go_wp2_with fail
    go_ret
    exact ⟨by rw [Q.out]; rfl, Drew.refl _⟩
  · have Q := Lib.hid (show q = false by
      cases hqq : q with
      | false => rfl
      | true => have := (HQ.out.1 hqq).2; omega)
    have d1 : decide ((len : Int) < 1) = false := by simp; omega
    have d2 : decide ((8 : Int) < (len : Int)) = true := by simp; omega
    go_enter Try.func30, Try.ntmps30
    go_wp2_with fail
    go_ret
    exact ⟨by rw [Q.out]; rfl, Drew.refl _⟩
  · have d1 : decide ((len : Int) < 1) = false := by simp; omega
    have d2 : decide ((8 : Int) < (len : Int)) = false := by simp; omega
    go_enter Try.func30, Try.ntmps30
    go_wp2_with fail
    go_loopw [15] (fun i wr => ∃ k : Nat, k ≤ len ∧ i = .int .i64 k ∧ Hid (∀ i, i < k → StepOk l i) ∧ Drew w wr) (fun i _ => len - (intOf i).toNat)
    case atStart => exact ⟨0, Nat.zero_le _, rfl, fun i hi => absurd hi (by omega), Drew.refl _⟩
    case round =>
      rename_i wr
      obtain ⟨k, hk, rfl, S, hb⟩ := hrel
      by_cases hlt : k < len
      · obtain ⟨p, rfl, hx0, _, _⟩ := HR.out.at_ k hlt
        have hx := hb.cell hx0
        clear hx0
        have NO : ¬ StepOk l k → q = false := fun h => by
          cases hqq : q with
          | false => rfl
          | true => exact absurd ((HQ.out.1 hqq).1 k (by omega)) h
        have YES : StepOk l k → Hid (∀ i, i < k + 1 → StepOk l i) := fun h i hi => by
          by_cases e : i = k
          · subst e; exact h
          · exact S.out i (by omega)
        unfold StepOk at NO YES
        generalize hg : l.getD k 0 = x at hx NO YES
        clear hg
        rcases (by omega : x < -1000000 ∨ 1000000 < x ∨ (-1000000 ≤ x ∧ x ≤ 1000000)) with h | h | ⟨g1, g2⟩
        · have Q := Lib.hid (NO (fun a => by omega))
          clear NO YES
          have d1 : decide (x < -1000000) = true := by simp; omega
          go_wp2_with fail
          go_ret
          exact ⟨by rw [Q.out]; rfl, hb⟩
        · have Q := Lib.hid (NO (fun a => by omega))
          clear NO YES
          have d1 : decide (x < -1000000) = false := by simp; omega
          have d2 : decide (1000000 < x) = true := by simp; omega
          go_wp2_with fail
          go_ret
          exact ⟨by rw [Q.out]; rfl, hb⟩
        · have d1 : decide (x < -1000000) = false := by simp; omega
          have d2 : decide (1000000 < x) = false := by simp; omega
          rcases Nat.eq_zero_or_pos k with hk0 | hk0
          · have Y := Lib.hid (YES ⟨g1, g2, fun h => absurd h (by omega)⟩)
            clear NO YES
            have d3 : decide ((0 : Int) < (k : Int)) = false := by simp; omega
            have d4 : decide (0 < k) = false := by simp; omega
            clear hk0
            go_wp2_with fail
            go_roundw
            case rel => exact ⟨k + 1, by omega, by go_num, Y.out, hb⟩
            case measure => simp [intOf]; omega
          · obtain ⟨m, hm⟩ : ∃ m, k - 1 = m := ⟨_, rfl⟩
            have d3 : decide ((0 : Int) < (k : Int)) = true := by simp; omega
            have d4 : decide (0 < k) = true := by simp; omega
            rw [hm] at NO YES
            have e1 : (k : Int) - 1 = (m : Int) := by omega
            have ml : m < len := by omega
            obtain ⟨p', e', hy0, _, _⟩ := HR.out.at_ m ml
            injection e' with e'
            subst e'
            have hy := hb.cell hy0
            clear hy0
            generalize l.getD m 0 = y at hy NO YES
            clear hm
            by_cases hxy : x ≤ y
            · have Q := Lib.hid (NO (fun a => by have := a.2.2 (by omega); omega))
              clear NO YES
              go_wp2_with fail
              go_ret
              exact ⟨by rw [Q.out]; rfl, hb⟩
            · have Y := Lib.hid (YES ⟨g1, g2, fun _ => by omega⟩)
              clear NO YES
              have d5 : decide (x ≤ y) = false := by simp; omega
              go_wp2_with fail
              go_roundw
              case rel => exact ⟨k + 1, by omega, by go_num, Y.out, hb⟩
              case measure => simp [intOf]; omega
      · obtain rfl : k = len := by omega
        have Q := Lib.hid (show q = true from HQ.out.2 ⟨fun i hi => S.out i (by omega), by omega, by omega⟩)
        go_wp2_with fail
        go_ret
        exact ⟨by rw [Q.out]; rfl, hb⟩
end Go.Proofs.Ytjjpcgfhoncmeaa
