/- Layer 10: the reference's Valid, At, Join and Few. -/
import Derived.LoopTactic
import Derived.Test.YtkeahbdeddjoeaaRSgr
namespace Go.Proofs.Ytkeahbdeddjoeaa
open Go.RowKit Go
set_option linter.unusedVariables false
set_option linter.unusedSimpArgs false

theorem rfew_any (A : Option Addr) (len cap : Nat) (q : Bool) (hq : q = true ↔ len ≤ 30) (hl : len ≤ 9223372036854775807) (w : World) :
    Calls Try.prog 10 #[.slice A len cap] w fun e w' => e = .returned (.bool q) ∧ w = w' := by
  have hd : q = decide ((len : Int) ≤ 30) := by rw [Bool.eq_iff_iff, decide_eq_true_iff, hq]; omega
  subst hd
  clear hq
  go_enter Try.func10, Try.ntmps10
  go_wp2_with fail
  go_ret
  exact ⟨rfl, rfl⟩

set_option maxHeartbeats 4000000 in
theorem rlink_any (A : Option Addr) (len cap : Nat) (l : List Ch) (q : Bool) (hq : q = true ↔ LkOk l) (w : World) (hr : RowC w.heap.size w A len l) (hl : len ≤ 9223372036854775807) :
    Calls Try.prog 14 #[.slice A len cap] w (Gives (.bool q) w) := by
  have HR := Lib.hid hr
  have HQ := Lib.hid hq
  have hL := Lib.hid hr.1
  clear hr hq
  go_enter Try.func14, Try.ntmps14
  go_wp2_with fail
  go_loopw [3, 4] (fun i _ wr => ∃ k : Nat, k ≤ len ∧ i = .int .i64 k ∧ Hid (∀ i, i < k → ElOk l i) ∧ Hid (Below w.heap.size w wr)) (fun i _ _ => len - (intOf i).toNat)
  case atStart => exact ⟨0, Nat.zero_le _, rfl, fun i hi => absurd hi (by omega), Below.refl _ _⟩
  case round =>
    rename_i wr
    obtain ⟨k, hk, rfl, S, hb⟩ := hrel
    by_cases hlt : k < len
    · obtain ⟨p, rfl, hp, hx, hI⟩ := HR.out.at_ k hlt
      have hX := Lib.hid (hx.below hb.out (by rw [block_of_add]; exact hp))
      have hP := Lib.hid (show (p.add (k * 5)).block < wr.heap.size by rw [block_of_add]; exact Nat.lt_of_lt_of_le hp hb.out.size)
      have NO : ¬ ElOk l k → q = false := fun h => by
        cases hqq : q with
        | false => rfl
        | true => exact absurd ((HQ.out.1 hqq).2.2 k (by rw [hL.out]; exact hlt)) h
      have YES : ElOk l k → Hid (∀ i, i < k + 1 → ElOk l i) := fun h i hi => by
        by_cases e : i = k
        · subst e; exact h
        · exact S.out i (by omega)
      unfold ElOk at NO YES
      clear hx
      generalize hg : l.getD k Ch.nil = s at hX NO YES hI
      clear hg
      obtain ⟨x0, x1, x2, x3, x4⟩ := hX.out
      by_cases f : s.Form
      · have FO := Lib.hid (rform_any s true ⟨fun _ => f, fun _ => rfl⟩)
        obtain ⟨⟨t0, t1⟩, _⟩ := hI
        rcases Nat.eq_zero_or_pos k with hk0 | hk0
        · rw [if_pos hk0] at NO YES
          have d1 : ((k : Int) == 0) = true := by simp; omega
          have d3 : decide ((0 : Int) < (k : Int)) = false := by simp; omega
          have d4 : decide (0 < k) = false := by simp; omega
          clear hk0
          by_cases z : s.t = 0
          · have Y := Lib.hid (YES ⟨f, z, by omega⟩)
            clear NO YES
            obtain ⟨t, a, b, c, d⟩ := s
            unfold chV at FO
            dsimp only at *
            subst z
            go_wp2_with (go_at_call 21; (with_reducible refine (FO.out _).mono ?_); rintro e w2 ⟨rfl, b2⟩; replace hX := Lib.hid (hX.out.below b2 hP.out); replace x0 := hX.out.1; have hb2 := Lib.hid (below_more hb.out b2); clear b2 FO)
            go_quiet (fail)
            have hb3 := Lib.hid (below_draws hb2.out nq)
            go_wp2_with fail
            go_roundw
            case rel => exact ⟨k + 1, by omega, by go_num, Y, hb3⟩
            case measure => simp [intOf]; omega
          · have Q := Lib.hid (NO (fun k => z k.2.1))
            clear NO YES
            have d5 : (s.t == 0) = false := by simp [z]
            have d6 : (s.t != 0) = true := by simp [z]
            obtain ⟨t, a, b, c, d⟩ := s
            unfold chV at FO
            dsimp only at *
            clear z
            go_wp2_with (go_at_call 21; (with_reducible refine (FO.out _).mono ?_); rintro e w2 ⟨rfl, b2⟩; replace hX := Lib.hid (hX.out.below b2 hP.out); replace x0 := hX.out.1; have hb2 := Lib.hid (below_more hb.out b2); clear b2 FO)
            go_quiet (fail)
            have hb3 := Lib.hid (below_draws hb2.out nq)
            go_wp2_with fail
            go_ret
            exact ⟨by rw [Q.out]; rfl, hb3.out⟩
        · rw [if_neg (by omega)] at NO YES
          obtain ⟨m, hm⟩ : ∃ m, k - 1 = m := ⟨_, rfl⟩
          have d1 : ((k : Int) == 0) = false := by simp; omega
          have d3 : decide ((0 : Int) < (k : Int)) = true := by simp; omega
          have d4 : decide (0 < k) = true := by simp; omega
          rw [hm] at NO YES
          have e1 : (k : Int) - 1 = (m : Int) := by omega
          have ml : m < len := by omega
          obtain ⟨p', e', hp', hy, hJ⟩ := HR.out.at_ m ml
          injection e' with e'
          subst e'
          have hY := Lib.hid (hy.below hb.out (by rw [block_of_add]; exact hp'))
          have hP' := Lib.hid (show (p.add (m * 5)).block < wr.heap.size by rw [block_of_add]; exact Nat.lt_of_lt_of_le hp hb.out.size)
          clear hy hm
          generalize l.getD m Ch.nil = s' at hY NO YES
          have y0 := hY.out.1
          obtain ⟨t', a', b', c', d'⟩ := s'
          obtain ⟨t, a, b, c, d⟩ := s
          unfold chV at FO
          dsimp only at *
          rcases (by omega : t ≤ t' ∨ (t' < t ∧ 3000000000000000 < t) ∨ (t' < t ∧ t ≤ 3000000000000000)) with h | ⟨h, h'⟩ | ⟨h, h'⟩
          · have Q := Lib.hid (NO (fun a => by have := a.2.1; omega))
            clear NO YES
            have d5 : decide (t ≤ t') = true := by simp; omega
            go_wp2_with (go_at_call 21; (with_reducible refine (FO.out _).mono ?_); rintro e w2 ⟨rfl, b2⟩; replace hX := Lib.hid (hX.out.below b2 hP.out); replace x0 := hX.out.1; replace hY := Lib.hid (hY.out.below b2 hP'.out); replace y0 := hY.out.1; have hb2 := Lib.hid (below_more hb.out b2); clear b2 FO)
            go_quiet (fail)
            have hb3 := Lib.hid (below_draws hb2.out nq)
            go_wp2_with fail
            go_ret
            exact ⟨by rw [Q.out]; rfl, hb3.out⟩
          · have Q := Lib.hid (NO (fun a => by have := a.2.2; omega))
            clear NO YES
            have d5 : decide (t ≤ t') = false := by simp; omega
            have d6 : decide (3000000000000000 < t) = true := by simp; omega
            go_wp2_with (go_at_call 21; (with_reducible refine (FO.out _).mono ?_); rintro e w2 ⟨rfl, b2⟩; replace hX := Lib.hid (hX.out.below b2 hP.out); replace x0 := hX.out.1; replace hY := Lib.hid (hY.out.below b2 hP'.out); replace y0 := hY.out.1; have hb2 := Lib.hid (below_more hb.out b2); clear b2 FO)
            go_quiet (fail)
            have hb3 := Lib.hid (below_draws hb2.out nq)
            go_wp2_with fail
            go_ret
            exact ⟨by rw [Q.out]; rfl, hb3.out⟩
          · have Y := Lib.hid (YES ⟨f, h, h'⟩)
            clear NO YES
            have d5 : decide (t ≤ t') = false := by simp; omega
            have d6 : decide (3000000000000000 < t) = false := by simp; omega
            go_wp2_with (go_at_call 21; (with_reducible refine (FO.out _).mono ?_); rintro e w2 ⟨rfl, b2⟩; replace hX := Lib.hid (hX.out.below b2 hP.out); replace x0 := hX.out.1; replace hY := Lib.hid (hY.out.below b2 hP'.out); replace y0 := hY.out.1; have hb2 := Lib.hid (below_more hb.out b2); clear b2 FO)
            go_quiet (fail)
            have hb3 := Lib.hid (below_draws hb2.out nq)
            go_wp2_with fail
            go_roundw
            case rel => exact ⟨k + 1, by omega, by go_num, Y, hb3⟩
            case measure => simp [intOf]; omega
      · have FO := Lib.hid (rform_any s false ⟨fun h => (by cases h), fun h => absurd h f⟩)
        have Q := Lib.hid (NO (fun a => f a.1))
        clear NO YES f
        obtain ⟨t, a, b, c, d⟩ := s
        unfold chV at FO
        dsimp only at *
        go_wp2_with (go_at_call 21; (with_reducible refine (FO.out _).mono ?_); rintro e w2 ⟨rfl, b2⟩; have hb2 := Lib.hid (below_more hb.out b2); clear b2 FO)
        go_quiet (fail)
        have hb3 := Lib.hid (below_draws hb2.out nq)
        go_wp2_with fail
        go_ret
        exact ⟨by rw [Q.out]; rfl, hb3.out⟩
    · obtain rfl : k = len := by omega
      have D : q = decide (1 ≤ (k : Int) ∧ (k : Int) ≤ 20) := by
        rw [Bool.eq_iff_iff, HQ.out, decide_eq_true_iff]
        unfold LkOk
        rw [hL.out]
        exact ⟨fun h => by omega, fun h => ⟨by omega, by omega, S.out⟩⟩
      by_cases g : 1 ≤ (k : Int)
      · have D2 := Lib.hid (show q = decide ((k : Int) ≤ 20) by rw [D, Bool.eq_iff_iff]; simp [g])
        clear D
        go_wp2_with fail
        go_ret
        exact ⟨by rw [D2.out]; rfl, hb.out⟩
      · have D2 := Lib.hid (show q = false by rw [D]; simp; omega)
        clear D
        go_wp2_with fail
        go_ret
        exact ⟨by rw [D2.out]; rfl, hb.out⟩
end Go.Proofs.Ytkeahbdeddjoeaa
