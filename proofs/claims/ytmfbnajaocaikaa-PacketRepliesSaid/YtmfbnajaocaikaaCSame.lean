/- Layer 4: the reference's Same (gen/from_s04.py). -/
import Derived.Deep.QuietTactic
import Derived.BigQuiet
import Derived.Test.YtmfbnajaocaikaaApps
namespace Go.Proofs.Ytmfbnajaocaikaa
open Go.RowKit Go.Sort Go
set_option linter.unusedVariables false
set_option linter.unusedSimpArgs false

theorem take_differ {α : Type} {xs ys : List α} {k : Nat} {x y : α} (HA : xs.take k = ys.take k) (HS : xs.take (k + 1) = xs.take k ++ [x]) (HS' : ys.take (k + 1) = ys.take k ++ [y]) (hq : x ≠ y) : ¬ xs = ys := by
  intro h
  rw [h, HS'] at HS
  have := List.append_inj_right' HS rfl
  simp only [List.cons.injEq, and_true] at this
  exact hq this.symm

set_option maxHeartbeats 1000000 in
theorem rsame_any (A A' : Option Addr) (len len' cap cap' : Nat) (xs ys : List UInt8) (w : World) (hr : Row8 w.heap.size w A len xs) (hr' : Row8 w.heap.size w A' len' ys) (hl : len ≤ 9223372036854775807) (hl' : len' ≤ 9223372036854775807) :
    Calls Try.prog 13 #[.slice A len cap, .slice A' len' cap'] w fun e w' => e = .returned (.bool (decide (xs = ys))) ∧ Drew w w' := by
  have HR := Lib.hid hr
  have HR' := Lib.hid hr'
  have hL := Lib.hid hr.1
  have hL' := Lib.hid hr'.1
  clear hr hr'
  by_cases hne : len = len'
  · subst hne
    go_enter Try.func13, Try.ntmps13
    go_wp2_with fail
    go_loopw [5] (fun i wr => ∃ k : Nat, k ≤ len ∧ i = .int .i64 k ∧ Hid (xs.take k = ys.take k) ∧ Drew w wr) (fun i _ => len - (intOf i).toNat)
    case atStart => exact ⟨0, Nat.zero_le _, rfl, rfl, Drew.refl _⟩
    case round =>
      rename_i wr
      obtain ⟨k, hk, rfl, HA, hb⟩ := hrel
      by_cases hlt : k < len
      · obtain ⟨p, rfl, hp, hc⟩ := (HR.out.2.below (hb.below _)) (by omega)
        have c1 : World.cell? _ (p.add k) = some (.int .u8 ((xs.getD k 0).toNat : Int)) := hc k hlt
        obtain ⟨p', rfl, hp', hc'⟩ := (HR'.out.2.below (hb.below _)) (by omega)
        have c1' : World.cell? _ (p'.add k) = some (.int .u8 ((ys.getD k 0).toNat : Int)) := hc' k hlt
        clear hc hc'
        have HS := Lib.hid (take_snoc xs 0 k (by rw [hL.out]; exact hlt))
        have HS' := Lib.hid (take_snoc ys 0 k (by rw [hL'.out]; exact hlt))
        generalize xs.getD k 0 = x at c1 HS
        generalize ys.getD k 0 = y at c1' HS'
        by_cases hq : x = y
        · subst hq
          have NE : (((x.toNat : Nat) : Int) == ((x.toNat : Nat) : Int)) = true := by simp
          generalize x.toNat = c at c1 c1' NE
          have HE : Hid (xs.take (k + 1) = ys.take (k + 1)) := by show _ = _; rw [HS.out, HS'.out, HA.out]
          go_wp2_with fail
          go_quiet (fail)
          have hbq : Drew w (World.drewN _ nq) := hb.trans (Drew.n _ _)
          go_wp2_with fail
          go_roundw
          case rel => exact ⟨k + 1, by omega, by go_num, HE, hbq⟩
          case measure => simp [intOf]; omega
        · have HN : Hid (decide (xs = ys) = false) := by show decide (xs = ys) = false; rw [decide_eq_false_iff_not]; exact take_differ HA.out HS.out HS'.out hq
          have hqn : x.toNat ≠ y.toNat := fun e => hq (UInt8.toNat_inj.1 e)
          have NE : (((x.toNat : Nat) : Int) == ((y.toNat : Nat) : Int)) = false := by rw [beq_eq_false_iff_ne]; omega
          have NE2 : ((x.toNat : Nat) == (y.toNat : Nat)) = false := by simpa using hqn
          clear hq hqn
          generalize x.toNat = c at c1 NE NE2
          generalize y.toNat = c' at c1' NE NE2
          go_wp2_with fail
          go_quiet (fail)
          have hbq : Drew w (World.drewN _ nq) := hb.trans (Drew.n _ _)
          go_wp2_with fail
          go_ret
          rw [HN.out]
          exact ⟨rfl, hbq⟩
      · obtain rfl : k = len := by omega
        have HE : Hid (decide (xs = ys) = true) := by
          show decide (xs = ys) = true
          rw [decide_eq_true_eq]
          have := HA.out
          rwa [List.take_of_length_le (by rw [hL.out]; exact Nat.le_refl _), List.take_of_length_le (by rw [hL'.out]; exact Nat.le_refl _)] at this
        go_wp2_with fail
        go_ret
        rw [HE.out]
        exact ⟨rfl, hb⟩
  · have HN : Hid (decide (xs = ys) = false) := by
      show decide (xs = ys) = false
      rw [decide_eq_false_iff_not]
      intro h
      exact hne (by rw [← hL.out, ← hL'.out, h])
    have f1 : ((len : Int) == (len' : Int)) = false := by rw [beq_eq_false_iff_ne]; omega
    have f2 : (len == len') = false := by simpa using hne
    go_enter Try.func13, Try.ntmps13
    go_wp2_with fail
    go_ret
    rw [HN.out]
    exact ⟨rfl, Drew.refl _⟩
end Go.Proofs.Ytmfbnajaocaikaa
