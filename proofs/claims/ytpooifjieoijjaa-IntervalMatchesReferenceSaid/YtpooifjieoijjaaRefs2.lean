/- Layer 2: the reference's Same. -/
import Derived.Test.YtpooifjieoijjaaRefs
import Derived.Test.YtpooifjieoijjaaEq
namespace Go.Proofs.Ytpooifjieoijjaa
open Go.RowKit Go
set_option linter.unusedVariables false

set_option maxHeartbeats 1000000 in
theorem rsame_any (A A' : Option Addr) (len len' cap cap' : Nat) (xs ys : List (Int × Int)) (w : World) (hr : Row w.heap.size w A len xs) (hr' : Row w.heap.size w A' len' ys) (hl : len ≤ 9223372036854775807) (hl' : len' ≤ 9223372036854775807) :
    Calls Try.prog 24 #[.slice A len cap, .slice A' len' cap'] w (Gives (.bool (decide (xs = ys))) w) := by
  have HR := Lib.hid hr
  have HR' := Lib.hid hr'
  have hL := Lib.hid hr.1
  have hL' := Lib.hid hr'.1
  clear hr hr'
  by_cases hne : len = len'
  · subst hne
    go_enter Try.func24, Try.ntmps24
    go_wp2_with fail
    go_loopw [5] (fun i wr => ∃ k : Nat, k ≤ len ∧ i = .int .i64 k ∧ Hid (xs.take k = ys.take k) ∧ Below w.heap.size w wr) (fun i _ => len - (intOf i).toNat)
    case atStart => exact ⟨0, Nat.zero_le _, rfl, rfl, Below.refl _ _⟩
    case round =>
      obtain ⟨k, hk, rfl, HA, hb⟩ := hrel
      by_cases hlt : k < len
      · obtain ⟨p, rfl, hp, hc⟩ := (HR.out.below hb).2 (by omega)
        obtain ⟨c1, c2⟩ := hc k hlt
        obtain ⟨p', rfl, hp', hc'⟩ := (HR'.out.below hb).2 (by omega)
        obtain ⟨c1', c2'⟩ := hc' k hlt
        clear hc hc'
        have HS := Lib.hid (take_snoc xs (0, 0) k (by rw [hL.out]; exact hlt))
        have HS' := Lib.hid (take_snoc ys (0, 0) k (by rw [hL'.out]; exact hlt))
        generalize xs.getD k (0, 0) = x at c1 c2 HS
        generalize ys.getD k (0, 0) = y at c1' c2' HS'
        have hb1 : (0 : Int) ≤ k := by omega
        have hb2 : (k : Int) < len := by omega
        have NE := fun w => neq_iv x y w
        by_cases hq : x = y
        · have hd : decide (x = y) = true := by simpa using hq
          simp only [hd, Bool.not_true] at NE
          clear hd
          have HQ := Lib.hid hq
          clear hq
          go_wp2_with fail
          go_quiet (fail)
          clear NE
          have hbq : Below w.heap.size w (wr.drewN nq) := ⟨hb.os, hb.tape, hb.output, hb.size, hb.block⟩
          go_wp2_with fail
          go_roundw
          case rel =>
            refine ⟨k + 1, by omega, by go_num, ?_, hbq⟩
            show xs.take (k + 1) = ys.take (k + 1)
            rw [HS.out, HS'.out, HA.out, HQ.out]
          case measure => simp [intOf]; omega
        · have hd : decide (x = y) = false := by simpa using hq
          simp only [hd, Bool.not_false] at NE
          clear hd
          have HN : Hid (decide (xs = ys) = false) := by
            show decide (xs = ys) = false
            rw [decide_eq_false_iff_not]
            intro h
            have h1 := HS.out
            have h2 := HS'.out
            rw [h, h2] at h1
            have := List.append_inj_right' h1 rfl
            simp only [List.cons.injEq, and_true] at this
            exact hq this.symm
          clear hq
          go_wp2_with fail
          go_quiet (fail)
          clear NE
          have hbq : Below w.heap.size w (wr.drewN nq) := ⟨hb.os, hb.tape, hb.output, hb.size, hb.block⟩
          go_wp2_with fail
          go_ret
          exact ⟨by rw [HN.out]; rfl, hbq⟩
      · obtain rfl : k = len := by omega
        have HN : Hid (decide (xs = ys) = true) := by
          show decide (xs = ys) = true
          rw [decide_eq_true_eq]
          have := HA.out
          rwa [List.take_of_length_le (by have := hL.out; omega), List.take_of_length_le (by have := hL'.out; omega)] at this
        go_wp2_with fail
        go_ret
        exact ⟨by rw [HN.out]; rfl, hb⟩
  · have HN : Hid (decide (xs = ys) = false) := by
      show decide (xs = ys) = false
      rw [decide_eq_false_iff_not]
      intro h
      apply hne
      rw [← hL.out, ← hL'.out, h]
    go_enter Try.func24, Try.ntmps24
    have hn1 : ((len : Int) != len') = true := by rw [bne_iff_ne]; omega
    clear hne
    go_wp2_with fail
    go_ret
    exact ⟨by rw [HN.out]; rfl, Below.refl _ _⟩
end Go.Proofs.Ytpooifjieoijjaa
