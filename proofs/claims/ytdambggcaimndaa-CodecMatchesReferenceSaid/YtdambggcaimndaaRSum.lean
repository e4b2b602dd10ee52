/- Layer 4: the reference's sum and Frame. -/
import Derived.OwnWalk
import Derived.Test.YtdambggcaimndaaRPut
namespace Go.Proofs.Ytdambggcaimndaa
open Go.RowKit Go.Sort Go
set_option linter.unusedVariables false

def sumCells (D j : Nat) : List Value := List.replicate (8 - j) (Value.int .u8 0) ++ Lib.byteCells ((eight D).drop (8 - j))
theorem sum_step (D j : Nat) (h : j < 8) : (sumCells D j).set (7 - j) (.int .u8 ((byteAt D j).toNat : Int)) = sumCells D (j + 1) := by
  rcases (by omega : j = 0 ∨ j = 1 ∨ j = 2 ∨ j = 3 ∨ j = 4 ∨ j = 5 ∨ j = 6 ∨ j = 7) with rfl | rfl | rfl | rfl | rfl | rfl | rfl | rfl <;> rfl
theorem sum_at (D j : Nat) (h : j < 8) : (sumCells D j)[7 - j]? = some (.int .u8 0) := by
  rcases (by omega : j = 0 ∨ j = 1 ∨ j = 2 ∨ j = 3 ∨ j = 4 ∨ j = 5 ∨ j = 6 ∨ j = 7) with rfl | rfl | rfl | rfl | rfl | rfl | rfl | rfl <;> rfl
theorem sum_end (D : Nat) : sumCells D 8 = Lib.byteCells (eight D) := rfl

theorem made8 (w : World) : ∃ w', (Instr.makeSlice 23 (.int .i64 8) (.int .i64 8)).run Try.prog w = .ok (.slice (some ⟨w.heap.size, 0, none⟩) 8 8) w' ∧
    w'.ownsRow w.heap.size 5 1 (.slice (some ⟨w.heap.size, 0, none⟩) 8 8) 8 (sumCells 0 0) ∧ Below w.heap.size w w' := by
  obtain ⟨i0, hi, hz0, hz1, hz2⟩ := info_parts info_u8
  obtain ⟨w', h1, h2, h3⟩ := run_make_full (P := Try.prog) w w.heap.size 23 5 i0 (.int .u8 0) 1 Try.underlying23 hi hz0 hz1 .i64 .i64 8 (by rw [hz2]; omega) (by unfold maxLen; omega) (Nat.le_refl _)
  refine ⟨w', h1, ?_, ⟨h3.os, h3.tape, h3.output, h3.size, fun k hk => h3.block k hk (fun e => by cases e)⟩⟩
  rw [show (madeCells (Value.int IntKind.u8 0).cells (8 * 1)).toList = sumCells 0 0 from (toList_madeCells_one (Value.int .u8 0) 8).trans rfl] at h2
  exact h2

theorem sum_zero (D : Nat) : sumCells 0 0 = sumCells D 0 := rfl
theorem sum_len (D j : Nat) (h : j ≤ 8) : (sumCells D j).length = 8 := by
  rcases (by omega : j = 0 ∨ j = 1 ∨ j = 2 ∨ j = 3 ∨ j = 4 ∨ j = 5 ∨ j = 6 ∨ j = 7 ∨ j = 8) with rfl | rfl | rfl | rfl | rfl | rfl | rfl | rfl | rfl <;> rfl

set_option maxHeartbeats 2000000 in
theorem rsum4_any (A : Option Addr) (n cap : Nat) (bs : List UInt8) (w : World) (hr : Row8 w.heap.size w A n bs) (hn : n ≤ 9223372036854775807) :
    Calls Try.prog 29 #[.slice A n cap] w fun e w' => ∃ A' n' cap', e = .returned (.slice A' n' cap') ∧ Made w.heap.size (eight (fnv fnv0 bs)) w A' n' cap' w' := by
  have S := Lib.hid (rsum_any A n cap bs w hr hn)
  have hD := fnv_lt bs fnv0 fnv0_lt
  clear hr
  generalize fnv fnv0 bs = D at S hD
  obtain ⟨w2, hm, o2, b2⟩ := made8 w
  obtain ⟨g, hg⟩ : ∃ g, g = w.heap.size := ⟨_, rfl⟩
  rw [sum_zero D] at o2
  have O2 := Lib.hid o2
  have B2 := Lib.hid b2
  clear o2 b2
  go_enter Try.func29, Try.ntmps29
  go_wp2_with (go_at_call 37; refine S.out.mono ?_; rintro e w1 ⟨rfl, rfl⟩)
  clear hm
  go_loopw [3, 5] (fun d i wr => ∃ j q : Nat, j ≤ 8 ∧ i = .int .i64 (7 - (j : Int)) ∧ d = .int .u64 q ∧ Hid (q = D / 256 ^ j) ∧ Hid (wr.ownsRow w.heap.size 5 1 (.slice (some ⟨w.heap.size, 0, none⟩) 8 8) 8 (sumCells D j)) ∧ Below w.heap.size w wr) (fun _ i _ => (intOf i + 1).toNat)
  case atStart => exact ⟨0, D, by omega, rfl, rfl, by show _ = _; simp, O2, B2.out⟩
  case round =>
    rename_i wr
    obtain ⟨j, q, hj, rfl, rfl, HQ, HO, hb⟩ := hrel
    by_cases h8 : j < 8
    · obtain ⟨k, hk⟩ : ∃ k : Nat, k = 7 - j := ⟨_, rfl⟩
      have hki : (7 : Int) - (j : Int) = (k : Int) := by omega
      rw [hki]
      have c1 : wr.cell? ⟨w.heap.size, k, none⟩ = some (.int .u8 0) := by rw [HO.out.cellAt k (by omega), hk]; exact sum_at D j h8
      have c2 : wr.frozen? ⟨w.heap.size, k, none⟩ = false := HO.out.frozenAt k
      have e1 : ((byteAt D j).toNat : Int) = (q : Int) % 256 := by
        have := HQ.out
        rw [byteAt_toNat, this, Nat.pow_mul]
        simp
      obtain ⟨o3, g3⟩ := HO.out.stored k (.int .u8 ((byteAt D j).toNat : Int))
      rw [hk, sum_step D j h8, ← hk, e1] at o3
      rw [e1] at g3
      have O3 := Lib.hid o3
      have hb3 : Below w.heap.size w (wr.setCell ⟨w.heap.size, k, none⟩ (.int .u8 ((q : Int) % 256))) := hb.grown g3 hb.size (fun j' ej => by cases ej; exact Nat.le_refl _)
      have e2 : IntKind.u8.wrap ((q : Int) % 256) = (q : Int) % 256 := by rw [IntKind.wrap_u8']; omega
      have f1 : decide ((0 : Int) ≤ (k : Int)) = true := by rw [decide_eq_true_eq]; omega
      have hk7 : k ≤ 7 := by omega
      have hq : q ≤ D := by rw [HQ.out]; exact Nat.div_le_self _ _
      have e3 : IntKind.i64.wrap ((k : Int) - 1) = (k : Int) - 1 := IntWalk.i64_in _ (by omega)
      have HQ2 : Hid (q / 256 = D / 256 ^ (j + 1)) := by
        show _ = _
        rw [HQ.out, Nat.div_div_eq_div_mul, Nat.pow_succ]
      have HKI := Lib.hid (show (k : Int) - 1 = 7 - ((j + 1 : Nat) : Int) by omega)
      clear o3 g3 e1 hk hki
      go_wp2_with fail
      go_roundw
      case rel => exact ⟨j + 1, q / 256, by omega, by rw [HKI.out], by go_num, HQ2, O3, hb3⟩
      case measure => simp [intOf]
    · obtain rfl : j = 8 := by omega
      go_wp2_with fail
      go_ret
      have o := HO.out
      rw [sum_end] at o
      have hO : Own w.heap.size wr (.slice (some ⟨w.heap.size, 0, none⟩) 8 8) (eight D) := o
      obtain ⟨A', n', cap', e, hM⟩ := hO.made hb
      injection e with e1 e2 e3
      subst e1 e2 e3
      exact ⟨_, _, _, rfl, hM⟩
end Go.Proofs.Ytdambggcaimndaa
