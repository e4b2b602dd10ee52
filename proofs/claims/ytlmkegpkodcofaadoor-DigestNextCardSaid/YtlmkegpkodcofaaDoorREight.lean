/- Layer 3: the reference's Eight. -/
import Derived.Test.YtlmkegpkodcofaaDoorRef
namespace Go.Proofs.YtlmkegpkodcofaaDoor
open Go.RowKit Go.Sort Go
set_option linter.unusedVariables false

set_option maxHeartbeats 4000000 in
theorem reight_any (n : Nat) (hn : n < 18446744073709551616) (w : World) :
    Calls Tryd.prog 20 #[.int .u64 n] w fun e w' => ∃ v, e = .returned v ∧ Own w.heap.size w' v (eight n) ∧ Below w.heap.size w w' := by
  obtain ⟨i0, hi, hz0, hz1, hz2⟩ := info_parts info_u8
  go_enter Tryd.func20, Tryd.ntmps20
  go_wp2_with fail
  go_loopw [3, 4] (fun s i wr => ∃ j : Nat, j ≤ 8 ∧ i = .int .i64 (56 - 8 * (j : Int)) ∧ Hid (wr.ownsRow w.heap.size 5 1 s j (Lib.byteCells ((eight n).take j))) ∧ Hid (Below w.heap.size w wr)) (fun _ i _ => (intOf i + 8).toNat)
  case atStart => exact ⟨0, by omega, rfl, World.ownsRow_nil _ _ _ _, Below.refl _ _⟩
  case round =>
    obtain ⟨j, hj, rfl, HO, HB⟩ := hrel
    have hsz := HB.out.size
    rcases (by omega : j = 0 ∨ j = 1 ∨ j = 2 ∨ j = 3 ∨ j = 4 ∨ j = 5 ∨ j = 6 ∨ j = 7 ∨ j = 8) with rfl | rfl | rfl | rfl | rfl | rfl | rfl | rfl | rfl
    all_goals simp only [Int.cast_ofNat_Int, Int.reduceMul, Int.reduceSub, Int.mul_zero, Int.sub_zero, Int.mul_one]
    all_goals obtain ⟨c, hc⟩ : ∃ c, (byteAt n 0).toNat = c := ⟨_, rfl⟩
    · clear hc c
      obtain ⟨c, hc⟩ : ∃ c, (byteAt n 7).toNat = c := ⟨_, rfl⟩
      have e1 : (n : Int) / 72057594037927936 = (c : Int) := by rw [← hc, byteAt_toNat]; omega
      have HC := Lib.hid hc
      clear hc
      go_wp2_with (at_builtin; refine wpList_append_own _ rfl _ _ 22 rfl w.heap.size 5 i0 (.int .u8 0) 1 1 Tryd.underlying22 hi hz0 hz1 hz2 rfl (by decide) _ _ _ rfl (HO.out.alloc _) ⟨wr.heap.size, 0, none⟩ 1 1 [Value.int .u8 (c : Int)] rfl rfl (by intro j u' hj; match j, hj with | 0, hj => simp at hj; subst hj; simp [Addr.add]) (by simp [Value.oneCell']) (by unfold maxLen; omega) (by omega) (by simp; omega) ?_; refine Hid.out ?_)
      refine Lib.hid ?_
      intro v' w4 hown' hgrow _
      have hb4 : Below w.heap.size w w4 := (HB.out.alloc HB.out.size _).grown hgrow (by have := HB.out.size; simp; omega) (fun k ek => (World.ownsRow.lt HO.out k ek).1)
      have HO4 : Hid (w4.ownsRow w.heap.size 5 1 v' 1 (Lib.byteCells ((eight n).take 1))) := by
        rw [eight_take n 0 (by omega), Lib.byteCells_append]
        have : Lib.byteCells [byteAt n (7 - 0)] = [Value.int .u8 (c : Int)] := by simp [Lib.byteCells, ← HC.out]
        rw [this]
        exact hown'
      have HB4 := Lib.hid hb4
      clear hown' hgrow hb4 HC
      go_wp2_with fail
      go_roundw
      case rel => exact ⟨1, by omega, by go_num, HO4, HB4⟩
      case measure => simp [intOf]
    · clear hc c
      obtain ⟨c, hc⟩ : ∃ c, (byteAt n 6).toNat = c := ⟨_, rfl⟩
      have e1 : (n : Int) / 281474976710656 % 256 = (c : Int) := by rw [← hc, byteAt_toNat]; omega
      have HC := Lib.hid hc
      clear hc
      go_wp2_with (at_builtin; refine wpList_append_own _ rfl _ _ 22 rfl w.heap.size 5 i0 (.int .u8 0) 1 1 Tryd.underlying22 hi hz0 hz1 hz2 rfl (by decide) _ _ _ rfl (HO.out.alloc _) ⟨wr.heap.size, 0, none⟩ 1 1 [Value.int .u8 (c : Int)] rfl rfl (by intro j u' hj; match j, hj with | 0, hj => simp at hj; subst hj; simp [Addr.add]) (by simp [Value.oneCell']) (by unfold maxLen; omega) (by omega) (by simp; omega) ?_; refine Hid.out ?_)
      refine Lib.hid ?_
      intro v' w4 hown' hgrow _
      have hb4 : Below w.heap.size w w4 := (HB.out.alloc HB.out.size _).grown hgrow (by have := HB.out.size; simp; omega) (fun k ek => (World.ownsRow.lt HO.out k ek).1)
      have HO4 : Hid (w4.ownsRow w.heap.size 5 1 v' 2 (Lib.byteCells ((eight n).take 2))) := by
        rw [eight_take n 1 (by omega), Lib.byteCells_append]
        have : Lib.byteCells [byteAt n (7 - 1)] = [Value.int .u8 (c : Int)] := by simp [Lib.byteCells, ← HC.out]
        rw [this]
        exact hown'
      have HB4 := Lib.hid hb4
      clear hown' hgrow hb4 HC
      go_wp2_with fail
      go_roundw
      case rel => exact ⟨2, by omega, by go_num, HO4, HB4⟩
      case measure => simp [intOf]
    · clear hc c
      obtain ⟨c, hc⟩ : ∃ c, (byteAt n 5).toNat = c := ⟨_, rfl⟩
      have e1 : (n : Int) / 1099511627776 % 256 = (c : Int) := by rw [← hc, byteAt_toNat]; omega
      have HC := Lib.hid hc
      clear hc
      go_wp2_with (at_builtin; refine wpList_append_own _ rfl _ _ 22 rfl w.heap.size 5 i0 (.int .u8 0) 1 1 Tryd.underlying22 hi hz0 hz1 hz2 rfl (by decide) _ _ _ rfl (HO.out.alloc _) ⟨wr.heap.size, 0, none⟩ 1 1 [Value.int .u8 (c : Int)] rfl rfl (by intro j u' hj; match j, hj with | 0, hj => simp at hj; subst hj; simp [Addr.add]) (by simp [Value.oneCell']) (by unfold maxLen; omega) (by omega) (by simp; omega) ?_; refine Hid.out ?_)
      refine Lib.hid ?_
      intro v' w4 hown' hgrow _
      have hb4 : Below w.heap.size w w4 := (HB.out.alloc HB.out.size _).grown hgrow (by have := HB.out.size; simp; omega) (fun k ek => (World.ownsRow.lt HO.out k ek).1)
      have HO4 : Hid (w4.ownsRow w.heap.size 5 1 v' 3 (Lib.byteCells ((eight n).take 3))) := by
        rw [eight_take n 2 (by omega), Lib.byteCells_append]
        have : Lib.byteCells [byteAt n (7 - 2)] = [Value.int .u8 (c : Int)] := by simp [Lib.byteCells, ← HC.out]
        rw [this]
        exact hown'
      have HB4 := Lib.hid hb4
      clear hown' hgrow hb4 HC
      go_wp2_with fail
      go_roundw
      case rel => exact ⟨3, by omega, by go_num, HO4, HB4⟩
      case measure => simp [intOf]
    · clear hc c
      obtain ⟨c, hc⟩ : ∃ c, (byteAt n 4).toNat = c := ⟨_, rfl⟩
      have e1 : (n : Int) / 4294967296 % 256 = (c : Int) := by rw [← hc, byteAt_toNat]; omega
      have HC := Lib.hid hc
      clear hc
      go_wp2_with (at_builtin; refine wpList_append_own _ rfl _ _ 22 rfl w.heap.size 5 i0 (.int .u8 0) 1 1 Tryd.underlying22 hi hz0 hz1 hz2 rfl (by decide) _ _ _ rfl (HO.out.alloc _) ⟨wr.heap.size, 0, none⟩ 1 1 [Value.int .u8 (c : Int)] rfl rfl (by intro j u' hj; match j, hj with | 0, hj => simp at hj; subst hj; simp [Addr.add]) (by simp [Value.oneCell']) (by unfold maxLen; omega) (by omega) (by simp; omega) ?_; refine Hid.out ?_)
      refine Lib.hid ?_
      intro v' w4 hown' hgrow _
      have hb4 : Below w.heap.size w w4 := (HB.out.alloc HB.out.size _).grown hgrow (by have := HB.out.size; simp; omega) (fun k ek => (World.ownsRow.lt HO.out k ek).1)
      have HO4 : Hid (w4.ownsRow w.heap.size 5 1 v' 4 (Lib.byteCells ((eight n).take 4))) := by
        rw [eight_take n 3 (by omega), Lib.byteCells_append]
        have : Lib.byteCells [byteAt n (7 - 3)] = [Value.int .u8 (c : Int)] := by simp [Lib.byteCells, ← HC.out]
        rw [this]
        exact hown'
      have HB4 := Lib.hid hb4
      clear hown' hgrow hb4 HC
      go_wp2_with fail
      go_roundw
      case rel => exact ⟨4, by omega, by go_num, HO4, HB4⟩
      case measure => simp [intOf]
    · clear hc c
      obtain ⟨c, hc⟩ : ∃ c, (byteAt n 3).toNat = c := ⟨_, rfl⟩
      have e1 : (n : Int) / 16777216 % 256 = (c : Int) := by rw [← hc, byteAt_toNat]; omega
      have HC := Lib.hid hc
      clear hc
      go_wp2_with (at_builtin; refine wpList_append_own _ rfl _ _ 22 rfl w.heap.size 5 i0 (.int .u8 0) 1 1 Tryd.underlying22 hi hz0 hz1 hz2 rfl (by decide) _ _ _ rfl (HO.out.alloc _) ⟨wr.heap.size, 0, none⟩ 1 1 [Value.int .u8 (c : Int)] rfl rfl (by intro j u' hj; match j, hj with | 0, hj => simp at hj; subst hj; simp [Addr.add]) (by simp [Value.oneCell']) (by unfold maxLen; omega) (by omega) (by simp; omega) ?_; refine Hid.out ?_)
      refine Lib.hid ?_
      intro v' w4 hown' hgrow _
      have hb4 : Below w.heap.size w w4 := (HB.out.alloc HB.out.size _).grown hgrow (by have := HB.out.size; simp; omega) (fun k ek => (World.ownsRow.lt HO.out k ek).1)
      have HO4 : Hid (w4.ownsRow w.heap.size 5 1 v' 5 (Lib.byteCells ((eight n).take 5))) := by
        rw [eight_take n 4 (by omega), Lib.byteCells_append]
        have : Lib.byteCells [byteAt n (7 - 4)] = [Value.int .u8 (c : Int)] := by simp [Lib.byteCells, ← HC.out]
        rw [this]
        exact hown'
      have HB4 := Lib.hid hb4
      clear hown' hgrow hb4 HC
      go_wp2_with fail
      go_roundw
      case rel => exact ⟨5, by omega, by go_num, HO4, HB4⟩
      case measure => simp [intOf]
    · clear hc c
      obtain ⟨c, hc⟩ : ∃ c, (byteAt n 2).toNat = c := ⟨_, rfl⟩
      have e1 : (n : Int) / 65536 % 256 = (c : Int) := by rw [← hc, byteAt_toNat]; omega
      have HC := Lib.hid hc
      clear hc
      go_wp2_with (at_builtin; refine wpList_append_own _ rfl _ _ 22 rfl w.heap.size 5 i0 (.int .u8 0) 1 1 Tryd.underlying22 hi hz0 hz1 hz2 rfl (by decide) _ _ _ rfl (HO.out.alloc _) ⟨wr.heap.size, 0, none⟩ 1 1 [Value.int .u8 (c : Int)] rfl rfl (by intro j u' hj; match j, hj with | 0, hj => simp at hj; subst hj; simp [Addr.add]) (by simp [Value.oneCell']) (by unfold maxLen; omega) (by omega) (by simp; omega) ?_; refine Hid.out ?_)
      refine Lib.hid ?_
      intro v' w4 hown' hgrow _
      have hb4 : Below w.heap.size w w4 := (HB.out.alloc HB.out.size _).grown hgrow (by have := HB.out.size; simp; omega) (fun k ek => (World.ownsRow.lt HO.out k ek).1)
      have HO4 : Hid (w4.ownsRow w.heap.size 5 1 v' 6 (Lib.byteCells ((eight n).take 6))) := by
        rw [eight_take n 5 (by omega), Lib.byteCells_append]
        have : Lib.byteCells [byteAt n (7 - 5)] = [Value.int .u8 (c : Int)] := by simp [Lib.byteCells, ← HC.out]
        rw [this]
        exact hown'
      have HB4 := Lib.hid hb4
      clear hown' hgrow hb4 HC
      go_wp2_with fail
      go_roundw
      case rel => exact ⟨6, by omega, by go_num, HO4, HB4⟩
      case measure => simp [intOf]
    · clear hc c
      obtain ⟨c, hc⟩ : ∃ c, (byteAt n 1).toNat = c := ⟨_, rfl⟩
      have e1 : (n : Int) / 256 % 256 = (c : Int) := by rw [← hc, byteAt_toNat]; omega
      have HC := Lib.hid hc
      clear hc
      go_wp2_with (at_builtin; refine wpList_append_own _ rfl _ _ 22 rfl w.heap.size 5 i0 (.int .u8 0) 1 1 Tryd.underlying22 hi hz0 hz1 hz2 rfl (by decide) _ _ _ rfl (HO.out.alloc _) ⟨wr.heap.size, 0, none⟩ 1 1 [Value.int .u8 (c : Int)] rfl rfl (by intro j u' hj; match j, hj with | 0, hj => simp at hj; subst hj; simp [Addr.add]) (by simp [Value.oneCell']) (by unfold maxLen; omega) (by omega) (by simp; omega) ?_; refine Hid.out ?_)
      refine Lib.hid ?_
      intro v' w4 hown' hgrow _
      have hb4 : Below w.heap.size w w4 := (HB.out.alloc HB.out.size _).grown hgrow (by have := HB.out.size; simp; omega) (fun k ek => (World.ownsRow.lt HO.out k ek).1)
      have HO4 : Hid (w4.ownsRow w.heap.size 5 1 v' 7 (Lib.byteCells ((eight n).take 7))) := by
        rw [eight_take n 6 (by omega), Lib.byteCells_append]
        have : Lib.byteCells [byteAt n (7 - 6)] = [Value.int .u8 (c : Int)] := by simp [Lib.byteCells, ← HC.out]
        rw [this]
        exact hown'
      have HB4 := Lib.hid hb4
      clear hown' hgrow hb4 HC
      go_wp2_with fail
      go_roundw
      case rel => exact ⟨7, by omega, by go_num, HO4, HB4⟩
      case measure => simp [intOf]
    · clear hc c
      obtain ⟨c, hc⟩ : ∃ c, (byteAt n 0).toNat = c := ⟨_, rfl⟩
      have e1 : (n : Int) % 256 = (c : Int) := by rw [← hc, byteAt_toNat]; omega
      have HC := Lib.hid hc
      clear hc
      go_wp2_with (at_builtin; refine wpList_append_own _ rfl _ _ 22 rfl w.heap.size 5 i0 (.int .u8 0) 1 1 Tryd.underlying22 hi hz0 hz1 hz2 rfl (by decide) _ _ _ rfl (HO.out.alloc _) ⟨wr.heap.size, 0, none⟩ 1 1 [Value.int .u8 (c : Int)] rfl rfl (by intro j u' hj; match j, hj with | 0, hj => simp at hj; subst hj; simp [Addr.add]) (by simp [Value.oneCell']) (by unfold maxLen; omega) (by omega) (by simp; omega) ?_; refine Hid.out ?_)
      refine Lib.hid ?_
      intro v' w4 hown' hgrow _
      have hb4 : Below w.heap.size w w4 := (HB.out.alloc HB.out.size _).grown hgrow (by have := HB.out.size; simp; omega) (fun k ek => (World.ownsRow.lt HO.out k ek).1)
      have HO4 : Hid (w4.ownsRow w.heap.size 5 1 v' 8 (Lib.byteCells ((eight n).take 8))) := by
        rw [eight_take n 7 (by omega), Lib.byteCells_append]
        have : Lib.byteCells [byteAt n (7 - 7)] = [Value.int .u8 (c : Int)] := by simp [Lib.byteCells, ← HC.out]
        rw [this]
        exact hown'
      have HB4 := Lib.hid hb4
      clear hown' hgrow hb4 HC
      go_wp2_with fail
      go_roundw
      case rel => exact ⟨8, by omega, rfl, HO4, HB4⟩
      case measure => simp [intOf]
    · go_wp2_with fail
      go_ret
      exact ⟨_, rfl, HO.out, HB.out⟩
end Go.Proofs.YtlmkegpkodcofaaDoor
