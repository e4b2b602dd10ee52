/- Layer 3: what bytesOf, Ints, Next and Pair of package digest return; nothing that was in memory is changed. -/
import Derived.Test.YtlmkegpkodcofaaDoorInts
namespace Go.Proofs.YtlmkegpkodcofaaDoor
open Go.RowKit Go.Sort Go
set_option linter.unusedVariables false

theorem eight_cells (d : Nat) (hd : d < 18446744073709551616) : (Lib.byteCells (eight d)).toArray = #[.int .u8 ((d : Int) / 72057594037927936), .int .u8 ((d : Int) / 281474976710656 % 256), .int .u8 ((d : Int) / 1099511627776 % 256), .int .u8 ((d : Int) / 4294967296 % 256), .int .u8 ((d : Int) / 16777216 % 256), .int .u8 ((d : Int) / 65536 % 256), .int .u8 ((d : Int) / 256 % 256), .int .u8 ((d : Int) % 256)] := by
  have e7 : ((byteAt d 7).toNat : Int) = (d : Int) / 72057594037927936 := by rw [byteAt_toNat]; omega
  have e6 : ((byteAt d 6).toNat : Int) = (d : Int) / 281474976710656 % 256 := by rw [byteAt_toNat]; omega
  have e5 : ((byteAt d 5).toNat : Int) = (d : Int) / 1099511627776 % 256 := by rw [byteAt_toNat]; omega
  have e4 : ((byteAt d 4).toNat : Int) = (d : Int) / 4294967296 % 256 := by rw [byteAt_toNat]; omega
  have e3 : ((byteAt d 3).toNat : Int) = (d : Int) / 16777216 % 256 := by rw [byteAt_toNat]; omega
  have e2 : ((byteAt d 2).toNat : Int) = (d : Int) / 65536 % 256 := by rw [byteAt_toNat]; omega
  have e1 : ((byteAt d 1).toNat : Int) = (d : Int) / 256 % 256 := by rw [byteAt_toNat]; omega
  have e0 : ((byteAt d 0).toNat : Int) = (d : Int) % 256 := by rw [byteAt_toNat]; omega
  simp only [eight, Lib.byteCells, List.map_cons, List.map_nil, e7, e6, e5, e4, e3, e2, e1, e0]

set_option maxHeartbeats 2000000 in
theorem bytesOf_any (d : Nat) (hd : d < 18446744073709551616) (w : World) :
    Calls Tryd.prog 23 #[.int .u64 d] w (Gives (.agg (Lib.byteCells (eight d)).toArray) w) := by
  go_enter Tryd.func23, Tryd.ntmps23
  go_wp2_with fail
  refine wp_loop_rounds 9 ?_
  rw [rounds_succ]
  go_wp2_with fail
  rw [rounds_succ]
  go_wp2_with fail
  rw [rounds_succ]
  go_wp2_with fail
  rw [rounds_succ]
  go_wp2_with fail
  rw [rounds_succ]
  go_wp2_with fail
  rw [rounds_succ]
  go_wp2_with fail
  rw [rounds_succ]
  go_wp2_with fail
  rw [rounds_succ]
  go_wp2_with fail
  rw [rounds_succ]
  go_wp2_with fail
  refine bodyPost_ret (results_cell_row rfl _ _ w.heap.size 43 _ (0, 0) _ rfl ((_root_.Go.heap_alloc_old _ _ (by simp)).trans (heap_alloc_new w _)) Tryd.underlying43 rfl (by kernel_rfl)) rfl ⟨?_, ?_⟩
  · rw [eight_cells d hd]
  · exact ((Below.refl _ _).alloc (Nat.le_refl _) _).alloc (by simp) _
end Go.Proofs.YtlmkegpkodcofaaDoor
