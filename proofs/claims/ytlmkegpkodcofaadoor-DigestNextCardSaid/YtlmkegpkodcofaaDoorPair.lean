/- Layer 3: what Pair of package digest returns; nothing that was in memory is changed. -/
import Derived.Laws.CopyOwn
import Derived.Test.YtlmkegpkodcofaaDoorNext
namespace Go.Proofs.YtlmkegpkodcofaaDoor
open Go.RowKit Go.Sort Go
set_option linter.unusedVariables false

set_option maxHeartbeats 2000000 in
theorem pair_any (a b : Nat) (ha : a < 18446744073709551616) (hb : b < 18446744073709551616) (w : World) :
    Calls Tryd.prog 16 #[.int .u64 a, .int .u64 b] w (Gives (.int .u64 (fnv fnv0 (1 :: (eight a ++ eight b)) : Int)) w) := by
  obtain ⟨x0, x1, x2, x3, x4, x5, x6, x7, hx⟩ := eight_parts a
  obtain ⟨y0, y1, y2, y3, y4, y5, y6, y7, hy⟩ := eight_parts b
  have HX := Lib.hid hx
  have HY := Lib.hid hy
  have HA : Hid (∀ w, Calls Tryd.prog 23 #[.int .u64 a] w (Gives (.agg #[.int .u8 (x0.toNat : Int), .int .u8 (x1.toNat : Int), .int .u8 (x2.toNat : Int), .int .u8 (x3.toNat : Int), .int .u8 (x4.toNat : Int), .int .u8 (x5.toNat : Int), .int .u8 (x6.toNat : Int), .int .u8 (x7.toNat : Int)]) w)) := fun w => by
    have := bytesOf_any a ha w
    rwa [hx] at this
  have HB : Hid (∀ w, Calls Tryd.prog 23 #[.int .u64 b] w (Gives (.agg #[.int .u8 (y0.toNat : Int), .int .u8 (y1.toNat : Int), .int .u8 (y2.toNat : Int), .int .u8 (y3.toNat : Int), .int .u8 (y4.toNat : Int), .int .u8 (y5.toNat : Int), .int .u8 (y6.toNat : Int), .int .u8 (y7.toNat : Int)]) w)) := fun w => by
    have := bytesOf_any b hb w
    rwa [hy] at this
  clear hx hy
  go_enter Tryd.func16, Tryd.ntmps16
  go_wp2_with (go_at_call 23; refine (HA.out _).mono ?_; rintro e w1 ⟨rfl, hb1⟩; refine Hid.out ?_)
  refine Lib.hid ?_
  have HB1 := Lib.hid hb1
  clear hb1
  go_wp2_with (go_at_call 23; refine (HB.out _).mono ?_; rintro e w2 ⟨rfl, hb2⟩; refine Hid.out ?_)
  refine Lib.hid ?_
  have HB2 := Lib.hid (below_more HB1.out hb2)
  clear hb2
  obtain ⟨W, hW⟩ : ∃ W, ((w2.alloc (.cells #[.int .u8 (x0.toNat : Int), .int .u8 (x1.toNat : Int), .int .u8 (x2.toNat : Int), .int .u8 (x3.toNat : Int), .int .u8 (x4.toNat : Int), .int .u8 (x5.toNat : Int), .int .u8 (x6.toNat : Int), .int .u8 (x7.toNat : Int)] 43)).alloc (.cells #[.int .u8 (y0.toNat : Int), .int .u8 (y1.toNat : Int), .int .u8 (y2.toNat : Int), .int .u8 (y3.toNat : Int), .int .u8 (y4.toNat : Int), .int .u8 (y5.toNat : Int), .int .u8 (y6.toNat : Int), .int .u8 (y7.toNat : Int)] 43)).alloc (.cells #[.int .u8 1, .int .u8 0, .int .u8 0, .int .u8 0, .int .u8 0, .int .u8 0, .int .u8 0, .int .u8 0, .int .u8 0, .int .u8 0, .int .u8 0, .int .u8 0, .int .u8 0, .int .u8 0, .int .u8 0, .int .u8 0, .int .u8 0] 45) = W := ⟨_, rfl⟩
  obtain ⟨g, hg⟩ : ∃ g, g = w2.heap.size + 1 + 1 := ⟨_, rfl⟩
  have FX : Hid (∀ j v, (Lib.byteCells (eight a))[j]? = some v → W.cell? ((⟨w2.heap.size, 0, none⟩ : Addr).add j) = some v) := by
    show ∀ j v, _
    intro j v hj
    have h1 := inRow_new w2 43 (Lib.byteCells (eight a))
    have h2 : InRow W w2.heap.size 43 8 (Lib.byteCells (eight a)) := by
      rw [← hW]
      refine (InRow.alloc (InRow.alloc ?_ _) _)
      rw [HX.out] at h1 ⊢
      exact h1
    obtain ⟨hl, e⟩ := List.getElem?_eq_some_iff.1 hj
    rw [h2.cell j hl, e]
  have FY : Hid (∀ j v, (Lib.byteCells (eight b))[j]? = some v → W.cell? ((⟨w2.heap.size + 1, 0, none⟩ : Addr).add j) = some v) := by
    show ∀ j v, _
    intro j v hj
    have h2 : InRow W (w2.heap.size + 1) 43 8 (Lib.byteCells (eight b)) := by
      rw [← hW]
      refine (InRow.alloc ?_ _)
      have h1 := inRow_new (w2.alloc (.cells #[.int .u8 (x0.toNat : Int), .int .u8 (x1.toNat : Int), .int .u8 (x2.toNat : Int), .int .u8 (x3.toNat : Int), .int .u8 (x4.toNat : Int), .int .u8 (x5.toNat : Int), .int .u8 (x6.toNat : Int), .int .u8 (x7.toNat : Int)] 43)) 43 (Lib.byteCells (eight b))
      rw [HY.out] at h1 ⊢
      rw [show (w2.alloc (.cells #[.int .u8 (x0.toNat : Int), .int .u8 (x1.toNat : Int), .int .u8 (x2.toNat : Int), .int .u8 (x3.toNat : Int), .int .u8 (x4.toNat : Int), .int .u8 (x5.toNat : Int), .int .u8 (x6.toNat : Int), .int .u8 (x7.toNat : Int)] 43)).heap.size = w2.heap.size + 1 by simp] at h1
      exact h1
    obtain ⟨hl, e⟩ := List.getElem?_eq_some_iff.1 hj
    rw [h2.cell j hl, e]
  have FZ : Hid (W.heap[g]? = some (.cells (List.toArray [.int .u8 1, .int .u8 0, .int .u8 0, .int .u8 0, .int .u8 0, .int .u8 0, .int .u8 0, .int .u8 0, .int .u8 0, .int .u8 0, .int .u8 0, .int .u8 0, .int .u8 0, .int .u8 0, .int .u8 0, .int .u8 0, .int .u8 0]) 45 (0, 0))) := by
    show _ = _
    have := heap_alloc_new ((w2.alloc (.cells #[.int .u8 (x0.toNat : Int), .int .u8 (x1.toNat : Int), .int .u8 (x2.toNat : Int), .int .u8 (x3.toNat : Int), .int .u8 (x4.toNat : Int), .int .u8 (x5.toNat : Int), .int .u8 (x6.toNat : Int), .int .u8 (x7.toNat : Int)] 43)).alloc (.cells #[.int .u8 (y0.toNat : Int), .int .u8 (y1.toNat : Int), .int .u8 (y2.toNat : Int), .int .u8 (y3.toNat : Int), .int .u8 (y4.toNat : Int), .int .u8 (y5.toNat : Int), .int .u8 (y6.toNat : Int), .int .u8 (y7.toNat : Int)] 43)) (.cells #[.int .u8 1, .int .u8 0, .int .u8 0, .int .u8 0, .int .u8 0, .int .u8 0, .int .u8 0, .int .u8 0, .int .u8 0, .int .u8 0, .int .u8 0, .int .u8 0, .int .u8 0, .int .u8 0, .int .u8 0, .int .u8 0, .int .u8 0] 45)
    rw [show ((w2.alloc (.cells #[.int .u8 (x0.toNat : Int), .int .u8 (x1.toNat : Int), .int .u8 (x2.toNat : Int), .int .u8 (x3.toNat : Int), .int .u8 (x4.toNat : Int), .int .u8 (x5.toNat : Int), .int .u8 (x6.toNat : Int), .int .u8 (x7.toNat : Int)] 43)).alloc (.cells #[.int .u8 (y0.toNat : Int), .int .u8 (y1.toNat : Int), .int .u8 (y2.toNat : Int), .int .u8 (y3.toNat : Int), .int .u8 (y4.toNat : Int), .int .u8 (y5.toNat : Int), .int .u8 (y6.toNat : Int), .int .u8 (y7.toNat : Int)] 43)).heap.size = g by rw [hg]; simp, hW] at this
    exact this
  have FB : Hid (Below w.heap.size w W) := by
    rw [← hW]
    have b1 := HB2.out.alloc HB2.out.size (.cells #[.int .u8 (x0.toNat : Int), .int .u8 (x1.toNat : Int), .int .u8 (x2.toNat : Int), .int .u8 (x3.toNat : Int), .int .u8 (x4.toNat : Int), .int .u8 (x5.toNat : Int), .int .u8 (x6.toNat : Int), .int .u8 (x7.toNat : Int)] 43)
    have b2 := b1.alloc b1.size (.cells #[.int .u8 (y0.toNat : Int), .int .u8 (y1.toNat : Int), .int .u8 (y2.toNat : Int), .int .u8 (y3.toNat : Int), .int .u8 (y4.toNat : Int), .int .u8 (y5.toNat : Int), .int .u8 (y6.toNat : Int), .int .u8 (y7.toNat : Int)] 43)
    exact b2.alloc b2.size _
  have hgw : Hid (w.heap.size ≤ g) := by
    show _ ≤ _
    have := HB2.out.size
    omega
  have hs5 : (Tryd.prog.info? 5).map (·.size) = some 1 := by kernel_rfl
  go_wp2_with fail
  rw [← hg]
  have hg2 := Lib.hid hg
  clear hW hg
  go_region_law (refine step_copy_splice (w := W.drew) rfl (.tmp 13) (.tmp 14) 22 22 rfl 5 Tryd.underlying22 hs5 (some ⟨g, 1, none⟩) (some ⟨w2.heap.size, 0, none⟩) 16 16 8 8 (by simp [Act.eval, Act.put]) (by simp [Act.eval, Act.put]) g 1 [.int .u8 1, .int .u8 0, .int .u8 0, .int .u8 0, .int .u8 0, .int .u8 0, .int .u8 0, .int .u8 0, .int .u8 0, .int .u8 0, .int .u8 0, .int .u8 0, .int .u8 0, .int .u8 0, .int .u8 0, .int .u8 0, .int .u8 0] 45 (show W.drew.heap[g]? = _ from FZ.out) (Lib.byteCells (eight a)) (by rw [Lib.byteCells_length]; rfl) (fun _ => ⟨rfl, _, rfl, FX.out⟩) (by rw [Lib.byteCells_length, eight_length]; simp only [List.length_cons, List.length_nil]; omega) (byteCells_one' _) g W (Below.refl g W).drew (Nat.le_refl _) ?_; intro w4 hg4 hb4)
  have FY4 : Hid (∀ j v, (Lib.byteCells (eight b))[j]? = some v → w4.cell? ((⟨w2.heap.size + 1, 0, none⟩ : Addr).add j) = some v) := by
    show ∀ j v, _
    intro j v hj
    rw [hb4.cell (by rw [block_of_add]; have := hg2.out; show w2.heap.size + 1 < g; omega)]
    exact FY.out j v hj
  have FB4 := Lib.hid (FB.out.trans (hb4.mono hgw.out))
  clear hb4
  go_wp2_with fail
  go_region_law (refine step_copy_splice (w := w4.drew) rfl (.tmp 16) (.tmp 17) 22 22 rfl 5 Tryd.underlying22 hs5 (some ⟨g, 9, none⟩) (some ⟨w2.heap.size + 1, 0, none⟩) 8 8 8 8 (by simp [Act.eval, Act.put]) (by simp [Act.eval, Act.put]) g 9 (splice [.int .u8 1, .int .u8 0, .int .u8 0, .int .u8 0, .int .u8 0, .int .u8 0, .int .u8 0, .int .u8 0, .int .u8 0, .int .u8 0, .int .u8 0, .int .u8 0, .int .u8 0, .int .u8 0, .int .u8 0, .int .u8 0, .int .u8 0] 1 (Lib.byteCells (eight a))) 45 (show w4.drew.heap[g]? = _ from hg4.out) (Lib.byteCells (eight b)) (by rw [Lib.byteCells_length]; rfl) (fun _ => ⟨rfl, _, rfl, FY4.out⟩) (by rw [length_splice _ _ _ (by rw [Lib.byteCells_length, eight_length]; simp only [List.length_cons, List.length_nil]; omega), Lib.byteCells_length, eight_length]; simp only [List.length_cons, List.length_nil]; omega) (byteCells_one' _) g w4 (Below.refl g w4).drew (Nat.le_refl _) ?_; intro w5 hg5 hb5)
  have FB5 := Lib.hid (FB4.out.trans (hb5.mono hgw.out))
  have hI : InRow w5 g 45 17 (Lib.byteCells (1 :: (eight a ++ eight b))) := by
    refine ⟨_, hg5.out, ?_, ?_⟩
    · rw [HX.out, HY.out]; rfl
    · rw [HX.out, HY.out]; rfl
  have HS := Lib.hid (sum_any _ _ 17 _ _ (hI.row8 (show 17 = (1 :: (eight a ++ eight b)).length from rfl)) (by omega))
  clear hb5 hI hg5
  go_wp2_with (go_at_call 10; refine HS.out.mono ?_; rintro e w6 ⟨rfl, rfl⟩)
  go_ret
  exact ⟨rfl, FB5.out⟩
end Go.Proofs.YtlmkegpkodcofaaDoor
