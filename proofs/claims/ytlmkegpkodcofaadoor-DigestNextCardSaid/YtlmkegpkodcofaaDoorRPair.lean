/- Layer 3: the reference's Pair. -/
import Derived.Test.YtlmkegpkodcofaaDoorApps
namespace Go.Proofs.YtlmkegpkodcofaaDoor
open Go.RowKit Go.Sort Go
set_option linter.unusedVariables false

/-- A new slice of bytes written out. -/
theorem own_new (w : World) (bs : List UInt8) (B : Nat) (hB : B ≤ w.heap.size) (hn : bs.length ≤ maxLen) : Own B (w.alloc (.cells (Lib.byteCells bs).toArray 5)) (.slice (some ⟨w.heap.size, 0, none⟩) bs.length bs.length) bs := by
  exact World.ownsRow_lit (base := B) (e := 5) (size := 1) w (Lib.byteCells bs).toArray bs.length hB hn (by simp [Lib.byteCells])

set_option maxHeartbeats 2000000 in
theorem rpair_any (a b : Nat) (ha : a < 18446744073709551616) (hb : b < 18446744073709551616) (w : World) :
    Calls Tryd.prog 17 #[.int .u64 a, .int .u64 b] w (Gives (.int .u64 (fnv fnv0 (1 :: (eight a ++ eight b)) : Int)) w) := by
  have HA := Lib.hid (reight_any a ha)
  have HB := Lib.hid (reight_any b hb)
  clear ha hb
  go_enter Tryd.func17, Tryd.ntmps17
  have HO0 : Hid (Own w.heap.size (w.alloc (.cells #[.int .u8 1] 5)) (.slice (some ⟨w.heap.size, 0, none⟩) 1 1) [1]) := own_new w [1] w.heap.size (Nat.le_refl _) (by simp [maxLen])
  have HB0 : Hid (Below w.heap.size w (w.alloc (.cells #[.int .u8 1] 5))) := (Below.refl _ _).alloc (Nat.le_refl _) _
  have l8 := eight_length a
  have l8b := eight_length b
  go_wp2_with (go_at_call 20; refine (HA.out _).mono ?_; rintro e w1 ⟨v1, rfl, ho1, hb1⟩; refine Hid.out ?_)
  refine Lib.hid ?_
  obtain ⟨A1, n1, cap1, rfl, _, _, hn1, hr1⟩ := ho1.row
  have HO := Lib.hid (show Own w.heap.size w1 _ [1] from own_below HO0.out hb1)
  have HBB := Lib.hid (below_more HB0.out hb1)
  have HR1 := Lib.hid hr1
  have HN1 := Lib.hid hn1
  have hlen : ([1] : List UInt8).length + n1 ≤ 1000000000 := by have := hr1.1; simp only [List.length_cons, List.length_nil]; omega
  clear ho1 hb1 hr1 hn1
  go_wp2_with (at_builtin; refine wpList_app8 rfl _ _ rfl w.heap.size (.slice (some ⟨w.heap.size, 0, none⟩) 1 1) [1] rfl HO.out A1 n1 cap1 _ _ rfl HN1.out HR1.out hlen HBB.out.size ?_; refine Hid.out ?_)
  refine Lib.hid ?_
  intro v2 w2 ho2 hg2
  have hb2 : Below w.heap.size w w2 := HBB.out.grown hg2 HBB.out.size (own_grown (w' := w) HO.out)
  have HO2 := Lib.hid ho2
  have HB2 := Lib.hid hb2
  clear ho2 hb2 hg2 hlen
  go_wp2_with (go_at_call 20; refine (HB.out _).mono ?_; rintro e w3 ⟨v3, rfl, ho3, hb3⟩; refine Hid.out ?_)
  refine Lib.hid ?_
  obtain ⟨A3, n3, cap3, rfl, _, _, hn3, hr3⟩ := ho3.row
  have HO3 := Lib.hid (show Own w.heap.size w3 v2 ([1] ++ eight a) from own_below HO2.out hb3)
  have HB3 := Lib.hid (below_more HB2.out hb3)
  have HR3 := Lib.hid hr3
  have HN3 := Lib.hid hn3
  have hlen : ([1] ++ eight a : List UInt8).length + n3 ≤ 1000000000 := by have := hr3.1; simp only [List.length_append, List.length_cons, List.length_nil]; omega
  clear ho3 hb3 hr3 hn3
  go_wp2_with (at_builtin; refine wpList_app8 rfl _ _ rfl w.heap.size v2 ([1] ++ eight a) rfl HO3.out A3 n3 cap3 _ _ rfl HN3.out HR3.out hlen HB3.out.size ?_; refine Hid.out ?_)
  refine Lib.hid ?_
  intro v4 w4 ho4 hg4
  have hb4 : Below w.heap.size w w4 := HB3.out.grown hg4 HB3.out.size (own_grown (w' := w) HO3.out)
  obtain ⟨A5, n5, cap5, rfl, _, _, _, hr5⟩ := ho4.row
  have HS := Lib.hid (rsum_any A5 _ cap5 _ w4 hr5 (by have := hr5.1; simp at this; omega))
  have HB4 := Lib.hid hb4
  clear ho4 hr5 hb4 hg4 hlen
  go_wp2_with (go_at_call 11; refine HS.out.mono ?_; rintro e w6 ⟨rfl, rfl⟩)
  go_ret
  exact ⟨rfl, HB4.out⟩
end Go.Proofs.YtlmkegpkodcofaaDoor
