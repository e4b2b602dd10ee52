/- Layer 4: head returns true. -/
import Derived.OwnWalk
import Derived.Test.YtdambggcaimndaaHead
namespace Go.Proofs.Ytdambggcaimndaa
open Go.RowKit Go.Sort Go
set_option linter.unusedVariables false

set_option maxRecDepth 100000 in
set_option maxHeartbeats 4000000 in
theorem head_true (w : World) : Calls Try.prog 9 #[] w (Gives (.bool true) w) := by
  have P1 := Lib.hid (put_lit [0, -1, 1, 64] _ list_a (by simp) (by simp) #[.int .i64 0, .int .i64 (-1), .int .i64 1, .int .i64 64] rfl 4 rfl)
  have P2 := Lib.hid (put_lit [-9223372036854775808] _ list_b (by simp) (by simp) #[.int .i64 (-9223372036854775808)] rfl 1 rfl)
  have G1 := Lib.hid (get_lit [8, 0, 1, 2, 128, 1] _ get_a (by simp) #[.int .u8 8, .int .u8 0, .int .u8 1, .int .u8 2, .int .u8 128, .int .u8 1] rfl 6 rfl)
  have G2 := Lib.hid (getno_lit [2, 128, 0] get_b (by simp) #[.int .u8 2, .int .u8 128, .int .u8 0] rfl 3 rfl)
  have F1 := Lib.hid (make_lit [5, 6] (frameB [5, 6]) rfl (by simp) (by simp) #[.int .i64 5, .int .i64 6] rfl 2 rfl)
  have hc := list_c
  have ht := Lib.hid told_c
  generalize frameB [5, 6] = cb at F1 hc ht
  have HC := Lib.hid hc
  clear hc
  go_enter Try.func9, Try.ntmps9
  go_wp2_with fail
  refine (P1.out _).mono ?_
  rintro e w1 ⟨A1, n1, cap1, rfl, -, -, -, r1, b1⟩
  have R1 := Lib.hid r1
  have B := Lib.hid b1
  clear r1 b1
  go_wp2_with fail
  refine (P2.out _).mono ?_
  rintro e w2 ⟨A2, n2, cap2, rfl, -, -, -, r2, b2⟩
  have R1 := Lib.hid (R1.out.step b2)
  have B := Lib.hid (below_more B.out b2)
  have R2 := Lib.hid r2
  clear r2 b2
  go_wp2_with fail
  refine (G1.out _).mono ?_
  rintro e w3 ⟨A3, n3, cap3, rfl, r3, b3⟩
  have R1 := Lib.hid (R1.out.step b3)
  have R2 := Lib.hid (R2.out.step b3)
  have B := Lib.hid (below_more B.out b3)
  have R3 := Lib.hid r3
  clear r3 b3
  go_wp2_with fail
  refine (G2.out _).mono ?_
  rintro e w4 ⟨rfl, b4⟩
  have R1 := Lib.hid (R1.out.step b4)
  have R2 := Lib.hid (R2.out.step b4)
  have R3 := Lib.hid (R3.out.step b4)
  have B := Lib.hid (below_more B.out b4)
  clear b4
  go_wp2_with fail
  refine (F1.out _).mono ?_
  rintro e w5 ⟨A5, n5, cap5, rfl, h5, -, n05, r5, b5⟩
  have R1 := Lib.hid (R1.out.step b5)
  have R2 := Lib.hid (R2.out.step b5)
  have R3 := Lib.hid (R3.out.step b5)
  have B := Lib.hid (below_more B.out b5)
  have R5 := Lib.hid r5
  have N5 := Lib.hid n05
  rw [HC.out] at h5
  subst h5
  clear r5 b5 n05
  obtain ⟨W6, hW6⟩ : ∃ W, w5.alloc (.cells #[] 5) = W := ⟨_, rfl⟩
  have HO6 : Hid (Own w5.heap.size W6 (.slice (some ⟨w5.heap.size, 0, none⟩) 0 0) []) := by rw [← hW6]; exact own_new w5 [] w5.heap.size (Nat.le_refl _) (by simp [maxLen])
  have BW6 : Hid (Below w5.heap.size w5 W6) := by rw [← hW6]; exact below_alloc _ _
  have RA6 := Lib.hid (R5.out.step BW6.out)
  go_wp2_with (refine wpList_app8 rfl _ _ rfl w5.heap.size (.slice (some ⟨w5.heap.size, 0, none⟩) 0 0) [] rfl HO6.out _ _ _ _ _ rfl N5.out RA6.out (by simp) BW6.out.size ?_; refine Hid.out ?_)
  refine Lib.hid ?_
  intro v7 w7 ho7 hg7
  have bx7 : Below w5.heap.size w5 w7 := BW6.out.grown hg7 BW6.out.size (own_grown (w' := w) HO6.out)
  clear hW6 hg7 HO6 RA6
  have HO7 := Lib.hid (World.ownsRow.alloc ho7 (.cells #[.int .u8 0, .int .u8 0] 5))
  have r7 : Row8 _ (w7.alloc (.cells #[.int .u8 0, .int .u8 0] 5)) (some ⟨w7.heap.size, 0, none⟩) 2 [0, 0] := row8_new w7 [0, 0] 2 rfl
  have R7 := Lib.hid r7
  have hz7 := bx7.size
  have BX7 := Lib.hid bx7
  obtain ⟨A7, cap7, rfl, -⟩ := own_row ho7
  clear r7 ho7 bx7
  go_wp2_with (refine wpList_app8 rfl _ _ rfl w5.heap.size _ _ rfl HO7.out _ _ _ _ _ rfl (by simp) R7.out (by have := HC.out; omega) (by simp; omega) ?_; refine Hid.out ?_)
  refine Lib.hid ?_
  intro v8 w8 ho8 hg8
  have ba7 := below_alloc w7 (.cells #[.int .u8 0, .int .u8 0] 5)
  have bx8 : Below w5.heap.size w5 w8 := (below_more BX7.out ba7).grown hg8 (by simp; omega) (own_grown (w' := w) HO7.out)
  obtain ⟨A8, n8, cap8, rfl, h8, -, -, r8⟩ := Own.row ho8
  have hn8 : n8 ≤ 100000 := by have h1 := r8.1; have h2 := HC.out; simp at h1; omega
  have R1 := Lib.hid (R1.out.step bx8)
  have R2 := Lib.hid (R2.out.step bx8)
  have R3 := Lib.hid (R3.out.step bx8)
  have B := Lib.hid (below_more B.out bx8)
  have F := Lib.hid (frames_row A8 n8 cap8 _ _ 14 w8 r8 hn8 h8 ht.out)
  clear r8 ho8 hg8 bx8 ba7 BX7 HO7 R7 BW6 R5 N5 HC ht
  go_wp2_with (go_at_call 19; refine F.out.mono ?_; rintro e w9 ⟨A9, n9, cap9, rfl, -, r9, b9⟩; refine Hid.out ?_)
  refine Lib.hid ?_
  have R1 := Lib.hid (R1.out.step b9)
  have R2 := Lib.hid (R2.out.step b9)
  have R3 := Lib.hid (R3.out.step b9)
  have B := Lib.hid (below_more B.out b9)
  have R9 := Lib.hid r9
  clear r9 b9 F
  go_wp2_with (go_at_call 13; refine Hid.out ?_)
  refine Lib.hid ?_
  refine (same_lit _ (by simp) #[.int .u8 8, .int .u8 0, .int .u8 1, .int .u8 2, .int .u8 128, .int .u8 1] rfl 6 rfl _ _ _ _ R1.out).mono ?_
  rintro e w10 ⟨rfl, b10⟩
  have R2 := Lib.hid (R2.out.step b10)
  have R3 := Lib.hid (R3.out.step b10)
  have R9 := Lib.hid (R9.out.step b10)
  have B := Lib.hid (below_more B.out b10)
  clear b10
  go_wp2_with (go_at_call 13; refine Hid.out ?_)
  refine Lib.hid ?_
  refine (same_lit _ (by simp) #[.int .u8 2, .int .u8 255, .int .u8 255, .int .u8 255, .int .u8 255, .int .u8 255, .int .u8 255, .int .u8 255, .int .u8 255, .int .u8 255, .int .u8 1] rfl 11 rfl _ _ _ _ R2.out).mono ?_
  rintro e w11 ⟨rfl, b11⟩
  have R3 := Lib.hid (R3.out.step b11)
  have R9 := Lib.hid (R9.out.step b11)
  have B := Lib.hid (below_more B.out b11)
  clear b11
  go_wp2_with (go_at_call 18; refine Hid.out ?_)
  refine Lib.hid ?_
  refine (ints_lit _ (by simp) #[.int .i64 0, .int .i64 (-1), .int .i64 1, .int .i64 64] rfl 4 rfl _ _ _ _ R3.out).mono ?_
  rintro e w12 ⟨rfl, b12⟩
  have R9 := Lib.hid (R9.out.step b12)
  have B := Lib.hid (below_more B.out b12)
  clear b12
  go_wp2_with (go_at_call 21; refine Hid.out ?_)
  refine Lib.hid ?_
  refine (lists_lit _ _ _ _ R9.out).mono ?_
  rintro e w13 ⟨rfl, b13⟩
  have B := Lib.hid (below_more B.out b13)
  clear b13
  go_wp2_with fail
  go_ret
  exact ⟨rfl, B.out⟩
end Go.Proofs.Ytdambggcaimndaa
