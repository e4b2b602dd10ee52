/- Layer 4: the reference's Frame. -/
import Derived.Test.YtdambggcaimndaaRSum
namespace Go.Proofs.Ytdambggcaimndaa
open Go.RowKit Go.Sort Go
set_option linter.unusedVariables false

theorem three_parts (n : Nat) (h : n ≤ 60000) : ∃ x1 x0 : UInt8, three n = [0, x1, x0] ∧ IntKind.u8.wrap ((n : Int) / 256) = (x1.toNat : Int) ∧ IntKind.u8.wrap ((n : Int) % 256) = (x0.toNat : Int) := by
  refine ⟨byteAt n 1, byteAt n 0, ?_, ?_, ?_⟩
  · have e : byteAt n 2 = 0 := by
      apply UInt8.toNat_inj.1
      rw [byteAt_toNat]
      show _ = 0
      omega
    rw [three, e]
  · rw [byteAt_toNat, IntKind.wrap_u8']; omega
  · rw [byteAt_toNat, IntKind.wrap_u8']; omega

theorem rmake_no (A : Option Addr) (len cap : Nat) (l : List Int) (w : World) (hr : RowI w.heap.size w A len l) (hl : 1000 < len) (hl2 : len ≤ 9223372036854775807) :
    Calls Try.prog 15 #[.slice A len cap] w (Gives (.tuple #[.slice none 0 0, .int .i64 2]) w) := by
  have P := Lib.hid (rput_no A len cap l w hr hl hl2)
  clear hr
  go_enter Try.func15, Try.ntmps15
  go_wp2_with (go_at_call 12; refine P.out.mono ?_; rintro e w1 ⟨rfl, b1⟩)
  go_ret2
  exact ⟨rfl, b1⟩

set_option maxHeartbeats 4000000 in
theorem rmake_ok (A : Option Addr) (len cap : Nat) (l : List Int) (w : World) (hr : RowI w.heap.size w A len l) (hl : len ≤ 1000) :
    Calls Try.prog 15 #[.slice A len cap] w fun e w' => ∃ A' n' cap', e = .returned (.tuple #[.slice A' n' cap', .int .i64 0]) ∧ Made w.heap.size (frameB l) w A' n' cap' w' := by
  have P := Lib.hid (rput_ok A len cap l w hr hl)
  have hlb : (listB l).length ≤ 10002 := OkL.len ⟨by have := hr.1; omega, hr.2.2⟩
  clear hr
  go_enter Try.func15, Try.ntmps15
  go_wp2_with (go_at_call 12; refine P.out.mono ?_; rintro e w1 ⟨A1, n1, cap1, rfl, m1⟩; refine Hid.out ?_)
  refine Lib.hid ?_
  have hn1 : n1 ≤ 10002 := by have := m1.1; omega
  have hz1 := m1.2.2.2.2.2.size
  have hnn : n1 = (listB l).length := m1.1
  obtain ⟨x1, x0, h3, e1, e0⟩ := three_parts n1 (by omega)
  have hh : Hid (0 :: x1 :: x0 :: listB l = headB l) := by show _ = _; rw [headB, ← hnn, h3]; rfl
  have M1 := Lib.hid m1
  have HN := Lib.hid hnn
  clear m1 hnn h3
  obtain ⟨W2, hW2⟩ : ∃ W, w1.alloc (.cells #[.int .u8 0, .int .u8 (x1.toNat : Int), .int .u8 (x0.toNat : Int)] 5) = W := ⟨_, rfl⟩
  have HO2 : Hid (Own w1.heap.size W2 (.slice (some ⟨w1.heap.size, 0, none⟩) 3 3) [0, x1, x0]) := by rw [← hW2]; exact own_new w1 [0, x1, x0] w1.heap.size (Nat.le_refl _) (by simp [maxLen])
  have BW2 : Hid (Below w1.heap.size w1 W2) := by rw [← hW2]; exact below_alloc _ _
  have R1 := Lib.hid (M1.out.2.2.2.2.1.step BW2.out)
  have hz2 := BW2.out.size
  go_wp2_with (refine wpList_app8 rfl _ _ rfl w1.heap.size (.slice (some ⟨w1.heap.size, 0, none⟩) 3 3) [0, x1, x0] rfl HO2.out _ _ _ _ _ rfl M1.out.2.2.1 R1.out (by simp; omega) hz2 ?_; refine Hid.out ?_)
  refine Lib.hid ?_
  clear hW2
  intro v3 w3 o3 g3
  have hb3 : Below w1.heap.size w1 w3 := BW2.out.grown g3 hz2 (own_grown (w' := w) HO2.out)
  rw [hh.out] at o3
  obtain ⟨A3, n3, cap3, rfl, m3⟩ := Own.made o3 hb3
  have hn3 : n3 ≤ 10005 := by have h1 := m3.1; have := headB_len l; omega
  have hz3 := hb3.size
  have S := Lib.hid (rsum4_any A3 n3 cap3 (headB l) w3 m3.2.2.2.2.1 (by omega))
  have HB3 := Lib.hid hb3
  have M3 := Lib.hid m3
  clear m3 o3 g3 hb3
  have hfr : Hid (headB l ++ eight (fnv fnv0 (headB l)) = frameB l) := rfl
  generalize fnv fnv0 (headB l) = d at S hfr
  go_wp2_with (go_at_call 29; refine S.out.mono ?_; rintro e w4 ⟨A4, n4, cap4, rfl, m4⟩; refine Hid.out ?_)
  refine Lib.hid ?_
  have hb4 := m4.2.2.2.2.2
  have HO4 : Hid (Own w1.heap.size w4 (.slice A3 n3 cap3) (headB l)) := own_below M3.out.2.2.2.1 hb4
  have HB4 := Lib.hid (HB3.out.trans (hb4.mono hz3))
  have hz4 := HB4.out.size
  have M4 := Lib.hid m4
  clear m4 hb4
  go_wp2_with (refine wpList_app8 rfl _ _ rfl w1.heap.size _ _ rfl HO4.out _ _ _ _ _ rfl M4.out.2.2.1 M4.out.2.2.2.2.1 (by have := M4.out.1; have := M3.out.1; rw [eight_length] at *; omega) hz4 ?_; refine Hid.out ?_)
  refine Lib.hid ?_
  intro v5 w5 o5 g5
  have hb5 : Below w1.heap.size w1 w5 := HB4.out.grown g5 hz4 (own_grown (w' := w) HO4.out)
  rw [hfr.out] at o5
  obtain ⟨A5, n5, cap5, rfl, m5⟩ := Own.made o5 hb5
  have M5 := Lib.hid m5
  clear m5 o5 g5 hb5
  go_wp2_with fail
  go_ret2
  exact ⟨A5, n5, cap5, rfl, M5.out.1, M5.out.2.1, M5.out.2.2.1, M5.out.2.2.2.1.base hz1, M5.out.2.2.2.2.1, M1.out.2.2.2.2.2.trans (M5.out.2.2.2.2.2.mono hz1)⟩
end Go.Proofs.Ytdambggcaimndaa
