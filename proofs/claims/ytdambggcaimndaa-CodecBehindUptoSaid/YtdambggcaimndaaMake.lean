/- Layer 4: Frame of package codec. -/
import Derived.Test.YtdambggcaimndaaPut
namespace Go.Proofs.Ytdambggcaimndaa
open Go.RowKit Go.Sort Go
set_option linter.unusedVariables false

def Made (B : Nat) (bs : List UInt8) (w : World) (A : Option Addr) (n cap : Nat) (w' : World) : Prop :=
  n = bs.length ∧ n ≤ cap ∧ (A = none → cap = 0) ∧ Own B w' (.slice A n cap) bs ∧ Row8 w'.heap.size w' A n bs ∧ Below B w w'

theorem Own.made {B : Nat} {bs : List UInt8} {w w' : World} {v : Value} (h : Own B w' v bs) (b : Below B w w') : ∃ A n cap, v = .slice A n cap ∧ Made B bs w A n cap w' := by
  obtain ⟨A, n, cap, rfl, h1, h2, h3, h4⟩ := h.row
  exact ⟨A, n, cap, rfl, h4.1.symm, h1, h3, h, h4, b⟩

theorem put_ok (A : Option Addr) (len cap : Nat) (l : List Int) (w : World) (hr : RowI w.heap.size w A len l) (hl : len ≤ 1000) :
    Calls Try.prog 11 #[.slice A len cap] w fun e w' => ∃ A' n' cap', e = .returned (.tuple #[.slice A' n' cap', .int .i64 0]) ∧ Made w.heap.size (listB l) w A' n' cap' w' := by
  refine (put_any A len cap l w hr (by omega)).mono ?_
  rintro e w' ⟨hb, ⟨h1, v, rfl, ho⟩ | ⟨h1, rfl⟩⟩
  · obtain ⟨A', n', cap', rfl, hm⟩ := ho.made hb
    exact ⟨A', n', cap', rfl, hm⟩
  · exact absurd h1 (by have := hr.1; omega)
theorem put_no (A : Option Addr) (len cap : Nat) (l : List Int) (w : World) (hr : RowI w.heap.size w A len l) (hl : 1000 < len) (hl2 : len ≤ 9223372036854775807) :
    Calls Try.prog 11 #[.slice A len cap] w (Gives (.tuple #[.slice none 0 0, .int .i64 2]) w) := by
  refine (put_any A len cap l w hr hl2).mono ?_
  rintro e w' ⟨hb, ⟨h1, v, rfl, ho⟩ | ⟨h1, rfl⟩⟩
  · exact absurd h1 (by have := hr.1; omega)
  · exact ⟨rfl, hb⟩

theorem num_made (B0 : Nat) (A : Option Addr) (n cap : Nat) (bs : List UInt8) (d s : Nat) (w : World) (hd : d < 18446744073709551616) (hs : s ≤ 8) (hown : Own B0 w (.slice A n cap) bs) (hB : B0 ≤ w.heap.size) (hl : bs.length ≤ 1000000) :
    Calls Try.prog 27 #[.slice A n cap, .int .u64 d, .int .i64 s] w fun e w' => ∃ A' n' cap', e = .returned (.slice A' n' cap') ∧ Made B0 (bs ++ numB s d) w A' n' cap' w' := by
  refine (app_num B0 _ bs d s w hd hs hown hB hl).mono ?_
  rintro e w' ⟨v, rfl, ho, hb⟩
  obtain ⟨A', n', cap', rfl, hm⟩ := ho.made hb
  exact ⟨A', n', cap', rfl, hm⟩

theorem num3_made (B0 : Nat) (n1 : Nat) (w : World) (h1 : n1 ≤ 10002) (hB : B0 ≤ w.heap.size) :
    Calls Try.prog 27 #[.slice none 0 0, .int .u64 n1, .int .i64 3] w fun e w' => ∃ A' n' cap', e = .returned (.slice A' n' cap') ∧ Made B0 (three n1) w A' n' cap' w' :=
  num_made B0 none 0 0 [] n1 3 w (by omega) (by omega) (World.ownsRow_nil _ _ _ _) hB (by simp)
theorem num8_made (B0 : Nat) (A : Option Addr) (n cap : Nat) (bs : List UInt8) (d : Nat) (w : World) (hd : d < 18446744073709551616) (hown : Own B0 w (.slice A n cap) bs) (hB : B0 ≤ w.heap.size) (hl : bs.length ≤ 1000000) :
    Calls Try.prog 27 #[.slice A n cap, .int .u64 d, .int .i64 8] w fun e w' => ∃ A' n' cap', e = .returned (.slice A' n' cap') ∧ Made B0 (bs ++ eight d) w A' n' cap' w' :=
  num_made B0 A n cap bs d 8 w hd (by omega) hown hB hl

theorem make_no (A : Option Addr) (len cap : Nat) (l : List Int) (w : World) (hr : RowI w.heap.size w A len l) (hl : 1000 < len) (hl2 : len ≤ 9223372036854775807) :
    Calls Try.prog 14 #[.slice A len cap] w (Gives (.tuple #[.slice none 0 0, .int .i64 2]) w) := by
  have P := Lib.hid (put_no A len cap l w hr hl hl2)
  clear hr
  go_enter Try.func14, Try.ntmps14
  go_wp2_with (go_at_call 11; refine P.out.mono ?_; rintro e w1 ⟨rfl, b1⟩)
  go_ret2
  exact ⟨rfl, b1⟩

set_option maxHeartbeats 2000000 in
theorem make_ok (A : Option Addr) (len cap : Nat) (l : List Int) (w : World) (hr : RowI w.heap.size w A len l) (hl : len ≤ 1000) :
    Calls Try.prog 14 #[.slice A len cap] w fun e w' => ∃ A' n' cap', e = .returned (.tuple #[.slice A' n' cap', .int .i64 0]) ∧ Made w.heap.size (frameB l) w A' n' cap' w' := by
  have P := Lib.hid (put_ok A len cap l w hr hl)
  have hlb : (listB l).length ≤ 10002 := OkL.len ⟨by have := hr.1; omega, hr.2.2⟩
  clear hr
  go_enter Try.func14, Try.ntmps14
  go_wp2_with (go_at_call 11; refine P.out.mono ?_; rintro e w1 ⟨A1, n1, cap1, rfl, m1⟩; refine Hid.out ?_)
  refine Lib.hid ?_
  have hn1 : n1 ≤ 10002 := by have := m1.1; omega
  have e1 : IntKind.u64.wrap (n1 : Int) = (n1 : Int) := IntWalk.u64_in _ (by omega)
  have hz1 := m1.2.2.2.2.2.size
  have N3 := num3_made w1.heap.size n1 w1 hn1 (Nat.le_refl _)
  have hnn : n1 = (listB l).length := m1.1
  have hh : Hid (three n1 ++ listB l = headB l) := by show _ = _; rw [headB, ← hnn]
  have N3 := Lib.hid N3
  have M1 := Lib.hid m1
  have HN := Lib.hid hnn
  clear m1 hnn
  go_wp2_with (go_at_call 27; refine N3.out.mono ?_; rintro e w2 ⟨A2, n2, cap2, rfl, m2⟩; refine Hid.out ?_)
  refine Lib.hid ?_
  have M2 := Lib.hid m2
  have hz2 := m2.2.2.2.2.2.size
  have R1 := Lib.hid (M1.out.2.2.2.2.1.step m2.2.2.2.2.2)
  clear m2
  go_wp2_with (refine wpList_app8 rfl _ _ rfl w1.heap.size _ _ rfl M2.out.2.2.2.1 _ _ _ _ _ rfl M1.out.2.2.1 R1.out (by simp [three]; omega) hz2 ?_; refine Hid.out ?_)
  refine Lib.hid ?_
  intro v3 w3 o3 g3
  have hb3 : Below w1.heap.size w1 w3 := M2.out.2.2.2.2.2.grown g3 hz2 (own_grown (w' := w2) M2.out.2.2.2.1)
  rw [hh.out] at o3
  obtain ⟨A3, n3, cap3, rfl, m3⟩ := Own.made o3 hb3
  have hn3 : n3 ≤ 10005 := by have h1 := m3.1; have := headB_len l; omega
  have hz3 := hb3.size
  have S := Lib.hid (sum_any A3 n3 cap3 (headB l) w3 m3.2.2.2.2.1 (by omega))
  have N8 := num8_made w1.heap.size A3 n3 cap3 (headB l) (fnv fnv0 (headB l)) w3 (fnv_lt _ _ fnv0_lt) m3.2.2.2.1 hz3 (by have := m3.1; omega)
  rw [show headB l ++ eight (fnv fnv0 (headB l)) = frameB l from rfl] at N8
  have N8 := Lib.hid N8
  have HB3 := Lib.hid hb3
  clear m3 o3 g3 hb3
  generalize fnv fnv0 (headB l) = d at S N8
  go_wp2_with (first | (go_at_call 28; refine S.out.mono ?_; rintro e w4 ⟨rfl, rfl⟩) | (go_at_call 27; refine N8.out.mono ?_; rintro e w5 ⟨A5, n5, cap5, rfl, m5⟩; have M5 := Lib.hid m5; clear m5))
  go_ret2
  have hb1 := M1.out.2.2.2.2.2
  exact ⟨A5, n5, cap5, rfl, M5.out.1, M5.out.2.1, M5.out.2.2.1, M5.out.2.2.2.1.base hz1, M5.out.2.2.2.2.1, hb1.trans ((HB3.out.trans M5.out.2.2.2.2.2).mono hz1)⟩
end Go.Proofs.Ytdambggcaimndaa
