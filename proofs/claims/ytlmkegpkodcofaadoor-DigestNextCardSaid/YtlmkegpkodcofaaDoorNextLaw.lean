/- Layer 3: DigestNext. -/
import Derived.Test.YtlmkegpkodcofaaDoorIntsLaw
namespace Go.Proofs.YtlmkegpkodcofaaDoor
open Go.RowKit Go.Sort Go
set_option linter.unusedVariables false

set_option maxHeartbeats 4000000 in
theorem next_walk (d : Nat) (hd : d < 18446744073709551616) (A : Option Addr) (n cap : Nat) (zs : List Int) (at_ : Int) (by_ wi : Nat) (hby : by_ < 256) (hw : wi < 256) (lo : -9223372036854775808 ≤ at_) (up : at_ ≤ 9223372036854775807) (w : World) (r : RowI w.heap.size w A n zs) (e : A = none → cap = 0) (h100 : n ≤ 100) (ht : Tab w) :
    Calls Tryd.prog 6 #[.int .u64 d, .slice A n cap, .int .i64 at_, .int .u8 by_, .int .u8 wi] w (Gives (.bool true) w) := by
  have HD := Lib.hid (head_true w ht)
  have HT := Lib.hid ht
  have HR := Lib.hid r
  have HE := Lib.hid e
  have HB := Lib.hid hby
  have HW := Lib.hid hw
  have HDD := Lib.hid hd
  have LO := Lib.hid lo
  have UP := Lib.hid up
  have hTl := textOf_length zs r.2.2
  rw [r.1] at hTl
  clear ht r e hby lo up hd hw
  go_enter Tryd.func6, Tryd.ntmps6
  go_wp2_with (go_at_call 9; refine HD.out.mono ?_; rintro e w1 ⟨rfl, bb⟩; refine Hid.out ?_)
  refine Lib.hid ?_
  have B := Lib.hid bb
  have I0 := Lib.hid (next_any d HDD.out A n cap zs w1 (HR.out.step bb) (by omega) (HT.out.step bb))
  obtain ⟨X, hX⟩ : ∃ X, fnv fnv0 (eight d ++ textOf zs) = X := ⟨_, rfl⟩
  have HX := Lib.hid hX
  rw [hX] at I0
  clear bb hX
  go_wp2_with (go_at_call 14; refine I0.out.mono ?_; rintro e w2 ⟨rfl, bb⟩; refine Hid.out ?_)
  refine Lib.hid ?_
  have B := Lib.hid (below_more B.out bb)
  have E0 := Lib.hid (reight_any d HDD.out w2)
  clear bb
  go_wp2_with (go_at_call 20; refine E0.out.mono ?_; rintro e w3 ⟨v3, rfl, ho3, bb⟩; refine Hid.out ?_)
  refine Lib.hid ?_
  have HO := Lib.hid ho3
  have BL := Lib.hid bb
  have T0 := Lib.hid (rtext_any A n cap zs w3 (HR.out.step (below_more B.out bb)) (by omega))
  clear bb ho3
  go_wp2_with (go_at_call 18; refine T0.out.mono ?_; rintro e w4 ⟨v4, rfl, ho4, bb⟩; refine Hid.out ?_)
  refine Lib.hid ?_
  obtain ⟨A4, n4, cap4, rfl, _, _, hn4, r4⟩ := ho4.row
  have HO := Lib.hid (show Own w2.heap.size w4 v3 (eight d) from own_below HO.out bb)
  have BL := Lib.hid (below_more BL.out bb)
  have R4 := Lib.hid r4
  have N4 := Lib.hid hn4
  have L4 := Lib.hid (show (eight d).length + n4 ≤ 1000000000 by rw [eight_length]; have := r4.1; omega)
  clear ho4 r4 hn4 bb
  go_wp2_with (at_builtin; refine wpList_app8w _ _ rfl (by rfl) w2.heap.size v3 (eight d) rfl HO.out A4 n4 cap4 _ _ rfl N4.out R4.out L4.out BL.out.size ?_; refine Hid.out ?_)
  refine Lib.hid ?_
  intro v5 w5 ho5 hg5
  have b5 : Below w2.heap.size w2 w5 := BL.out.grown hg5 BL.out.size (own_grown (w' := w) HO.out)
  obtain ⟨A5, n5, cap5, rfl, _, _, _, r5⟩ := ho5.row
  have S0 := Lib.hid (sum_any A5 n5 cap5 _ w5 r5 (by have := r5.1; rw [List.length_append, eight_length] at this; omega))
  rw [HX.out] at S0
  have B := Lib.hid (below_more B.out b5)
  clear ho5 hg5 b5 r5
  by_cases h0 : wi = 0
  · subst h0
    have D0 := Lib.hid (digit_any A n cap zs at_ by_ HB.out w5 (HR.out.step B.out) HE.out h100)
    go_wp2_with (first
      | (go_at_call 10; refine S0.out.mono ?_; rintro e w' ⟨rfl, rfl⟩)
      | (go_at_call 19; refine D0.out.mono ?_; rintro e w6 ⟨S, q, rfl, dg, bb⟩; refine Hid.out ?_))
    refine Lib.hid ?_
    have B := Lib.hid (below_more B.out bb)
    clear bb
    rcases dg with rfl | ⟨A6, n6, cap6, j, g, rfl, rfl, r6, hn6, hj, hv0, hd0, hd1, hne⟩
    · go_wp2_with fail
      go_ret
      exact ⟨rfl, B.out⟩
    · have hfin : fnv fnv0 (eight d ++ textOf (zs.set j (zs.getD j 0 - zs.getD j 0 % 10 + g))) ≠ X := by
        rw [← HX.out, fnv_append, fnv_append]
        exact fnv_digit zs j hj g (fnv_lt _ _ fnv0_lt) _ rfl hv0 hd0 hd1 hne
      have I1 := Lib.hid (next_any d HDD.out A6 n6 cap6 _ w6 r6 (by have := HR.out.1; omega) (HT.out.step B.out))
      generalize fnv fnv0 (eight d ++ textOf (zs.set j (zs.getD j 0 - zs.getD j 0 % 10 + g))) = Y at hfin I1
      have hq : ((Y : Int) != (X : Int)) = true := by rw [bne_iff_ne]; omega
      clear hfin r6 hv0 hd0 hd1 hne hj hn6
      go_wp2_with (go_at_call 14; refine I1.out.mono ?_; rintro e w8 ⟨rfl, bb⟩; refine Hid.out ?_)
      refine Lib.hid ?_
      have B := Lib.hid (below_more B.out bb)
      clear bb
      go_wp2_with fail
      go_ret
      exact ⟨rfl, B.out⟩
  · have hw0 : (0 : Int) < (wi : Int) := by omega
    obtain ⟨k, hk, hK⟩ := place at_
    obtain ⟨C, hC⟩ : ∃ C : Nat, wi * 2 ^ (8 * k) = C := ⟨_, rfl⟩
    have hw1 := place_wraps at_ LO.out UP.out
    have hw2 := place_wraps2 k hk
    have hsh := shift_at wi k HW.out hk
    have hww : IntKind.u64.wrap (wi : Int) = (wi : Int) := by have := HW.out; rw [IntKind.wrap_u64]; omega
    have hC64 := shift_lt wi k HW.out hk
    have hx1 := xor_lt64 d wi k HDD.out HW.out hk
    have n1 := fnv_eight [] (textOf zs) d wi k HW.out (by omega) hk fnv0_lt
    rw [hC] at hsh hC64 hx1 n1
    rw [List.nil_append, List.nil_append, HX.out] at n1
    have x1 := bits_xor_u64_nat d C HDD.out hC64
    have P1 := Lib.hid (next_any (d ^^^ C) hx1 A n cap zs w5 (HR.out.step B.out) (by omega) (HT.out.step B.out))
    generalize fnv fnv0 (eight (d ^^^ C) ++ textOf zs) = X1 at P1 n1
    generalize d ^^^ C = dC at x1 P1
    have n2 : ((X1 : Int) == (X : Int)) = false := by rw [beq_eq_false_iff_ne]; omega
    clear n1 hx1 hC64 hC
    go_wp2_with (first
      | (go_at_call 10; refine S0.out.mono ?_; rintro e w' ⟨rfl, rfl⟩)
      | (go_at_call 14; refine P1.out.mono ?_; rintro e w6 ⟨rfl, bb⟩; refine Hid.out ?_))
    refine Lib.hid ?_
    have B := Lib.hid (below_more B.out bb)
    have D0 := Lib.hid (digit_any A n cap zs at_ by_ HB.out w6 (HR.out.step B.out) HE.out h100)
    clear bb hsh x1 hw1 hw2 hK hww
    go_wp2_with (go_at_call 19; refine D0.out.mono ?_; rintro e w7 ⟨S, q, rfl, dg, bb⟩; refine Hid.out ?_)
    refine Lib.hid ?_
    have B := Lib.hid (below_more B.out bb)
    clear bb
    rcases dg with rfl | ⟨A6, n6, cap6, j, g, rfl, rfl, r6, hn6, hj, hv0, hd0, hd1, hne⟩
    · go_wp2_with fail
      go_ret
      exact ⟨rfl, B.out⟩
    · have hfin : fnv fnv0 (eight d ++ textOf (zs.set j (zs.getD j 0 - zs.getD j 0 % 10 + g))) ≠ X := by
        rw [← HX.out, fnv_append, fnv_append]
        exact fnv_digit zs j hj g (fnv_lt _ _ fnv0_lt) _ rfl hv0 hd0 hd1 hne
      have I1 := Lib.hid (next_any d HDD.out A6 n6 cap6 _ w7 r6 (by have := HR.out.1; omega) (HT.out.step B.out))
      generalize fnv fnv0 (eight d ++ textOf (zs.set j (zs.getD j 0 - zs.getD j 0 % 10 + g))) = Y at hfin I1
      have hq : ((Y : Int) != (X : Int)) = true := by rw [bne_iff_ne]; omega
      clear hfin r6 hv0 hd0 hd1 hne hj hn6
      go_wp2_with (go_at_call 14; refine I1.out.mono ?_; rintro e w8 ⟨rfl, bb⟩; refine Hid.out ?_)
      refine Lib.hid ?_
      have B := Lib.hid (below_more B.out bb)
      clear bb
      go_wp2_with fail
      go_ret
      exact ⟨rfl, B.out⟩

theorem next_long (d : Int) (A : Option Addr) (n cap : Nat) (at_ by_ wi : Int) (w : World) (h100 : 100 < n) (ht : Tab w) :
    Calls Tryd.prog 6 #[.int .u64 d, .slice A n cap, .int .i64 at_, .int .u8 by_, .int .u8 wi] w (Gives (.bool true) w) := by
  have HD := Lib.hid (head_true w ht)
  clear ht
  go_enter Tryd.func6, Tryd.ntmps6
  go_wp2_with (go_at_call 9; refine HD.out.mono ?_; rintro e w1 ⟨rfl, bb⟩; refine Hid.out ?_)
  refine Lib.hid ?_
  go_wp2_with fail
  go_ret
  exact ⟨rfl, bb⟩

theorem next_law (x0 : Int) (A1 : Option Addr) (n1 cap1 : Nat) (zs : List Int) (x2 x3 x4 : Int) (w : World)
    (w0 : (Lit.int .u64 x0).wf = true) (r1 : RowI w.heap.size w A1 n1 zs) (l1 : n1 ≤ cap1) (m1 : cap1 ≤ 9223372036854775807) (e1 : A1 = none → cap1 = 0) (w2 : (Lit.int .i64 x2).wf = true) (w3 : (Lit.int .u8 x3).wf = true) (w4 : (Lit.int .u8 x4).wf = true) (ht : Tab w) :
    Calls Tryd.prog 6 #[.int .u64 x0, .slice A1 n1 cap1, .int .i64 x2, .int .u8 x3, .int .u8 x4] w (Gives (.bool true) w) := by
  obtain ⟨a1, a2⟩ := u64_wf w0
  obtain ⟨b1, b2⟩ := u8_wf w3
  obtain ⟨c1, c2⟩ := u8_wf w4
  obtain ⟨f1, f2⟩ := i64_wf w2
  obtain ⟨d, rfl⟩ : ∃ a : Nat, x0 = (a : Int) := ⟨x0.toNat, by omega⟩
  obtain ⟨b, rfl⟩ : ∃ a : Nat, x3 = (a : Int) := ⟨x3.toNat, by omega⟩
  obtain ⟨c, rfl⟩ : ∃ a : Nat, x4 = (a : Int) := ⟨x4.toNat, by omega⟩
  by_cases hl : 100 < n1
  · exact next_long d A1 n1 cap1 x2 b c w hl ht
  · exact next_walk d (by omega) A1 n1 cap1 zs x2 b c (by omega) (by omega) f1 f2 w r1 e1 (by omega) ht
end Go.Proofs.YtlmkegpkodcofaaDoor
