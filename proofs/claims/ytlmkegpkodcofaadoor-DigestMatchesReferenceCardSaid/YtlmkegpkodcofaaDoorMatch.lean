/- Layer 3: DigestMatchesReference. -/
import Derived.Test.YtlmkegpkodcofaaDoorPairLaw
namespace Go.Proofs.YtlmkegpkodcofaaDoor
open Go.RowKit Go.Sort Go
set_option linter.unusedVariables false

set_option maxHeartbeats 2000000 in
theorem match_walk (A0 : Option Addr) (n0 cap0 : Nat) (bs : List UInt8) (A1 : Option Addr) (n1 cap1 : Nat) (zs : List Int) (c d : Nat) (hc : c < 18446744073709551616) (hd : d < 18446744073709551616) (w : World)
    (r0 : Row8 w.heap.size w A0 n0 bs) (m0 : n0 ≤ 9223372036854775807) (r1 : RowI w.heap.size w A1 n1 zs) (m1 : n1 ≤ 9223372036854775807) (ht : Tab w) :
    Calls Tryd.prog 3 #[.slice A0 n0 cap0, .slice A1 n1 cap1, .int .u64 c, .int .u64 d] w (Gives (.bool true) w) := by
  have HD := Lib.hid (head_true w ht)
  have HT := Lib.hid ht
  have R0 := Lib.hid r0
  have R1 := Lib.hid r1
  clear ht r0 r1
  by_cases h0 : n0 ≤ 300
  · by_cases h1 : n1 ≤ 300
    · go_enter Tryd.func3, Tryd.ntmps3
      go_wp2_with (go_at_call 9; refine HD.out.mono ?_; rintro e w1 ⟨rfl, bb⟩; refine Hid.out ?_)
      refine Lib.hid ?_
      have B := Lib.hid bb
      have R0 := Lib.hid (R0.out.step bb)
      have R1 := Lib.hid (R1.out.step bb)
      have HT := Lib.hid (HT.out.step bb)
      have S0 := Lib.hid (sum_any A0 n0 cap0 bs w1 R0.out m0)
      have S1 := Lib.hid (rsum_any A0 n0 cap0 bs w1 R0.out m0)
      have I0 := Lib.hid (ints_any A1 n1 cap1 zs w1 R1.out m1 HT.out)
      clear bb
      generalize fnv fnv0 bs = X at S0 S1
      go_wp2_with (first
        | (go_at_call 10; refine S0.out.mono ?_; rintro e w2 ⟨rfl, rfl⟩)
        | (go_at_call 11; refine S1.out.mono ?_; rintro e w2 ⟨rfl, rfl⟩)
        | (go_at_call 12; refine I0.out.mono ?_; rintro e w2 ⟨rfl, bb⟩; refine Hid.out ?_))
      refine Lib.hid ?_
      have B := Lib.hid (below_more B.out bb)
      have R1 := Lib.hid (R1.out.step bb)
      have HT := Lib.hid (HT.out.step bb)
      have I1 := Lib.hid (rints_any A1 n1 cap1 zs w2 R1.out (by omega))
      clear bb
      generalize fnv fnv0 (textOf zs) = Y at I1 ⊢
      go_wp2_with (go_at_call 13; refine I1.out.mono ?_; rintro e w3 ⟨rfl, bb⟩; refine Hid.out ?_)
      refine Lib.hid ?_
      have B := Lib.hid (below_more B.out bb)
      have R1 := Lib.hid (R1.out.step bb)
      have HT := Lib.hid (HT.out.step bb)
      have N0 := Lib.hid (next_any c hc A1 n1 cap1 zs w3 R1.out m1 HT.out)
      clear bb
      go_wp2_with (go_at_call 14; refine N0.out.mono ?_; rintro e w4 ⟨rfl, bb⟩; refine Hid.out ?_)
      refine Lib.hid ?_
      have B := Lib.hid (below_more B.out bb)
      have R1 := Lib.hid (R1.out.step bb)
      have HT := Lib.hid (HT.out.step bb)
      have N1 := Lib.hid (rnext_any c hc A1 n1 cap1 zs w4 R1.out (by omega))
      clear bb
      generalize fnv fnv0 (eight c ++ textOf zs) = Z at N1 ⊢
      go_wp2_with (go_at_call 15; refine N1.out.mono ?_; rintro e w5 ⟨rfl, bb⟩; refine Hid.out ?_)
      refine Lib.hid ?_
      have B := Lib.hid (below_more B.out bb)
      have P0 := Lib.hid (pair_any c d hc hd)
      have P1 := Lib.hid (rpair_any c d hc hd)
      clear bb
      generalize fnv fnv0 (1 :: (eight c ++ eight d)) = V at P0 P1
      go_wp2_with (go_at_call 16; refine (P0.out _).mono ?_; rintro e w6 ⟨rfl, bb⟩; refine Hid.out ?_)
      refine Lib.hid ?_
      have B := Lib.hid (below_more B.out bb)
      clear bb
      go_wp2_with (go_at_call 17; refine (P1.out _).mono ?_; rintro e w7 ⟨rfl, bb⟩; refine Hid.out ?_)
      refine Lib.hid ?_
      have B := Lib.hid (below_more B.out bb)
      clear bb
      go_wp2_with fail
      go_ret
      exact ⟨rfl, B.out⟩
    · go_enter Tryd.func3, Tryd.ntmps3
      go_wp2_with (go_at_call 9; refine HD.out.mono ?_; rintro e w1 ⟨rfl, bb⟩; refine Hid.out ?_)
      refine Lib.hid ?_
      go_wp2_with fail
      go_ret
      exact ⟨rfl, bb⟩
  · go_enter Tryd.func3, Tryd.ntmps3
    go_wp2_with (go_at_call 9; refine HD.out.mono ?_; rintro e w1 ⟨rfl, bb⟩; refine Hid.out ?_)
    refine Lib.hid ?_
    go_wp2_with fail
    go_ret
    exact ⟨rfl, bb⟩

theorem match_law (A0 : Option Addr) (n0 cap0 : Nat) (bs : List UInt8) (A1 : Option Addr) (n1 cap1 : Nat) (zs : List Int) (x2 x3 : Int) (w : World)
    (r0 : Row8 w.heap.size w A0 n0 bs) (l0 : n0 ≤ cap0) (m0 : cap0 ≤ 9223372036854775807) (e0 : A0 = none → cap0 = 0) (r1 : RowI w.heap.size w A1 n1 zs) (l1 : n1 ≤ cap1) (m1 : cap1 ≤ 9223372036854775807) (e1 : A1 = none → cap1 = 0)
    (w2 : (Lit.int .u64 x2).wf = true) (w3 : (Lit.int .u64 x3).wf = true) (ht : Tab w) :
    Calls Tryd.prog 3 #[.slice A0 n0 cap0, .slice A1 n1 cap1, .int .u64 x2, .int .u64 x3] w (Gives (.bool true) w) := by
  obtain ⟨a1, a2⟩ := u64_wf w2
  obtain ⟨b1, b2⟩ := u64_wf w3
  obtain ⟨c, rfl⟩ : ∃ a : Nat, x2 = (a : Int) := ⟨x2.toNat, by omega⟩
  obtain ⟨d, rfl⟩ : ∃ b : Nat, x3 = (b : Int) := ⟨x3.toNat, by omega⟩
  exact match_walk A0 n0 cap0 bs A1 n1 cap1 zs c d (by omega) (by omega) w r0 (by omega) r1 (by omega) ht
end Go.Proofs.YtlmkegpkodcofaaDoor
