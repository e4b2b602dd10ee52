/- Layer 3: DigestInts. -/
import Derived.Test.YtlmkegpkodcofaaDoorDigit
namespace Go.Proofs.YtlmkegpkodcofaaDoor
open Go.RowKit Go.Sort Go
set_option linter.unusedVariables false

set_option maxHeartbeats 4000000 in
theorem ints_walk (A : Option Addr) (n cap : Nat) (zs : List Int) (at_ : Int) (by_ : Nat) (hby : by_ < 256) (w : World) (r : RowI w.heap.size w A n zs) (e : A = none → cap = 0) (h100 : n ≤ 100) (ht : Tab w) :
    Calls Tryd.prog 5 #[.slice A n cap, .int .i64 at_, .int .u8 by_] w (Gives (.bool true) w) := by
  have HD := Lib.hid (head_true w ht)
  have HT := Lib.hid ht
  have HR := Lib.hid r
  have HE := Lib.hid e
  have HB := Lib.hid hby
  have hTl := textOf_length zs r.2.2
  rw [r.1] at hTl
  clear ht r e hby
  go_enter Tryd.func5, Tryd.ntmps5
  go_wp2_with (go_at_call 9; refine HD.out.mono ?_; rintro e w1 ⟨rfl, bb⟩; refine Hid.out ?_)
  refine Lib.hid ?_
  have B := Lib.hid bb
  have I0 := Lib.hid (ints_any A n cap zs w1 (HR.out.step bb) (by omega) (HT.out.step bb))
  obtain ⟨X, hX⟩ : ∃ X, fnv fnv0 (textOf zs) = X := ⟨_, rfl⟩
  have HX := Lib.hid hX
  rw [hX] at I0
  clear bb hX
  go_wp2_with (go_at_call 12; refine I0.out.mono ?_; rintro e w2 ⟨rfl, bb⟩; refine Hid.out ?_)
  refine Lib.hid ?_
  have B := Lib.hid (below_more B.out bb)
  have T0 := Lib.hid (rtext_any A n cap zs w2 (HR.out.step B.out) (by omega))
  clear bb
  go_wp2_with (go_at_call 18; refine T0.out.mono ?_; rintro e w3 ⟨v3, rfl, ho3, bb⟩; refine Hid.out ?_)
  refine Lib.hid ?_
  obtain ⟨A3, n3, cap3, rfl, _, _, _, r3⟩ := ho3.row
  have B := Lib.hid (below_more B.out bb)
  have S0 := Lib.hid (sum_any A3 n3 cap3 _ w3 r3 (by have := r3.1; omega))
  rw [HX.out] at S0
  have D0 := Lib.hid (digit_any A n cap zs at_ by_ HB.out w3 (HR.out.step B.out) HE.out h100)
  clear bb ho3 r3
  go_wp2_with (first
    | (go_at_call 10; refine S0.out.mono ?_; rintro e w' ⟨rfl, rfl⟩)
    | (go_at_call 19; refine D0.out.mono ?_; rintro e w4 ⟨S, q, rfl, dg, bb⟩; refine Hid.out ?_))
  refine Lib.hid ?_
  have B := Lib.hid (below_more B.out bb)
  clear bb
  rcases dg with rfl | ⟨A4, n4, cap4, k, d, rfl, rfl, r4, hn4, hk, hv0, hd0, hd1, hne⟩
  · go_wp2_with fail
    go_ret
    exact ⟨rfl, B.out⟩
  · have hfin := fnv_digit zs k hk d fnv0_lt _ rfl hv0 hd0 hd1 hne
    rw [HX.out] at hfin
    have I1 := Lib.hid (ints_any A4 n4 cap4 _ w4 r4 (by have := HR.out.1; omega) (HT.out.step B.out))
    generalize fnv fnv0 (textOf (zs.set k (zs.getD k 0 - zs.getD k 0 % 10 + d))) = Y at hfin I1
    have hq : ((Y : Int) != (X : Int)) = true := by rw [bne_iff_ne]; omega
    clear hfin r4 hv0 hd0 hd1 hne hk hn4
    go_wp2_with (go_at_call 12; refine I1.out.mono ?_; rintro e w5 ⟨rfl, bb⟩; refine Hid.out ?_)
    refine Lib.hid ?_
    have B := Lib.hid (below_more B.out bb)
    have I2 := Lib.hid (ints_any A n cap zs w5 (HR.out.step B.out) (by omega) (HT.out.step B.out))
    rw [HX.out] at I2
    clear bb
    go_wp2_with (go_at_call 12; refine I2.out.mono ?_; rintro e w6 ⟨rfl, bb⟩; refine Hid.out ?_)
    refine Lib.hid ?_
    have B := Lib.hid (below_more B.out bb)
    clear bb
    go_wp2_with fail
    go_ret
    exact ⟨rfl, B.out⟩

theorem ints_long (A : Option Addr) (n cap : Nat) (at_ by_ : Int) (w : World) (h100 : 100 < n) (ht : Tab w) :
    Calls Tryd.prog 5 #[.slice A n cap, .int .i64 at_, .int .u8 by_] w (Gives (.bool true) w) := by
  have HD := Lib.hid (head_true w ht)
  clear ht
  go_enter Tryd.func5, Tryd.ntmps5
  go_wp2_with (go_at_call 9; refine HD.out.mono ?_; rintro e w1 ⟨rfl, bb⟩; refine Hid.out ?_)
  refine Lib.hid ?_
  go_wp2_with fail
  go_ret
  exact ⟨rfl, bb⟩

theorem ints_law (A0 : Option Addr) (n0 cap0 : Nat) (zs : List Int) (x1 x2 : Int) (w : World)
    (r0 : RowI w.heap.size w A0 n0 zs) (l0 : n0 ≤ cap0) (m0 : cap0 ≤ 9223372036854775807) (e0 : A0 = none → cap0 = 0) (w1 : (Lit.int .i64 x1).wf = true) (w2 : (Lit.int .u8 x2).wf = true) (ht : Tab w) :
    Calls Tryd.prog 5 #[.slice A0 n0 cap0, .int .i64 x1, .int .u8 x2] w (Gives (.bool true) w) := by
  obtain ⟨b1, b2⟩ := u8_wf w2
  obtain ⟨c, rfl⟩ : ∃ a : Nat, x2 = (a : Int) := ⟨x2.toNat, by omega⟩
  by_cases hl : 100 < n0
  · exact ints_long A0 n0 cap0 x1 c w hl ht
  · exact ints_walk A0 n0 cap0 zs x1 c (by omega) w r0 e0 (by omega) ht
end Go.Proofs.YtlmkegpkodcofaaDoor
