/- Layer 4: the statement of Put and Get as inverses. -/
import Derived.Test.YtdambggcaimndaaFew
namespace Go.Proofs.Ytdambggcaimndaa
open Go.RowKit Go.Sort Go
set_option linter.unusedVariables false

set_option maxRecDepth 100000 in
set_option maxHeartbeats 8000000 in
theorem inverse_law (A0 : Option Addr) (len0 cap0 : Nat) (z0 : List Int) (A1 : Option Addr) (len1 cap1 : Nat) (z1 : List UInt8) (w : World)
    (r0 : RowI w.heap.size w A0 len0 z0) (l0 : len0 ≤ cap0) (m0 : cap0 ≤ 9223372036854775807) (n0 : A0 = none → cap0 = 0)
    (r1 : Row8 w.heap.size w A1 len1 z1) (l1 : len1 ≤ cap1) (m1 : cap1 ≤ 9223372036854775807) (n1 : A1 = none → cap1 = 0) :
    Calls Try.prog 4 #[.slice A0 len0 cap0, .slice A1 len1 cap1] w (Gives (.bool true) w) := by
  have H := Lib.hid (head_true w)
  obtain ⟨k, hk⟩ : ∃ k, k = min len0 1000 := ⟨_, rfl⟩
  have hm1 : min (len0 : Int) 1000 = (k : Int) := by omega
  have hk1 : k ≤ len0 := by omega
  have hk2 : k ≤ 1000 := by omega
  obtain ⟨j, hj⟩ : ∃ j, j = min len1 3000 := ⟨_, rfl⟩
  have FW := Lib.hid (fun w => (few_any A1 len1 j cap1 w l1 m1 hj).mono (R' := fun e w' => e = .returned (.slice A1 j cap1) ∧ w' = w) fun e w' h => ⟨h.1, h.2.symm⟩)
  have hj1 : j ≤ cap1 := by omega
  have hj2 : j ≤ 3000 := by omega
  have R0 := Lib.hid (r0.take hk1)
  have R1 := Lib.hid (r1.take (show j ≤ len1 by omega))
  generalize z0.take k = l at R0
  generalize z1.take j = b at R1
  have GL := Lib.hid (getR_list (l := l) R0.out.2.2 (by have := R0.out.1; omega))
  have hlb : (listB l).length ≤ 10002 := OkL.len ⟨by have := R0.out.1; omega, R0.out.2.2⟩
  have HLB := Lib.hid hlb
  clear r0 r1 hk hj n0 n1 hlb
  go_enter Try.func4, Try.ntmps4
  go_wp2_with (go_at_call 9; refine H.out.mono ?_; rintro e W1 ⟨rfl, b1⟩; refine Hid.out ?_)
  refine Lib.hid ?_
  have B := Lib.hid b1
  have R0 := Lib.hid (R0.out.step b1)
  have R1 := Lib.hid (R1.out.step b1)
  clear b1
  go_wp2_with fail
  go_quiet ((go_at_call 10; exact Calls.quiet_of_same (FW.out _)))
  have bq : Below W1.heap.size W1 (W1.drewN nq) := (Drew.n W1 nq).below _
  have B := Lib.hid (below_more B.out bq)
  have R0 := Lib.hid (R0.out.step bq)
  have R1 := Lib.hid (R1.out.step bq)
  clear bq
  generalize W1.drewN nq = W1 at B R0 R1 ⊢
  go_wp2_with fail
  refine (put_ok A0 k cap0 l _ R0.out hk2).mono ?_
  rintro e W2 ⟨A3, n3, cap3, rfl, m3⟩
  have B := Lib.hid (below_more B.out m3.2.2.2.2.2)
  have R0 := Lib.hid (R0.out.step m3.2.2.2.2.2)
  have R1 := Lib.hid (R1.out.step m3.2.2.2.2.2)
  have G := Lib.hid (get_row A3 n3 cap3 _ l W2 m3.2.2.2.2.1 (by have := m3.1; have := HLB.out; omega) m3.2.1 GL.out)
  clear m3
  go_wp2_with (go_at_call 16; refine G.out.mono ?_; rintro e W3 ⟨A4, n4, cap4, rfl, h4, r4, b4⟩; refine Hid.out ?_)
  refine Lib.hid ?_
  have B := Lib.hid (below_more B.out b4)
  have R0 := Lib.hid (R0.out.step b4)
  have R1 := Lib.hid (R1.out.step b4)
  have I := rints_any A0 A4 k n4 cap0 cap4 l l W3 R0.out r4 (by omega) (by have := r4.1; have := R0.out.1; omega)
  rw [decide_eq_true (rfl : l = l)] at I
  have I := Lib.hid I
  clear b4 r4
  go_wp2_with (go_at_call 18; refine I.out.mono ?_; rintro e W4 ⟨rfl, d4⟩; refine Hid.out ?_)
  refine Lib.hid ?_
  have b4 := d4.below W3.heap.size
  have B := Lib.hid (below_more B.out b4)
  have R1 := Lib.hid (R1.out.step b4)
  clear b4 d4
  cases hg : getR b with
  | none =>
    have G2 := Lib.hid (get_none A1 j cap1 b W4 R1.out (by omega) hj1 hg)
    clear hg
    go_wp2_with (go_at_call 16; refine G2.out.mono ?_; rintro e W5 ⟨rfl, b5⟩; have B := Lib.hid (below_more B.out b5); clear b5)
    go_ret
    exact ⟨rfl, B.out⟩
  | some n =>
    have G2 := Lib.hid (get_row A1 j cap1 b n W4 R1.out (by omega) hj1 hg)
    have hn := (getR_some hg)
    obtain ⟨hbn, hn1, hn2⟩ := hn
    have HBN := Lib.hid hbn
    have HN1 := Lib.hid hn1
    clear hg hbn
    go_wp2_with (go_at_call 16; refine G2.out.mono ?_; rintro e W5 ⟨A5, n5, cap5, rfl, h5, r5, b5⟩; refine Hid.out ?_)
    refine Lib.hid ?_
    have B := Lib.hid (below_more B.out b5)
    have R1 := Lib.hid (R1.out.step b5)
    have P := Lib.hid (put_ok A5 n5 cap5 n W5 r5 (by have := r5.1; have := HN1.out; omega))
    clear b5 r5
    go_wp2_with (go_at_call 11; refine P.out.mono ?_; rintro e W6 ⟨A6, n6, cap6, rfl, m6⟩; refine Hid.out ?_)
    refine Lib.hid ?_
    have B := Lib.hid (below_more B.out m6.2.2.2.2.2)
    have R1 := Lib.hid (R1.out.step m6.2.2.2.2.2)
    have S := rsame_any A1 A6 j n6 cap1 cap6 b (listB n) W6 R1.out m6.2.2.2.2.1 (by omega) (by have := m6.1; have h1 := R1.out.1; rw [HBN.out] at h1; omega)
    rw [decide_eq_true HBN.out] at S
    have S := Lib.hid S
    clear m6
    go_wp2_with (go_at_call 13; refine S.out.mono ?_; rintro e W7 ⟨rfl, d7⟩; have B := Lib.hid (below_more B.out (d7.below W6.heap.size)); clear d7)
    go_ret
    exact ⟨rfl, B.out⟩
end Go.Proofs.Ytdambggcaimndaa
