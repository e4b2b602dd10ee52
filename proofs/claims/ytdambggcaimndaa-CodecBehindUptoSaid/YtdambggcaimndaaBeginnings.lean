/- Layer 4: the statement of beginnings. -/
import Derived.Test.YtdambggcaimndaaBegin
import Derived.Test.YtdambggcaimndaaLengths
namespace Go.Proofs.Ytdambggcaimndaa
open Go.RowKit Go.Sort Go
set_option linter.unusedVariables false

theorem begin_long (A0 : Option Addr) (len0 cap0 : Nat) (A1 : Option Addr) (len1 cap1 : Nat) (x2 : Int) (w : World) (h : 100 < len0 ∨ 100 < len1) :
    Calls Try.prog 5 #[.slice A0 len0 cap0, .slice A1 len1 cap1, .int .i64 x2] w (Gives (.bool true) w) := by
  have H := Lib.hid (head_true w)
  by_cases h0 : 100 < len0
  · have f1 : decide ((100 : Int) < (len0 : Int)) = true := by rw [decide_eq_true_eq]; omega
    clear h h0
    go_enter Try.func5, Try.ntmps5
    go_wp2_with (go_at_call 9; refine H.out.mono ?_; rintro e W1 ⟨rfl, b1⟩)
    go_ret
    exact ⟨rfl, b1⟩
  · have f1 : decide ((100 : Int) < (len0 : Int)) = false := by rw [decide_eq_false_iff_not]; omega
    have f2 : decide ((100 : Int) < (len1 : Int)) = true := by rw [decide_eq_true_eq]; omega
    clear h h0
    go_enter Try.func5, Try.ntmps5
    go_wp2_with (go_at_call 9; refine H.out.mono ?_; rintro e W1 ⟨rfl, b1⟩)
    go_ret
    exact ⟨rfl, b1⟩

theorem mod_case (x : Int) (n : Nat) (hn : 0 < n) (hn2 : n ≤ 1000000000) : ∃ k : Nat, k < n ∧ ((x.tmod n = (k : Int) ∧ decide ((k : Int) < 0) = false) ∨
    ∃ d : Int, x.tmod n = d ∧ decide (d < 0) = true ∧ IntKind.i64.wrap (d + (n : Int)) = (k : Int) ∧ wrap64 (d + (n : Int)) = (k : Int)) := by
  have h1 : (x.tmod n) < n := Int.tmod_lt_of_pos x (by omega)
  have h2 : -(n : Int) < x.tmod n := by
    have := Int.lt_tmod_of_pos x (show (0 : Int) < n by omega)
    exact this
  by_cases h : 0 ≤ x.tmod n
  · refine ⟨(x.tmod n).toNat, by omega, .inl ⟨by omega, ?_⟩⟩
    rw [decide_eq_false_iff_not]; omega
  · have e : IntKind.i64.wrap (x.tmod n + (n : Int)) = x.tmod n + (n : Int) := IntWalk.i64_in _ (by omega)
    have e' : wrap64 (x.tmod n + (n : Int)) = x.tmod n + (n : Int) := IntWalk.wrap64_in _ (by omega)
    refine ⟨(x.tmod n + n).toNat, by omega, .inr ⟨x.tmod n, rfl, by rw [decide_eq_true_eq]; omega, by omega, by omega⟩⟩

set_option maxRecDepth 100000 in
set_option maxHeartbeats 8000000 in
theorem begin_short (A0 : Option Addr) (len0 cap0 : Nat) (l : List Int) (A1 : Option Addr) (len1 cap1 : Nat) (m : List Int) (x2 : Int) (w : World)
    (r0 : RowI w.heap.size w A0 len0 l) (l0 : len0 ≤ 100) (r1 : RowI w.heap.size w A1 len1 m) (l1 : len1 ≤ 100) (hx : -9223372036854775808 ≤ x2 ∧ x2 ≤ 9223372036854775807) :
    Calls Try.prog 5 #[.slice A0 len0 cap0, .slice A1 len1 cap1, .int .i64 x2] w (Gives (.bool true) w) := by
  have H := Lib.hid (head_true w)
  have R0 := Lib.hid r0
  have R1 := Lib.hid r1
  have f1 : decide ((100 : Int) < (len0 : Int)) = false := by rw [decide_eq_false_iff_not]; omega
  have f2 : decide ((100 : Int) < (len1 : Int)) = false := by rw [decide_eq_false_iff_not]; omega
  clear r0 r1
  go_enter Try.func5, Try.ntmps5
  go_wp2_with (go_at_call 9; refine H.out.mono ?_; rintro e W1 ⟨rfl, b1⟩; refine Hid.out ?_)
  refine Lib.hid ?_
  have B := Lib.hid b1
  have R0 := Lib.hid (R0.out.step b1)
  have R1 := Lib.hid (R1.out.step b1)
  clear b1
  have P := Lib.hid (put_ok A0 len0 cap0 l W1 R0.out (by omega))
  go_wp2_with (go_at_call 11; refine P.out.mono ?_; rintro e W2 ⟨A3, n3, cap3, rfl, m3⟩; refine Hid.out ?_)
  refine Lib.hid ?_
  have b1 := m3.2.2.2.2.2
  have B := Lib.hid (below_more B.out b1)
  have R0 := Lib.hid (R0.out.step b1)
  have R1 := Lib.hid (R1.out.step b1)
  have R3 := Lib.hid m3.2.2.2.2.1
  have h3 := m3.2.1
  have hp3 : 0 < n3 := by have := listB_pos l; have := m3.1; omega
  have hb3 : n3 ≤ 10002 := by have := m3.1; have := OkL.len (l := l) ⟨by have := R0.out.1; omega, R0.out.2.2⟩; omega
  have N3 := Lib.hid m3.1
  clear b1 m3 P
  have P := Lib.hid (put_ok A1 len1 cap1 m W2 R1.out (by omega))
  go_wp2_with (go_at_call 11; refine P.out.mono ?_; rintro e W4 ⟨A4, n4, cap4, rfl, m4⟩; refine Hid.out ?_)
  refine Lib.hid ?_
  have b1 := m4.2.2.2.2.2
  have B := Lib.hid (below_more B.out b1)
  have R0 := Lib.hid (R0.out.step b1)
  have R1 := Lib.hid (R1.out.step b1)
  have R3 := Lib.hid (R3.out.step b1)
  have R4 := Lib.hid m4.2.2.2.2.1
  have h4 := m4.2.1
  clear b1 m4 P
  have f3 : ((n3 : Int) == 0) = false := by rw [beq_eq_false_iff_ne]; omega
  have BG := Lib.hid (begins_any A4 A3 n4 n3 cap4 cap3 (listB m) (listB l) W4 R4.out R3.out h4 (by omega))
  obtain ⟨k, hk, hmod⟩ := mod_case x2 n3 hp3 (by omega)
  have GC := Lib.hid (list_cut (l := l) R0.out.2.2 (by have := R0.out.1; omega) k (by have := N3.out; omega))
  clear hx
  cases hb : beginsB (listB m) (listB l) with
  | false =>
    rw [hb] at BG
    clear hb
    rcases hmod with ⟨hm, hm0⟩ | ⟨d, hm, hm0, hm1, hm2⟩
    · go_wp2_with (go_at_call 22; refine BG.out.mono ?_; rintro e W5 ⟨rfl, b5⟩; refine Hid.out ?_)
      refine Lib.hid ?_
      have B := Lib.hid (below_more B.out b5)
      have R3 := Lib.hid (R3.out.step b5)
      obtain ⟨W6, hW6⟩ : ∃ W6, W6 = W5 := ⟨_, rfl⟩
      subst hW6
      clear b5
      have G := Lib.hid (get_none A3 k cap3 _ W6 (R3.out.take (Nat.le_of_lt hk)) (by omega) (by omega) GC.out)
      go_wp2_with (go_at_call 16; refine G.out.mono ?_; rintro e W7 ⟨rfl, b7⟩; have B := Lib.hid (below_more B.out b7); clear b7)
      go_ret
      exact ⟨rfl, B.out⟩
    · go_wp2_with (go_at_call 22; refine BG.out.mono ?_; rintro e W5 ⟨rfl, b5⟩; refine Hid.out ?_)
      refine Lib.hid ?_
      have B := Lib.hid (below_more B.out b5)
      have R3 := Lib.hid (R3.out.step b5)
      obtain ⟨W6, hW6⟩ : ∃ W6, W6 = W5 := ⟨_, rfl⟩
      subst hW6
      clear b5
      have G := Lib.hid (get_none A3 k cap3 _ W6 (R3.out.take (Nat.le_of_lt hk)) (by omega) (by omega) GC.out)
      go_wp2_with (go_at_call 16; refine G.out.mono ?_; rintro e W7 ⟨rfl, b7⟩; have B := Lib.hid (below_more B.out b7); clear b7)
      go_ret
      exact ⟨rfl, B.out⟩
  | true =>
    have hlm : l = m := (list_begins R0.out.2.2 (by have := R0.out.1; omega) R1.out.2.2 (by have := R1.out.1; omega) _ (begins_true hb)).1
    rw [hb] at BG
    clear hb
    have HLM := Lib.hid (decide_eq_true hlm)
    clear hlm
    rcases hmod with ⟨hm, hm0⟩ | ⟨d, hm, hm0, hm1, hm2⟩
    · go_wp2_with (go_at_call 22; refine BG.out.mono ?_; rintro e W5 ⟨rfl, b5⟩; refine Hid.out ?_)
      refine Lib.hid ?_
      have B := Lib.hid (below_more B.out b5)
      have R3 := Lib.hid (R3.out.step b5)
      have R0 := Lib.hid (R0.out.step b5)
      have R1 := Lib.hid (R1.out.step b5)
      have I := rints_any A0 A1 len0 len1 cap0 cap1 l m W5 R0.out R1.out (by omega) (by omega)
      rw [HLM.out] at I
      have I := Lib.hid I
      clear b5
      go_wp2_with (go_at_call 18; refine I.out.mono ?_; rintro e W6 ⟨rfl, d6⟩; refine Hid.out ?_)
      refine Lib.hid ?_
      have b5 := d6.below W5.heap.size
      have B := Lib.hid (below_more B.out b5)
      have R3 := Lib.hid (R3.out.step b5)
      clear b5 d6
      have G := Lib.hid (get_none A3 k cap3 _ W6 (R3.out.take (Nat.le_of_lt hk)) (by omega) (by omega) GC.out)
      go_wp2_with (go_at_call 16; refine G.out.mono ?_; rintro e W7 ⟨rfl, b7⟩; have B := Lib.hid (below_more B.out b7); clear b7)
      go_ret
      exact ⟨rfl, B.out⟩
    · go_wp2_with (go_at_call 22; refine BG.out.mono ?_; rintro e W5 ⟨rfl, b5⟩; refine Hid.out ?_)
      refine Lib.hid ?_
      have B := Lib.hid (below_more B.out b5)
      have R3 := Lib.hid (R3.out.step b5)
      have R0 := Lib.hid (R0.out.step b5)
      have R1 := Lib.hid (R1.out.step b5)
      have I := rints_any A0 A1 len0 len1 cap0 cap1 l m W5 R0.out R1.out (by omega) (by omega)
      rw [HLM.out] at I
      have I := Lib.hid I
      clear b5
      go_wp2_with (go_at_call 18; refine I.out.mono ?_; rintro e W6 ⟨rfl, d6⟩; refine Hid.out ?_)
      refine Lib.hid ?_
      have b5 := d6.below W5.heap.size
      have B := Lib.hid (below_more B.out b5)
      have R3 := Lib.hid (R3.out.step b5)
      clear b5 d6
      have G := Lib.hid (get_none A3 k cap3 _ W6 (R3.out.take (Nat.le_of_lt hk)) (by omega) (by omega) GC.out)
      go_wp2_with (go_at_call 16; refine G.out.mono ?_; rintro e W7 ⟨rfl, b7⟩; have B := Lib.hid (below_more B.out b7); clear b7)
      go_ret
      exact ⟨rfl, B.out⟩

theorem beginnings_law (A0 : Option Addr) (len0 cap0 : Nat) (z0 : List Int) (A1 : Option Addr) (len1 cap1 : Nat) (z1 : List Int) (x2 : Int) (w : World)
    (r0 : RowI w.heap.size w A0 len0 z0) (l0 : len0 ≤ cap0) (m0 : cap0 ≤ 9223372036854775807) (n0 : A0 = none → cap0 = 0)
    (r1 : RowI w.heap.size w A1 len1 z1) (l1 : len1 ≤ cap1) (m1 : cap1 ≤ 9223372036854775807) (n1 : A1 = none → cap1 = 0) (w2 : (Lit.int .i64 x2).wf = true) :
    Calls Try.prog 5 #[.slice A0 len0 cap0, .slice A1 len1 cap1, .int .i64 x2] w (Gives (.bool true) w) := by
  by_cases h : 100 < len0 ∨ 100 < len1
  · exact begin_long A0 len0 cap0 A1 len1 cap1 x2 w h
  · exact begin_short A0 len0 cap0 z0 A1 len1 cap1 z1 x2 w r0 (by omega) r1 (by omega) (i64_wf' w2)
end Go.Proofs.Ytdambggcaimndaa
