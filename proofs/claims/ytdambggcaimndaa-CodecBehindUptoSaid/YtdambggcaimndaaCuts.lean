/- Layer 4: the statement of frames that are cut. -/
import Derived.OwnWalk
import Derived.Test.YtdambggcaimndaaBehind2
import Derived.Test.YtdambggcaimndaaBeginnings
namespace Go.Proofs.Ytdambggcaimndaa
open Go.RowKit Go.Sort Go
set_option linter.unusedVariables false

theorem cuts_big (A0 : Option Addr) (len0 cap0 : Nat) (ls : List (List Int)) (x1 : Int) (w : World) (r0 : RowL w.heap.size w A0 len0 ls) (hs : len0 + ints ls ≤ 2000000) (h : ¬ len0 + ints ls ≤ 200) :
    Calls Try.prog 6 #[.slice A0 len0 cap0, .int .i64 x1] w (Gives (.bool true) w) := by
  have H := Lib.hid (head_true w)
  have R0 := Lib.hid r0
  have SM : Hid (∀ W, RowL W.heap.size W A0 len0 ls → Calls Try.prog 23 #[.slice A0 len0 cap0] W fun e w' => e = .returned (.bool false) ∧ W = w') := fun W hr => by
    have := small_any A0 len0 cap0 ls W hr hs
    rwa [decide_eq_false h] at this
  clear r0 h hs
  go_enter Try.func6, Try.ntmps6
  go_wp2_with (first | (go_at_call 9; refine H.out.mono ?_; rintro e W1 ⟨rfl, b1⟩; have B := Lib.hid b1; have S := Lib.hid (SM.out _ (R0.out.step b1)); clear b1) | (go_at_call 23; refine S.out.mono ?_; rintro e W ⟨rfl, rfl⟩))
  go_ret
  exact ⟨rfl, B.out⟩

/-- The frames up to a place: how many bytes they have. -/
def upto (ls : List (List Int)) (k : Nat) : Nat := (framesB (ls.take k)).length
theorem upto_all {ls : List (List Int)} {n : Nat} (h : ls.length = n) : upto ls n = (framesB ls).length := by rw [upto, ← h, List.take_length]
theorem upto_step {ls : List (List Int)} {k : Nat} (h : k < ls.length) : upto ls (k + 1) = upto ls k + (frameB (ls.getD k [])).length := by
  rw [upto, upto, take_snoc ls [] k h, framesB_snoc, List.length_append]
theorem upto_le (ls : List (List Int)) (k : Nat) : upto ls k ≤ (framesB ls).length := framesB_take ls k

theorem cut_told {ls : List (List Int)} {n k W : Nat} (hl : ls.length = n) (ho : AllOk ls) (hW : W ≤ n) (h1 : upto ls W ≤ k) (h2 : W < n → k < upto ls (W + 1)) (hk : k ≤ (framesB ls).length) :
    Told ((framesB ls).take k) (ls.take W) (upto ls W) := by
  have e : ls.take W ++ ls.drop W = ls := List.take_append_drop W ls
  have h := Told.cut (ls := ls.take W) (ms := ls.drop W) (k := k) (by rw [e]; exact ho) h1 (fun m r hm => ?_) (by rw [e]; exact hk)
  · rw [e] at h
    exact h
  · have hlt : W < ls.length := by
      have := congrArg List.length hm
      rw [List.length_drop, List.length_cons] at this
      omega
    have := h2 (by omega)
    rw [upto_step hlt] at this
    have e2 : ls.getD W [] = m := by
      have := drop_cons ls [] W hlt
      rw [hm] at this
      injection this with this _
      exact this.symm
    rw [e2] at this
    exact this

set_option maxRecDepth 100000 in
set_option maxHeartbeats 8000000 in
theorem cuts_small (A0 : Option Addr) (len0 cap0 : Nat) (ls : List (List Int)) (x1 : Int) (w : World)
    (r0 : RowL w.heap.size w A0 len0 ls) (l0 : len0 ≤ cap0) (h : len0 + ints ls ≤ 200) :
    Calls Try.prog 6 #[.slice A0 len0 cap0, .int .i64 x1] w (Gives (.bool true) w) := by
  have H := Lib.hid (head_true w)
  have hll := r0.1
  have hok := r0.ok (by omega)
  have hfl := framesB_short ls hok
  have R0 := Lib.hid r0
  have SM : Hid (∀ W, RowL W.heap.size W A0 len0 ls → Calls Try.prog 23 #[.slice A0 len0 cap0] W fun e w' => e = .returned (.bool true) ∧ W = w') := fun W hr => by
    have := small_any A0 len0 cap0 ls W hr (by omega)
    rwa [decide_eq_true h] at this
  have FR : Hid (∀ W, RowL W.heap.size W A0 len0 ls → Calls Try.prog 24 #[.slice A0 len0 cap0] W fun e w' => ∃ A' n' cap', e = .returned (.tuple #[.slice A' n' cap', .bool true]) ∧ Made W.heap.size (framesB ls) W A' n' cap' w') := fun W hr =>
    framed_any A0 len0 cap0 ls W hr hok (by omega) (by omega)
  have hfl2 : (framesB ls).length ≤ 2600 := by omega
  have HFL := Lib.hid hfl2
  have HLL := Lib.hid hll
  have HOK := Lib.hid hok
  have hl200 : len0 ≤ 200 := by omega
  clear r0 hok hfl hfl2 hll h
  go_enter Try.func6, Try.ntmps6
  go_wp2_with (first | (go_at_call 9; refine H.out.mono ?_; rintro e W1 ⟨rfl, b1⟩; have B := Lib.hid b1; have R0 := Lib.hid (R0.out.step b1); have S := Lib.hid (SM.out _ R0.out); have F := Lib.hid (FR.out _ R0.out); clear b1) | (go_at_call 23; refine S.out.mono ?_; rintro e W ⟨rfl, rfl⟩) | (go_at_call 24; refine F.out.mono ?_; rintro e W2 ⟨A3, n3, cap3, rfl, m3⟩; refine Hid.out ?_))
  refine Lib.hid ?_
  have b2 := m3.2.2.2.2.2
  have R0 := Lib.hid (R0.out.step b2)
  have B := Lib.hid (below_more B.out b2)
  have R3 := Lib.hid m3.2.2.2.2.1
  have h3 := m3.2.1
  have hn3 : n3 ≤ 2600 := by have := m3.1; have := HFL.out; omega
  have N3 := Lib.hid m3.1
  clear b2 m3 S F SM FR
  obtain ⟨N1, hN1⟩ : ∃ N1, N1 = n3 + 1 := ⟨_, rfl⟩
  have e1 : IntKind.i64.wrap ((n3 : Int) + 1) = (N1 : Int) := by rw [IntWalk.i64_in _ (by omega)]; omega
  have e1' : wrap64 ((n3 : Int) + 1) = (N1 : Int) := by rw [IntWalk.wrap64_in _ (by omega)]; omega
  have hne : ((N1 : Int) == 0) = false := by rw [beq_eq_false_iff_ne]; omega
  have hne2 : ¬ (N1 : Int) = 0 := by omega
  obtain ⟨k, hk, hmod⟩ := mod_case x1 N1 (by omega) (by omega)
  have hk3 : k ≤ n3 := by omega
  clear hN1 hk
  rcases hmod with ⟨hm, hm0⟩ | ⟨d, hm, hm0, hm1, hm2⟩
  · go_wp2_with fail
    clear hm hm0 hne hne2 e1 e1'
    go_loopw [9, 10, 11, 48] (fun W bw ai i wr => ∃ (iN WN bN aN : Nat), iN ≤ len0 ∧ WN ≤ iN ∧ i = .int .i64 iN ∧ W = .int .i64 WN ∧ bw = .int .i64 bN ∧ ai = .int .i64 aN ∧ Hid (bN = upto ls WN) ∧ Hid (aN = upto ls iN) ∧ Hid (bN ≤ k) ∧ Hid (WN < iN → k < upto ls (WN + 1)) ∧ Hid (Below W2.heap.size W2 wr)) (fun _ _ _ i _ => len0 - (intOf i).toNat)
    case atStart => exact ⟨0, 0, 0, 0, by omega, by omega, rfl, rfl, rfl, rfl, by show _ = _; simp [upto, framesB], by show _ = _; simp [upto, framesB], by show _ ≤ _; omega, by show _ → _; omega, Below.refl _ _⟩
    case round =>
      obtain ⟨iN, WN, bN, aN, hi, hW, rfl, rfl, rfl, rfl, HBN, HAN, HBK, HWK, hb⟩ := hrel
      by_cases hlt : iN < len0
      · have hrow := R0.out.step hb.out
        obtain ⟨p, rfl⟩ := hrow.some (by omega)
        obtain ⟨a, m, c, hx, hm, hri⟩ := hrow.at_ iN hlt
        have hst := upto_step (ls := ls) (k := iN) (by rw [HLL.out]; exact hlt)
        have hoki : OkL (ls.getD iN []) := HOK.out _ (by
          have : iN < ls.length := by rw [HLL.out]; exact hlt
          rw [show ls.getD iN [] = ls[iN] by simp [List.getD, this]]
          exact List.getElem_mem _)
        have hml := hri.1
        have hul := upto_le ls (iN + 1)
        have M := Lib.hid (make_ok a m c _ _ hri (by have := hoki.1; omega))
        generalize ls.getD iN [] = l at M hst
        have HST := Lib.hid hst
        have hfb : (frameB l).length ≤ 2600 ∧ aN ≤ 2600 ∧ aN + (frameB l).length ≤ 2600 := by have := HFL.out; have := HAN.out; omega
        have f1 : decide ((iN : Int) < (len0 : Int)) = true := by rw [decide_eq_true_eq]; omega
        clear hrow hri hst hoki hml hul hm
        go_wp2_with (go_at_call 14; refine M.out.mono ?_; rintro e w3 ⟨A4, n4, cap4, rfl, m4⟩; refine Hid.out ?_)
        refine Lib.hid ?_
        have hn4 := m4.1
        have HB4 := Lib.hid (below_more hb.out m4.2.2.2.2.2)
        obtain ⟨a2, ha2⟩ : ∃ a2, a2 = aN + n4 := ⟨_, rfl⟩
        have e5 : IntKind.i64.wrap ((aN : Int) + (n4 : Int)) = (a2 : Int) := by rw [IntWalk.i64_in _ (by omega)]; omega
        have HA2 : Hid (a2 = upto ls (iN + 1)) := by show _ = _; have h1 := HST.out; have h2 := HAN.out; omega
        have e6 : IntKind.i64.wrap ((iN : Int) + 1) = ((iN + 1 : Nat) : Int) := by rw [IntWalk.i64_in _ (by omega)]; omega
        clear m4 ha2 hn4 hfb
        by_cases hak : a2 ≤ k
        · have f2 : decide ((a2 : Int) ≤ (k : Int)) = true := by rw [decide_eq_true_eq]; omega
          have f3 : decide (a2 ≤ k) = true := by rw [decide_eq_true_eq]; omega
          have HAK := Lib.hid hak
          clear hak
          go_wp2_with fail
          go_roundw
          case rel => exact ⟨iN + 1, iN + 1, a2, a2, by omega, by omega, by go_num, by go_num, rfl, rfl, HA2, HA2, HAK, by show _ → _; omega, HB4⟩
          case measure => simp [intOf]; omega
        · have f2 : decide ((a2 : Int) ≤ (k : Int)) = false := by rw [decide_eq_false_iff_not]; omega
          have f3 : decide (a2 ≤ k) = false := by rw [decide_eq_false_iff_not]; omega
          have HWK2 : Hid (WN < iN + 1 → k < upto ls (WN + 1)) := by
            show _ → _
            intro _
            by_cases hWi : WN < iN
            · exact HWK.out hWi
            · have : WN = iN := by omega
              subst this
              have := HA2.out
              omega
          clear hak
          go_wp2_with fail
          go_roundw
          case rel => exact ⟨iN + 1, WN, bN, a2, by omega, by omega, by go_num, rfl, rfl, rfl, HBN, HA2, HBK, HWK2, HB4⟩
          case measure => simp [intOf]; omega
      · obtain rfl : iN = len0 := by omega
        have f1 : decide ((iN : Int) < (iN : Int)) = false := by simp
        have ht := cut_told HLL.out HOK.out hW (by have := HBN.out; have := HBK.out; omega) HWK.out (by have := N3.out; omega)
        rw [← HBN.out] at ht
        have HT := Lib.hid ht
        have ha := Told.alone HOK.out
        rw [← N3.out] at ha
        have HA := Lib.hid ha
        have R0 := Lib.hid (R0.out.step hb.out)
        have R3 := Lib.hid (R3.out.step hb.out)
        have B := Lib.hid (below_more B.out hb.out)
        have hkc : k ≤ cap3 := by omega
        clear ht ha hb
        have F1 := Lib.hid (frames_row A3 k cap3 _ _ bN _ (R3.out.take hk3) (by omega) hkc HT.out)
        go_wp2_with (go_at_call 19; refine F1.out.mono ?_; rintro e w9 ⟨A9, n9, cap9, rfl, h9, r9, b9⟩; refine Hid.out ?_)
        refine Lib.hid ?_
        have R0 := Lib.hid (R0.out.step b9)
        have R3 := Lib.hid (R3.out.step b9)
        have B := Lib.hid (below_more B.out b9)
        have R9 := Lib.hid r9
        clear r9 b9 F1
        have F2 := Lib.hid (frames_row A3 n3 cap3 _ _ n3 _ R3.out (by omega) h3 HA.out)
        go_wp2_with (go_at_call 19; refine F2.out.mono ?_; rintro e wA ⟨AA, nA, capA, rfl, hA, rA, bA⟩; refine Hid.out ?_)
        refine Lib.hid ?_
        have R0 := Lib.hid (R0.out.step bA)
        have R9 := Lib.hid (R9.out.step bA)
        have B := Lib.hid (below_more B.out bA)
        have RA := Lib.hid rA
        clear rA bA F2
        have hWc : WN ≤ cap0 := by omega
        have S1 := rlists_any A9 A0 n9 WN cap9 cap0 _ _ wA R9.out (R0.out.take hW) (by have h1 := R9.out.1; rw [List.length_take] at h1; omega) (by omega)
        rw [decide_eq_true rfl] at S1
        have S1 := Lib.hid S1
        go_wp2_with (go_at_call 21; refine S1.out.mono ?_; rintro e wB ⟨rfl, dB⟩; refine Hid.out ?_)
        refine Lib.hid ?_
        have bB := dB.below wA.heap.size
        have R0 := Lib.hid (R0.out.step bB)
        have RA := Lib.hid (RA.out.step bB)
        have B := Lib.hid (below_more B.out bB)
        have S2 := rlists_any AA A0 nA iN capA cap0 ls ls wB RA.out R0.out (by have h1 := RA.out.1; have := R0.out.1; omega) (by omega)
        rw [decide_eq_true rfl] at S2
        have S2 := Lib.hid S2
        clear bB dB S1
        go_wp2_with (go_at_call 21; refine S2.out.mono ?_; rintro e wC ⟨rfl, dC⟩; have B := Lib.hid (below_more B.out (dC.below wB.heap.size)); clear dC)
        go_ret
        exact ⟨rfl, B.out⟩
  · go_wp2_with fail
    clear hm hm0 hm1 hm2 hne hne2 e1 e1'
    go_loopw [9, 10, 11, 48] (fun W bw ai i wr => ∃ (iN WN bN aN : Nat), iN ≤ len0 ∧ WN ≤ iN ∧ i = .int .i64 iN ∧ W = .int .i64 WN ∧ bw = .int .i64 bN ∧ ai = .int .i64 aN ∧ Hid (bN = upto ls WN) ∧ Hid (aN = upto ls iN) ∧ Hid (bN ≤ k) ∧ Hid (WN < iN → k < upto ls (WN + 1)) ∧ Hid (Below W2.heap.size W2 wr)) (fun _ _ _ i _ => len0 - (intOf i).toNat)
    case atStart => exact ⟨0, 0, 0, 0, by omega, by omega, rfl, rfl, rfl, rfl, by show _ = _; simp [upto, framesB], by show _ = _; simp [upto, framesB], by show _ ≤ _; omega, by show _ → _; omega, Below.refl _ _⟩
    case round =>
      obtain ⟨iN, WN, bN, aN, hi, hW, rfl, rfl, rfl, rfl, HBN, HAN, HBK, HWK, hb⟩ := hrel
      by_cases hlt : iN < len0
      · have hrow := R0.out.step hb.out
        obtain ⟨p, rfl⟩ := hrow.some (by omega)
        obtain ⟨a, m, c, hx, hm, hri⟩ := hrow.at_ iN hlt
        have hst := upto_step (ls := ls) (k := iN) (by rw [HLL.out]; exact hlt)
        have hoki : OkL (ls.getD iN []) := HOK.out _ (by
          have : iN < ls.length := by rw [HLL.out]; exact hlt
          rw [show ls.getD iN [] = ls[iN] by simp [List.getD, this]]
          exact List.getElem_mem _)
        have hml := hri.1
        have hul := upto_le ls (iN + 1)
        have M := Lib.hid (make_ok a m c _ _ hri (by have := hoki.1; omega))
        generalize ls.getD iN [] = l at M hst
        have HST := Lib.hid hst
        have hfb : (frameB l).length ≤ 2600 ∧ aN ≤ 2600 ∧ aN + (frameB l).length ≤ 2600 := by have := HFL.out; have := HAN.out; omega
        have f1 : decide ((iN : Int) < (len0 : Int)) = true := by rw [decide_eq_true_eq]; omega
        clear hrow hri hst hoki hml hul hm
        go_wp2_with (go_at_call 14; refine M.out.mono ?_; rintro e w3 ⟨A4, n4, cap4, rfl, m4⟩; refine Hid.out ?_)
        refine Lib.hid ?_
        have hn4 := m4.1
        have HB4 := Lib.hid (below_more hb.out m4.2.2.2.2.2)
        obtain ⟨a2, ha2⟩ : ∃ a2, a2 = aN + n4 := ⟨_, rfl⟩
        have e5 : IntKind.i64.wrap ((aN : Int) + (n4 : Int)) = (a2 : Int) := by rw [IntWalk.i64_in _ (by omega)]; omega
        have HA2 : Hid (a2 = upto ls (iN + 1)) := by show _ = _; have h1 := HST.out; have h2 := HAN.out; omega
        have e6 : IntKind.i64.wrap ((iN : Int) + 1) = ((iN + 1 : Nat) : Int) := by rw [IntWalk.i64_in _ (by omega)]; omega
        clear m4 ha2 hn4 hfb
        by_cases hak : a2 ≤ k
        · have f2 : decide ((a2 : Int) ≤ (k : Int)) = true := by rw [decide_eq_true_eq]; omega
          have f3 : decide (a2 ≤ k) = true := by rw [decide_eq_true_eq]; omega
          have HAK := Lib.hid hak
          clear hak
          go_wp2_with fail
          go_roundw
          case rel => exact ⟨iN + 1, iN + 1, a2, a2, by omega, by omega, by go_num, by go_num, rfl, rfl, HA2, HA2, HAK, by show _ → _; omega, HB4⟩
          case measure => simp [intOf]; omega
        · have f2 : decide ((a2 : Int) ≤ (k : Int)) = false := by rw [decide_eq_false_iff_not]; omega
          have f3 : decide (a2 ≤ k) = false := by rw [decide_eq_false_iff_not]; omega
          have HWK2 : Hid (WN < iN + 1 → k < upto ls (WN + 1)) := by
            show _ → _
            intro _
            by_cases hWi : WN < iN
            · exact HWK.out hWi
            · have : WN = iN := by omega
              subst this
              have := HA2.out
              omega
          clear hak
          go_wp2_with fail
          go_roundw
          case rel => exact ⟨iN + 1, WN, bN, a2, by omega, by omega, by go_num, rfl, rfl, rfl, HBN, HA2, HBK, HWK2, HB4⟩
          case measure => simp [intOf]; omega
      · obtain rfl : iN = len0 := by omega
        have f1 : decide ((iN : Int) < (iN : Int)) = false := by simp
        have ht := cut_told HLL.out HOK.out hW (by have := HBN.out; have := HBK.out; omega) HWK.out (by have := N3.out; omega)
        rw [← HBN.out] at ht
        have HT := Lib.hid ht
        have ha := Told.alone HOK.out
        rw [← N3.out] at ha
        have HA := Lib.hid ha
        have R0 := Lib.hid (R0.out.step hb.out)
        have R3 := Lib.hid (R3.out.step hb.out)
        have B := Lib.hid (below_more B.out hb.out)
        have hkc : k ≤ cap3 := by omega
        clear ht ha hb
        have F1 := Lib.hid (frames_row A3 k cap3 _ _ bN _ (R3.out.take hk3) (by omega) hkc HT.out)
        go_wp2_with (go_at_call 19; refine F1.out.mono ?_; rintro e w9 ⟨A9, n9, cap9, rfl, h9, r9, b9⟩; refine Hid.out ?_)
        refine Lib.hid ?_
        have R0 := Lib.hid (R0.out.step b9)
        have R3 := Lib.hid (R3.out.step b9)
        have B := Lib.hid (below_more B.out b9)
        have R9 := Lib.hid r9
        clear r9 b9 F1
        have F2 := Lib.hid (frames_row A3 n3 cap3 _ _ n3 _ R3.out (by omega) h3 HA.out)
        go_wp2_with (go_at_call 19; refine F2.out.mono ?_; rintro e wA ⟨AA, nA, capA, rfl, hA, rA, bA⟩; refine Hid.out ?_)
        refine Lib.hid ?_
        have R0 := Lib.hid (R0.out.step bA)
        have R9 := Lib.hid (R9.out.step bA)
        have B := Lib.hid (below_more B.out bA)
        have RA := Lib.hid rA
        clear rA bA F2
        have hWc : WN ≤ cap0 := by omega
        have S1 := rlists_any A9 A0 n9 WN cap9 cap0 _ _ wA R9.out (R0.out.take hW) (by have h1 := R9.out.1; rw [List.length_take] at h1; omega) (by omega)
        rw [decide_eq_true rfl] at S1
        have S1 := Lib.hid S1
        go_wp2_with (go_at_call 21; refine S1.out.mono ?_; rintro e wB ⟨rfl, dB⟩; refine Hid.out ?_)
        refine Lib.hid ?_
        have bB := dB.below wA.heap.size
        have R0 := Lib.hid (R0.out.step bB)
        have RA := Lib.hid (RA.out.step bB)
        have B := Lib.hid (below_more B.out bB)
        have S2 := rlists_any AA A0 nA iN capA cap0 ls ls wB RA.out R0.out (by have h1 := RA.out.1; have := R0.out.1; omega) (by omega)
        rw [decide_eq_true rfl] at S2
        have S2 := Lib.hid S2
        clear bB dB S1
        go_wp2_with (go_at_call 21; refine S2.out.mono ?_; rintro e wC ⟨rfl, dC⟩; have B := Lib.hid (below_more B.out (dC.below wB.heap.size)); clear dC)
        go_ret
        exact ⟨rfl, B.out⟩
end Go.Proofs.Ytdambggcaimndaa
