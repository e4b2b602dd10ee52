/- Layer 4: the statement of bytes behind frames: few lists. -/
import Derived.OwnWalk
import Derived.Test.YtdambggcaimndaaBehind
namespace Go.Proofs.Ytdambggcaimndaa
open Go.RowKit Go.Sort Go
set_option linter.unusedVariables false

set_option maxRecDepth 100000 in
set_option maxHeartbeats 8000000 in
theorem behind_small (A0 : Option Addr) (len0 cap0 : Nat) (ls : List (List Int)) (A1 : Option Addr) (len1 cap1 : Nat) (z1 : List UInt8) (w : World)
    (r0 : RowL w.heap.size w A0 len0 ls) (h : len0 + ints ls ≤ 200)
    (r1 : Row8 w.heap.size w A1 len1 z1) (l1 : len1 ≤ cap1) (m1 : cap1 ≤ 9223372036854775807) (n1 : A1 = none → cap1 = 0) :
    Calls Try.prog 7 #[.slice A0 len0 cap0, .slice A1 len1 cap1] w (Gives (.bool true) w) := by
  have H := Lib.hid (head_true w)
  have hll := r0.1
  have hok := r0.ok (by omega)
  have hfl := framesB_short ls hok
  obtain ⟨j, hj⟩ : ∃ j, j = min len1 3000 := ⟨_, rfl⟩
  have FW := Lib.hid (fun w => few_any A1 len1 j cap1 w l1 m1 hj)
  have hj1 : j ≤ cap1 := by omega
  have hj2 : j ≤ 3000 := by omega
  have R0 := Lib.hid r0
  have R1 := Lib.hid (r1.take (show j ≤ len1 by omega))
  have N1 := Lib.hid n1
  generalize z1.take j = b at R1
  have SM : Hid (∀ W, RowL W.heap.size W A0 len0 ls → Calls Try.prog 23 #[.slice A0 len0 cap0] W fun e w' => e = .returned (.bool true) ∧ W = w') := fun W hr => by
    have := small_any A0 len0 cap0 ls W hr (by omega)
    rwa [decide_eq_true h] at this
  have FR : Hid (∀ W, RowL W.heap.size W A0 len0 ls → Calls Try.prog 24 #[.slice A0 len0 cap0] W fun e w' => ∃ A' n' cap', e = .returned (.tuple #[.slice A' n' cap', .bool true]) ∧ Made W.heap.size (framesB ls) W A' n' cap' w') := fun W hr =>
    framed_any A0 len0 cap0 ls W hr hok (by omega) (by omega)
  obtain ⟨ps, q, ht⟩ := told_ex b.length b (Nat.le_refl _)
  obtain ⟨hq1, hq2⟩ := told_len ht
  have hbj := R1.out.1
  have hps : ps.length ≤ 1000 := by omega
  have TB := Lib.hid (Told.behind hok ht)
  have HT := Lib.hid ht
  obtain ⟨M, hM⟩ : ∃ M, M = (framesB ls).length + q := ⟨_, rfl⟩
  rw [← hM] at TB
  have HM := Lib.hid hM
  obtain ⟨np, hnp⟩ : ∃ np, np = ps.length := ⟨_, rfl⟩
  have HNP := Lib.hid hnp
  have hfl2 : (framesB ls).length ≤ 2600 := by omega
  have HFL := Lib.hid hfl2
  have HLL := Lib.hid hll
  have HH := Lib.hid h
  have hq3 : q ≤ j := by omega
  have hl200 : len0 ≤ 200 := by omega
  have hnp2 : np ≤ 1000 := by omega
  clear r0 r1 n1 hok hfl hj ht hq1 hq2 hbj hM hnp hps hfl2 hll h
  go_enter Try.func7, Try.ntmps7
  go_wp2_with (first | (go_at_call 9; refine H.out.mono ?_; rintro e W1 ⟨rfl, b1⟩; have B := Lib.hid b1; have R1 := Lib.hid (R1.out.step b1); have R0 := Lib.hid (R0.out.step b1); have S := Lib.hid (SM.out _ R0.out); have F := Lib.hid (FR.out _ R0.out); clear b1) | (go_at_call 10; refine (FW.out _).mono ?_; rintro e W ⟨rfl, rfl⟩) | (go_at_call 23; refine S.out.mono ?_; rintro e W ⟨rfl, rfl⟩) | (go_at_call 24; refine F.out.mono ?_; rintro e W2 ⟨A3, n3, cap3, rfl, m3⟩; refine Hid.out ?_))
  refine Lib.hid ?_
  have b2 := m3.2.2.2.2.2
  have R0 := Lib.hid (R0.out.step b2)
  have R1 := Lib.hid (R1.out.step b2)
  have B := Lib.hid (below_more B.out b2)
  have M3 := Lib.hid m3
  have hn3 : n3 ≤ 2600 := by have := m3.1; have := HFL.out; omega
  clear b2 m3 S F SM FR FW
  obtain ⟨W6, hW6⟩ : ∃ W, W2.alloc (.cells #[] 5) = W := ⟨_, rfl⟩
  have HO6 : Hid (Own W2.heap.size W6 (.slice (some ⟨W2.heap.size, 0, none⟩) 0 0) []) := by rw [← hW6]; exact own_new W2 [] W2.heap.size (Nat.le_refl _) (by simp [maxLen])
  have BW6 : Hid (Below W2.heap.size W2 W6) := by rw [← hW6]; exact below_alloc _ _
  have RA6 := Lib.hid (M3.out.2.2.2.2.1.step BW6.out)
  go_wp2_with (refine wpList_app8 rfl _ _ rfl W2.heap.size (.slice (some ⟨W2.heap.size, 0, none⟩) 0 0) [] rfl HO6.out _ _ _ _ _ rfl M3.out.2.2.1 RA6.out (by simp; omega) BW6.out.size ?_; refine Hid.out ?_)
  refine Lib.hid ?_
  intro v7 w7 ho7 hg7
  have bx7 : Below W2.heap.size W2 w7 := BW6.out.grown hg7 BW6.out.size (own_grown (w' := w) HO6.out)
  clear hW6 hg7 HO6 RA6
  have HO7 := Lib.hid (show Own W2.heap.size w7 v7 (framesB ls) from ho7)
  have R17 := Lib.hid (R1.out.step bx7)
  have hz7 := bx7.size
  have BX7 := Lib.hid bx7
  obtain ⟨A7, cap7, rfl, -⟩ := own_row ho7
  clear ho7 bx7
  go_wp2_with (refine wpList_app8 rfl _ _ rfl W2.heap.size _ _ rfl HO7.out _ _ _ _ _ rfl N1.out R17.out (by have := HFL.out; omega) hz7 ?_; refine Hid.out ?_)
  refine Lib.hid ?_
  intro v8 w8 ho8 hg8
  have bx8 : Below W2.heap.size W2 w8 := BX7.out.grown hg8 hz7 (own_grown (w' := w) HO7.out)
  obtain ⟨A8, n8, cap8, rfl, h8, -, -, r8⟩ := Own.row ho8
  have hn8 : n8 ≤ 100000 := by have h1 := r8.1; have h2 := HFL.out; have h3 := R1.out.1; rw [List.length_append] at h1; omega
  have R0 := Lib.hid (R0.out.step bx8)
  have R1 := Lib.hid (R1.out.step bx8)
  have B := Lib.hid (below_more B.out bx8)
  have F := Lib.hid (frames_row A8 n8 cap8 _ _ M w8 r8 hn8 h8 TB.out)
  clear r8 ho8 hg8 bx8 BX7 HO7 BW6 R17
  go_wp2_with (go_at_call 19; refine F.out.mono ?_; rintro e w9 ⟨A9, n9, cap9, rfl, h9, r9, b9⟩; refine Hid.out ?_)
  refine Lib.hid ?_
  have R0 := Lib.hid (R0.out.step b9)
  have R1 := Lib.hid (R1.out.step b9)
  have B := Lib.hid (below_more B.out b9)
  have R9 := Lib.hid r9
  have hn9 : n9 = len0 + np := by have h1 := r9.1; have := HLL.out; have := HNP.out; rw [List.length_append] at h1; omega
  have HN9 := Lib.hid hn9
  have hn9b : n9 ≤ 1200 := by omega
  clear r9 b9 F hn9
  have F := Lib.hid (frames_row A1 j cap1 b ps q w9 R1.out (by omega) hj1 HT.out)
  go_wp2_with (go_at_call 19; refine F.out.mono ?_; rintro e wA ⟨AA, nA, capA, rfl, hA, rA, bA⟩; refine Hid.out ?_)
  refine Lib.hid ?_
  have R0 := Lib.hid (R0.out.step bA)
  have R1 := Lib.hid (R1.out.step bA)
  have R9 := Lib.hid (R9.out.step bA)
  have B := Lib.hid (below_more B.out bA)
  have RA := Lib.hid rA
  obtain rfl : nA = np := by have h1 := rA.1; have := HNP.out; omega
  clear rA bA F
  have e1 : IntKind.i64.wrap ((len0 : Int) + (nA : Int)) = (n9 : Int) := by rw [IntWalk.i64_in _ (by omega)]; have := HN9.out; omega
  have e2 : IntKind.i64.wrap ((n3 : Int) + (q : Int)) = (M : Int) := by rw [IntWalk.i64_in _ (by omega)]; have := HM.out; have := M3.out.1; omega
  have hs1 : len0 ≤ n9 := by have := HN9.out; omega
  have hs2 : len0 ≤ cap9 := by omega
  have LT := ltail A9 n9 cap9 len0 hs1 h9
  have rt := R9.out.take hs1
  have rd := R9.out.drop hs1 h9
  have et : (ls ++ ps).take len0 = ls := by rw [← HLL.out]; exact List.take_left
  have ed : (ls ++ ps).drop len0 = ps := by rw [← HLL.out]; exact List.drop_left
  rw [et] at rt
  rw [ed] at rd
  generalize (if cap9 = len0 then A9 else A9.map (·.add len0)) = A9' at LT rd
  have RD := Lib.hid rd
  have S1 := rlists_any A9 A0 len0 len0 cap9 cap0 ls ls wA rt R0.out (by omega) (by omega)
  rw [decide_eq_true rfl] at S1
  have S1 := Lib.hid S1
  clear rt rd et ed
  go_wp2_with (go_at_call 21; refine S1.out.mono ?_; rintro e wB ⟨rfl, dB⟩; refine Hid.out ?_)
  refine Lib.hid ?_
  have bB := dB.below wA.heap.size
  have R1 := Lib.hid (R1.out.step bB)
  have RA := Lib.hid (RA.out.step bB)
  have RD := Lib.hid (RD.out.step bB)
  have B := Lib.hid (below_more B.out bB)
  have S2 := rlists_any A9' AA (n9 - len0) nA (cap9 - len0) capA ps ps wB RD.out RA.out (by omega) (by omega)
  rw [decide_eq_true rfl] at S2
  have S2 := Lib.hid S2
  clear bB dB S1
  go_wp2_with (go_at_call 21; refine S2.out.mono ?_; rintro e wC ⟨rfl, dC⟩; refine Hid.out ?_)
  refine Lib.hid ?_
  have bC := dC.below wB.heap.size
  have R1 := Lib.hid (R1.out.step bC)
  have RA := Lib.hid (RA.out.step bC)
  have B := Lib.hid (below_more B.out bC)
  have hfp : (framesB ps).length ≤ 1000000 := by have := HT.out.2.1; omega
  have F := Lib.hid (framed_any AA nA capA ps wC RA.out HT.out.2.2 hfp (by omega))
  clear bC dC S2 LT RD hfp
  go_wp2_with (go_at_call 24; refine F.out.mono ?_; rintro e wD ⟨AD, nD, capD, rfl, mD⟩; refine Hid.out ?_)
  refine Lib.hid ?_
  have bD := mD.2.2.2.2.2
  have R1 := Lib.hid (R1.out.step bD)
  have B := Lib.hid (below_more B.out bD)
  have g1 : decide ((0 : Int) ≤ (q : Int)) = true := by rw [decide_eq_true_eq]; omega
  have g2 : decide ((q : Int) ≤ (j : Int)) = true := by rw [decide_eq_true_eq]; omega
  have g3 : decide (q ≤ j) = true := by rw [decide_eq_true_eq]; omega
  have hq4 : q ≤ cap1 := by omega
  have S := rsame_any AD A1 nD q capD cap1 (framesB ps) (b.take q) wD mD.2.2.2.2.1 (R1.out.take hq3) (by have := mD.1; have := HT.out.2.1; omega) (by omega)
  have es : framesB ps = b.take q := by
    obtain ⟨⟨r, e, _⟩, h2, _⟩ := HT.out
    rw [e, h2]
    exact List.take_left.symm
  rw [decide_eq_true es] at S
  have S := Lib.hid S
  clear bD mD F es
  go_wp2_with (go_at_call 13; refine S.out.mono ?_; rintro e wE ⟨rfl, dE⟩; have B := Lib.hid (below_more B.out (dE.below wD.heap.size)); clear dE)
  go_ret
  exact ⟨rfl, B.out⟩
end Go.Proofs.Ytdambggcaimndaa
