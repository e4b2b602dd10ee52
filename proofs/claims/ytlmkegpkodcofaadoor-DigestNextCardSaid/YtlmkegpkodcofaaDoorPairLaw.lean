/- Layer 3: DigestPair. -/
import Derived.Deep.CutBlock
import Derived.Deep.DeepCutAuto
import Derived.Test.YtlmkegpkodcofaaDoorHead
namespace Go.Proofs.YtlmkegpkodcofaaDoor
open Go.RowKit Go.Sort Go
set_option linter.unusedVariables false

theorem u8_wf {x : Int} (h : (Lit.int .u8 x).wf = true) : 0 ≤ x ∧ x ≤ 255 := by
  have e1 : IntKind.u8.min = 0 := by decide
  have e2 : IntKind.u8.max = 255 := by decide
  simp [Lit.wf, e1, e2] at h; omega
theorem u64_wf {x : Int} (h : (Lit.int .u64 x).wf = true) : 0 ≤ x ∧ x ≤ 18446744073709551615 := by
  have e1 : IntKind.u64.min = 0 := by decide
  have e2 : IntKind.u64.max = 18446744073709551615 := by decide
  simp [Lit.wf, e1, e2] at h; omega
theorem i64_wf {x : Int} (h : (Lit.int .i64 x).wf = true) : -9223372036854775808 ≤ x ∧ x ≤ 9223372036854775807 := by
  have e1 : IntKind.i64.min = -9223372036854775808 := by decide
  have e2 : IntKind.i64.max = 9223372036854775807 := by decide
  simp [Lit.wf, e1, e2] at h; omega

theorem tmod8 (at_ : Int) : -8 < Int.tmod at_ 8 ∧ Int.tmod at_ 8 < 8 := by
  refine ⟨?_, Int.tmod_lt_of_pos at_ (by omega)⟩
  rcases Int.le_total 0 at_ with h | h
  · rw [Int.tmod_eq_emod_of_nonneg h]; omega
  · have h2 : Int.tmod (-at_) 8 = -(Int.tmod at_ 8) := Int.neg_tmod at_ 8
    rw [Int.tmod_eq_emod_of_nonneg (by omega)] at h2; omega

theorem place (at_ : Int) : ∃ k : Nat, k < 8 ∧ Int.tmod (Int.tmod at_ 8 + 8) 8 = (k : Int) := by
  obtain ⟨b1, b2⟩ := tmod8 at_
  refine ⟨(Int.tmod (Int.tmod at_ 8 + 8) 8).toNat, ?_, ?_⟩
  · rw [Int.tmod_eq_emod_of_nonneg (by omega)]; omega
  · rw [Int.tmod_eq_emod_of_nonneg (by omega)]; omega

theorem shift_at (wi k : Nat) (hw : wi < 256) (hk : k < 8) : IntKind.u64.wrap ((wi : Int) * 2 ^ (8 * k)) = ((wi * 2 ^ (8 * k) : Nat) : Int) := by
  rcases (by omega : k = 0 ∨ k = 1 ∨ k = 2 ∨ k = 3 ∨ k = 4 ∨ k = 5 ∨ k = 6 ∨ k = 7) with rfl | rfl | rfl | rfl | rfl | rfl | rfl | rfl <;> (rw [IntKind.wrap_u64]; simp only [Nat.reduceMul, Int.reducePow, Nat.reducePow]; omega)

theorem shift_lt (wi k : Nat) (hw : wi < 256) (hk : k < 8) : wi * 2 ^ (8 * k) < 18446744073709551616 := by
  rcases (by omega : k = 0 ∨ k = 1 ∨ k = 2 ∨ k = 3 ∨ k = 4 ∨ k = 5 ∨ k = 6 ∨ k = 7) with rfl | rfl | rfl | rfl | rfl | rfl | rfl | rfl <;> (simp only [Nat.reduceMul, Nat.reducePow]; omega)
theorem xor_lt64 (a wi k : Nat) (ha : a < 18446744073709551616) (hw : wi < 256) (hk : k < 8) : a ^^^ (wi * 2 ^ (8 * k)) < 18446744073709551616 :=
  Nat.xor_lt_two_pow (n := 64) (by omega) (by have := shift_lt wi k hw hk; omega)

theorem place_wraps (at_ : Int) (lo : -9223372036854775808 ≤ at_) (up : at_ ≤ 9223372036854775807) : wrap64 (Int.tmod at_ 8 + 8) = Int.tmod at_ 8 + 8 := by
  obtain ⟨b1, b2⟩ := tmod8 at_
  unfold wrap64; omega
theorem place_wraps2 (k : Nat) (hk : k < 8) : wrap64 (8 * (k : Int)) = 8 * (k : Int) := by unfold wrap64; omega

theorem pair_walk (a b : Nat) (at_ : Int) (wi : Nat) (ha : a < 18446744073709551616) (hb : b < 18446744073709551616) (lo : -9223372036854775808 ≤ at_) (up : at_ ≤ 9223372036854775807) (hw : wi < 256) (w : World) (htab : Tab w) :
    Calls Tryd.prog 8 #[.int .u64 a, .int .u64 b, .int .i64 at_, .int .u8 wi] w (Gives (.bool true) w) := by
  obtain ⟨k, hk, hK⟩ := place at_
  go_enter Tryd.func8, Tryd.ntmps8
  have HD := Lib.hid (head_true w htab)
  have HT := Lib.hid htab
  have HP := Lib.hid (pair_any a b ha hb)
  have HA := Lib.hid (reight_any a ha)
  have HB := Lib.hid (reight_any b hb)
  clear htab
  go_wp2_with (go_at_call 9; refine HD.out.mono ?_; rintro e w1 ⟨rfl, bb⟩; refine Hid.out ?_)
  refine Lib.hid ?_
  have B := Lib.hid bb
  clear bb
  go_wp2_with (go_at_call 16; refine (HP.out _).mono ?_; rintro e w2 ⟨rfl, bb⟩; refine Hid.out ?_)
  refine Lib.hid ?_
  have B := Lib.hid (below_more B.out bb)
  clear bb
  obtain ⟨W2, hW2⟩ : ∃ W2, w2.alloc (.cells #[.int .u8 1] 5) = W2 := ⟨_, rfl⟩
  have HO0 : Hid (Own w.heap.size W2 (.slice (some ⟨w2.heap.size, 0, none⟩) 1 1) [1]) := by rw [← hW2]; exact own_new w2 [1] w.heap.size B.out.size (by simp [maxLen])
  have HB0 : Hid (Below w.heap.size w W2) := by rw [← hW2]; exact below_more B.out (below_alloc _ _)
  have HW2 := Lib.hid hW2
  have l8 := eight_length a
  have l8b := eight_length b
  go_wp2_with (go_at_call 20; refine (HA.out _).mono ?_; rintro e w3 ⟨v1, rfl, ho1, hb1⟩; refine Hid.out ?_)
  refine Lib.hid ?_
  clear hW2
  obtain ⟨A1, n1, cap1, rfl, _, _, hn1, hr1⟩ := ho1.row
  have HO := Lib.hid (show Own w.heap.size w3 _ [1] from own_below HO0.out hb1)
  have HBB := Lib.hid (below_more HB0.out hb1)
  have HR1 := Lib.hid hr1
  have HN1 := Lib.hid hn1
  have hlen : ([1] : List UInt8).length + n1 ≤ 1000000000 := by have := hr1.1; simp only [List.length_cons, List.length_nil]; omega
  clear ho1 hb1 hr1 hn1 HW2
  go_wp2_with (at_builtin; refine wpList_app8w _ _ rfl (by rfl) w.heap.size (.slice (some ⟨w2.heap.size, 0, none⟩) 1 1) [1] rfl HO.out A1 n1 cap1 _ _ rfl HN1.out HR1.out hlen HBB.out.size ?_; refine Hid.out ?_)
  refine Lib.hid ?_
  intro v2 w4 ho2 hg2
  have hb2 : Below w.heap.size w w4 := HBB.out.grown hg2 HBB.out.size (own_grown (w' := w) HO.out)
  have HO2 := Lib.hid ho2
  have HB2 := Lib.hid hb2
  clear ho2 hb2 hg2 hlen
  go_wp2_with (go_at_call 20; refine (HB.out _).mono ?_; rintro e w5 ⟨v3, rfl, ho3, hb3⟩; refine Hid.out ?_)
  refine Lib.hid ?_
  obtain ⟨A3, n3, cap3, rfl, _, _, hn3, hr3⟩ := ho3.row
  have HO3 := Lib.hid (show Own w.heap.size w5 v2 ([1] ++ eight a) from own_below HO2.out hb3)
  have HB3 := Lib.hid (below_more HB2.out hb3)
  have HR3 := Lib.hid hr3
  have HN3 := Lib.hid hn3
  have hlen : ([1] ++ eight a : List UInt8).length + n3 ≤ 1000000000 := by have := hr3.1; simp only [List.length_append, List.length_cons, List.length_nil]; omega
  clear ho3 hb3 hr3 hn3
  go_wp2_with (at_builtin; refine wpList_app8w _ _ rfl (by rfl) w.heap.size v2 ([1] ++ eight a) rfl HO3.out A3 n3 cap3 _ _ rfl HN3.out HR3.out hlen HB3.out.size ?_; refine Hid.out ?_)
  refine Lib.hid ?_
  intro v4 w6 ho4 hg4
  have hb4 : Below w.heap.size w w6 := HB3.out.grown hg4 HB3.out.size (own_grown (w' := w) HO3.out)
  obtain ⟨A5, n5, cap5, rfl, _, _, _, hr5⟩ := ho4.row
  have HS := Lib.hid (sum_any A5 _ cap5 _ w6 hr5 (by have := hr5.1; simp at this; omega))
  have HB4 := Lib.hid hb4
  clear ho4 hr5 hb4 hg4 hlen
  go_wp2_with (go_at_call 10; refine HS.out.mono ?_; rintro e w7 ⟨rfl, rfl⟩; refine Hid.out ?_)
  refine Lib.hid ?_
  by_cases h0 : wi = 0
  · subst h0
    go_wp2_with fail
    go_ret
    exact ⟨rfl, HB4.out⟩
  · have h1 : ((wi : Int) == 0) = false := by rw [beq_eq_false_iff_ne]; omega
    obtain ⟨C, hC⟩ : ∃ C : Nat, wi * 2 ^ (8 * k) = C := ⟨_, rfl⟩
    have HC := Lib.hid hC
    clear hC
    go_upto_region 6 with fail
    go_cut [11] (fun s wx => s = .int .u64 (C : Int) ∧ wx = w6)
    case first =>
      have hw1 := place_wraps at_ lo up
      have hw2 := place_wraps2 k hk
      have hsh := shift_at wi k hw hk
      rw [HC.out] at hsh
      have HSH := Lib.hid hsh
      clear lo up hsh
      go_wp2_with fail
      go_meet
      exact ⟨congrArg (Value.int .u64) HSH.out, rfl⟩
    case rest =>
      obtain ⟨rfl, rfl⟩ := hcut
      have hx1 : a ^^^ C < 18446744073709551616 := by rw [← HC.out]; exact xor_lt64 a wi k ha hw hk
      have hx2 : b ^^^ C < 18446744073709551616 := by rw [← HC.out]; exact xor_lt64 b wi k hb hw hk
      have hC64 : C < 18446744073709551616 := by rw [← HC.out]; exact shift_lt wi k hw hk
      have x1 := bits_xor_u64_nat a C ha hC64
      have x2 := bits_xor_u64_nat b C hb hC64
      have P1 := Lib.hid (pair_any (a ^^^ C) b hx1 hb)
      have P2 := Lib.hid (pair_any a (b ^^^ C) ha hx2)
      have n1 : fnv fnv0 (1 :: (eight (a ^^^ C) ++ eight b)) ≠ fnv fnv0 (1 :: (eight a ++ eight b)) := by
        rw [← HC.out]
        have := fnv_eight [1] (eight b) a wi k hw (by omega) hk fnv0_lt
        simpa using this
      have n2 : fnv fnv0 (1 :: (eight a ++ eight (b ^^^ C))) ≠ fnv fnv0 (1 :: (eight a ++ eight b)) := by
        rw [← HC.out]
        have := fnv_eight (1 :: eight a) [] b wi k hw (by omega) hk fnv0_lt
        simpa using this
      generalize fnv fnv0 (1 :: (eight (a ^^^ C) ++ eight b)) = X1 at P1 n1
      generalize fnv fnv0 (1 :: (eight a ++ eight (b ^^^ C))) = X2 at P2 n2
      generalize fnv fnv0 (1 :: (eight a ++ eight b)) = X0 at n1 n2 ⊢
      generalize a ^^^ C = aC at x1 P1
      generalize b ^^^ C = bC at x2 P2
      have n1' : ((X1 : Int) != (X0 : Int)) = true := by rw [bne_iff_ne]; omega
      have n2' : ((X2 : Int) != (X0 : Int)) = true := by rw [bne_iff_ne]; omega
      clear n1 n2 hx1 hx2 hC64
      go_wp2_with (go_at_call 16; refine (P1.out _).mono ?_; rintro e w8 ⟨rfl, bb⟩; refine Hid.out ?_)
      refine Lib.hid ?_
      have B5 := Lib.hid (below_more HB4.out bb)
      clear bb
      go_wp2_with (go_at_call 16; refine (P2.out _).mono ?_; rintro e w9 ⟨rfl, bb⟩; refine Hid.out ?_)
      refine Lib.hid ?_
      have B6 := Lib.hid (below_more B5.out bb)
      clear bb
      go_wp2_with fail
      go_ret
      exact ⟨rfl, B6.out⟩

theorem pair_law (x0 x1 x2 x3 : Int) (w : World) (w0 : (Lit.int .u64 x0).wf = true) (w1 : (Lit.int .u64 x1).wf = true) (w2 : (Lit.int .i64 x2).wf = true) (w3 : (Lit.int .u8 x3).wf = true) (ht : Tab w) :
    Calls Tryd.prog 8 #[.int .u64 x0, .int .u64 x1, .int .i64 x2, .int .u8 x3] w (Gives (.bool true) w) := by
  obtain ⟨a1, a2⟩ := u64_wf w0
  obtain ⟨b1, b2⟩ := u64_wf w1
  obtain ⟨c1, c2⟩ := i64_wf w2
  obtain ⟨d1, d2⟩ := u8_wf w3
  obtain ⟨a, rfl⟩ : ∃ a : Nat, x0 = (a : Int) := ⟨x0.toNat, by omega⟩
  obtain ⟨b, rfl⟩ : ∃ b : Nat, x1 = (b : Int) := ⟨x1.toNat, by omega⟩
  obtain ⟨d, rfl⟩ : ∃ d : Nat, x3 = (d : Int) := ⟨x3.toNat, by omega⟩
  exact pair_walk a b x2 d (by omega) (by omega) c1 c2 (by omega) w ht
end Go.Proofs.YtlmkegpkodcofaaDoor
