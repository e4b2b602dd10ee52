/- Layer 2: IntervalCovers. -/
import Derived.Shelf.SlSortCmp.QuietGrown
import Derived.IntWalk
import Derived.BigQuiet
import Derived.Test.YtpooifjieoijjaaHead
namespace Go.Proofs.Ytpooifjieoijjaa
open Go.RowKit Go Go.Sort
set_option linter.unusedVariables false

theorem u8_wf {x : Int} (h : (Lit.int .u8 x).wf = true) : 0 ≤ x ∧ x ≤ 255 := by
  have e1 : IntKind.u8.min = 0 := by decide
  have e2 : IntKind.u8.max = 255 := by decide
  simp [Lit.wf, e1, e2] at h; omega

theorem valid_grown (a b : Int) (w : World) : Calls Try.prog 14 #[.agg #[.int .i64 a, .int .i64 b]] w fun e w' => e = .returned (.bool (validB (a, b))) ∧ ∃ q os', w' = grow (w.drewN q) os' := by
  by_cases h1 : 0 ≤ a
  · by_cases h2 : a ≤ b
    · by_cases h3 : b ≤ 3000000000000000
      · have e : validB (a, b) = true := by simp [validB, h1, h2, h3]
        rw [e]
        clear e
        go_enter Try.func14, Try.ntmps14
        go_wp2_with fail
        go_ret
        exact ⟨rfl, 0, _, by rw [alloc_eq_grow]; rfl⟩
      · have e : validB (a, b) = false := by simp [validB, h1, h2, h3]
        rw [e]
        clear e
        go_enter Try.func14, Try.ntmps14
        go_wp2_with fail
        go_ret
        exact ⟨rfl, 0, _, by rw [alloc_eq_grow]; rfl⟩
    · have e : validB (a, b) = false := by simp [validB, h1, h2]
      rw [e]
      clear e
      go_enter Try.func14, Try.ntmps14
      go_wp2_with fail
      go_ret
      exact ⟨rfl, 0, _, by rw [alloc_eq_grow]; rfl⟩
  · have e : validB (a, b) = false := by simp [validB, h1]
    rw [e]
    clear e
    go_enter Try.func14, Try.ntmps14
    go_wp2_with fail
    go_ret
    exact ⟨rfl, 0, _, by rw [alloc_eq_grow]; rfl⟩

theorem below_grown (w : World) (n : Nat) (os : Array Obj) : Below w.heap.size w (grow (w.drewN n) os) :=
  ⟨rfl, rfl, rfl, by simp [grow], fun b hb => heap_grow_old (w.drewN n) os (by exact hb)⟩

theorem pair_next {xs : List (Int × Int)} (h : xs.Pairwise (fun a b => a.2 + 1 < b.1)) (j : Nat) (hj : j + 1 < xs.length) : (xs.getD j (0, 0)).2 + 1 < (xs.getD (j + 1) (0, 0)).1 := by
  rw [show xs.getD j (0, 0) = xs[j] by simp [List.getD, show j < xs.length by omega], show xs.getD (j + 1) (0, 0) = xs[j + 1] by simp [List.getD, hj]]
  exact List.pairwise_iff_getElem.1 h j (j + 1) _ _ (by omega)

theorem covers_no (A : Option Addr) (len cap : Nat) (zs : List (Int × Int)) (need x : Int) (w : World) (hr : Row w.heap.size w A len zs) (hl : len ≤ 9223372036854775807) (ho : okList zs = false) :
    Calls Try.prog 7 #[.slice A len cap, .int .u8 need, .int .i64 x] w (Gives (.bool true) w) := by
  have HD := Lib.hid head_true
  have HR := Lib.hid hr
  have HO := Lib.hid ho
  clear hr ho
  go_enter Try.func7, Try.ntmps7
  go_wp2_with fail
  refine (HD.out _).mono ?_
  rintro e w1 ⟨rfl, bb⟩
  have HR := Lib.hid (HR.out.step bb)
  have B := Lib.hid bb
  clear bb
  go_wp2_with fail
  refine (rlist_any A len cap zs w1 HR.out hl).mono ?_
  rintro e w2 ⟨rfl, bb⟩
  rw [HO.out]
  have B := Lib.hid (below_more B.out bb)
  clear bb
  go_wp2_with fail
  go_ret
  exact ⟨rfl, B.out⟩

set_option maxHeartbeats 1000000 in
theorem covers_yes (A : Option Addr) (len cap : Nat) (zs : List (Int × Int)) (need x N : Int) (w : World) (hr : Row w.heap.size w A len zs) (hl : len ≤ 9223372036854775807) (ho : okList zs = true) (b1 : 0 ≤ need) (b2 : need ≤ 255) (hN : 1 + need % 64 = N) (n1 : 1 ≤ N) (n2 : N ≤ 64) :
    Calls Try.prog 7 #[.slice A len cap, .int .u8 need, .int .i64 x] w (Gives (.bool true) w) := by
  have HD := Lib.hid head_true
  have HR := Lib.hid hr
  have HO := Lib.hid ho
  clear hr ho
  go_enter Try.func7, Try.ntmps7
  go_wp2_with fail
  refine (HD.out _).mono ?_
  rintro e w1 ⟨rfl, bb⟩
  have HR := Lib.hid (HR.out.step bb)
  have B := Lib.hid bb
  clear bb
  go_wp2_with fail
  refine (rlist_any A len cap zs w1 HR.out hl).mono ?_
  rintro e w2 ⟨rfl, bb⟩
  rw [HO.out]
  have HR := Lib.hid (HR.out.step bb)
  have B := Lib.hid (below_more B.out bb)
  clear bb
  go_wp2_with fail
  refine (cover_ok2 A len cap zs N w2 HR.out HO.out n1 n2).mono ?_
  rintro e w3 ⟨A', cap', xs, rfl, hX, hg, hxl, hC, bb⟩
  have HX := Lib.hid hX
  have HG := Lib.hid hg
  have HC := Lib.hid hC
  have HR := Lib.hid (HR.out.step bb)
  have B := Lib.hid (below_more B.out bb)
  clear bb hX hg hC
  clear hN
  go_wp2_with fail
  have DE := Lib.hid (depth_any A len cap zs x w3 HR.out hl)
  rw [show depthR zs x = ((depthN zs x : Int), 0) by rw [depthR, HO.out]; rfl] at DE
  have hcov := HC.out.2.2 x
  have hdl : depthN zs x ≤ 64 := by
    have h1 := depthN_le zs x
    have h2 := HO.out
    rw [okList, Bool.and_eq_true] at h2
    have := h2.1
    simp at this; omega
  generalize depthN zs x = d at DE hcov hdl
  have HCV := Lib.hid hcov
  clear hcov
  refine DE.out.mono ?_
  rintro e w4 ⟨rfl, bb⟩
  have HX := Lib.hid (HX.out.step bb)
  have B := Lib.hid (below_more B.out bb)
  clear bb DE
  go_wp2_with fail
  have B0 := Lib.hid B.out
  go_loopw [13] (fun i wr => ∃ k : Nat, k ≤ xs.length ∧ i = .int .i64 k ∧ Hid (Row wr.heap.size wr A' xs.length xs) ∧ Hid (Below w.heap.size w wr)) (fun i _ => xs.length - (intOf i).toNat)
  case atStart => exact ⟨0, Nat.zero_le _, rfl, HX.out, B0.out⟩
  case round =>
    obtain ⟨k, hk, rfl, HXr, HBr⟩ := hrel
    by_cases hlt : k < xs.length
    · rcases HG.out with h0 | ⟨g, rfl⟩
      · rw [h0] at hlt; exact absurd hlt (by simp)
      · have hvk : validB (xs.getD k (0, 0)) = true := by
          rw [show xs.getD k (0, 0) = xs[k] by simp [List.getD, hlt]]
          exact HC.out.1 _ (List.getElem_mem hlt)
        obtain ⟨c0, c1⟩ := row_cells HXr.out k hlt
        have hmx : Try.prog.follows .mixedOrders = true := by kernel_rfl
        have gl := cell_lt c0
        cases k with
        | zero =>
          generalize xs.getD 0 (0, 0) = y at c0 c1 hvk
          simp only [Nat.zero_mul, Nat.zero_add] at c0 c1
          have f0 := cell_grown gl c0
          have f1 := cell_grown (a := ⟨g, 1, none⟩) gl c1
          have VK := Lib.hid (valid_grown y.1 y.2)
          rw [hvk] at VK
          clear hvk
          rw [show ((0 : Nat) : Int) = 0 from rfl]
          go_upto_region 10 with fail
          go_cut [65] (fun s wx => s = .bool false ∧ Hid (Below wr.heap.size wr wx))
          case first =>
            have hd1 : (0 : Int) < (xs.length : Int) := by omega
            clear HXr HBr HC HG HCV HD HO HR B HX B0
            refine wp_region_quiet_grown hmx (by kernel_rfl) ?_
            repeat (go_big_quiet_step ((go_at_call 14; refine Calls.grown_of (VK.out _))))
            refine wpQuiet_nil ?_
            intro _ hw'
            obtain ⟨⟨nq, osq⟩, hw''⟩ := hw'
            subst hw''
            have HB2 := Lib.hid (below_grown wr nq osq)
            clear f0 f1 c0 c1
            go_wp2_with fail
            go_meet
            exact ⟨rfl, HB2.out⟩
          case rest =>
            obtain ⟨rfl, HB2⟩ := hcut
            clear f0 f1 c0 c1
            go_wp2_with fail
            go_roundw
            case rel => exact ⟨1, by omega, by go_num, HXr.out.step HB2.out, below_more HBr.out HB2.out⟩
            case measure => simp [intOf]; omega
        | succ j =>
          have hpn := pair_next HC.out.2.1 j hlt
          have hvj : validB (xs.getD j (0, 0)) = true := by
            rw [show xs.getD j (0, 0) = xs[j] by simp [List.getD, show j < xs.length by omega]]
            exact HC.out.1 _ (List.getElem_mem _)
          obtain ⟨_, c3⟩ := row_cells HXr.out j (by omega)
          generalize xs.getD (j + 1) (0, 0) = y at c0 c1 hvk hpn
          generalize xs.getD j (0, 0) = z at c3 hpn hvj
          obtain ⟨z1, z2, z3⟩ := validB_yes hvj
          have f0 := cell_grown gl c0
          have f1 := cell_grown (a := ⟨g, (j + 1) * 2 + 1, none⟩) gl c1
          have f3 := cell_grown (a := ⟨g, j * 2 + 1, none⟩) gl c3
          have VK := Lib.hid (valid_grown y.1 y.2)
          rw [hvk] at VK
          clear hvk hvj
          rw [show ((j + 1 : Nat) : Int) = (j : Int) + 1 from by omega]
          go_upto_region 10 with fail
          go_cut [65] (fun s wx => s = .bool false ∧ Hid (Below wr.heap.size wr wx))
          case first =>
            have hd1 : (0 : Int) ≤ (j : Int) + 1 := by omega
            have hd2 : (j : Int) + 1 < (xs.length : Int) := by omega
            have hd3 : ((j : Int) + 1).toNat = j + 1 := by omega
            have hd4 : IntKind.i64.wrap ((j : Int) + 1 - 1) = (j : Int) := by rw [IntWalk.i64_in _ (by omega)]; omega
            have hd5 : IntKind.i64.wrap (j : Int) = (j : Int) := IntWalk.i64_in _ (by omega)
            have hd6 : (j : Int) < (xs.length : Int) := by omega
            have hd7 : IntKind.i64.wrap (z.2 + 1) = z.2 + 1 := IntWalk.i64_in _ (by omega)
            have hd8 : decide (y.1 ≤ z.2 + 1) = false := by rw [decide_eq_false_iff_not]; omega
            have hd9 : decide (0 < (j : Int) + 1) = true := by rw [decide_eq_true_eq]; omega
            clear HXr HBr HC HG HCV HD HO HR B HX B0
            refine wp_region_quiet_grown hmx (by kernel_rfl) ?_
            repeat (go_big_quiet_step ((go_at_call 14; refine Calls.grown_of (VK.out _))))
            refine wpQuiet_nil ?_
            intro _ hw'
            obtain ⟨⟨nq, osq⟩, hw''⟩ := hw'
            subst hw''
            have HB2 := Lib.hid (below_grown wr nq osq)
            clear f0 f1 f3 c0 c1 c3 hd1 hd2 hd3 hd4 hd5 hd6 hd7 hd8 hd9
            go_wp2_with fail
            go_meet
            exact ⟨rfl, HB2.out⟩
          case rest =>
            obtain ⟨rfl, HB2⟩ := hcut
            clear f0 f1 f3 c0 c1 c3
            go_wp2_with fail
            go_roundw
            case rel => exact ⟨j + 2, by omega, by go_num, HXr.out.step HB2.out, below_more HBr.out HB2.out⟩
            case measure => simp [intOf]; omega
    · obtain rfl : k = xs.length := by omega
      have RI := Lib.hid (rin_any A' xs.length cap' xs x wr HXr.out (by omega))
      cases hin : inL xs x with
      | true =>
        rw [hin] at RI
        have hge : N ≤ (d : Int) := HCV.out.1 hin
        go_wp2_with fail
        refine RI.out.mono ?_
        rintro e w6 ⟨rfl, bb⟩
        have B := Lib.hid (below_more HBr.out bb)
        clear bb
        go_wp2_with fail
        go_ret
        exact ⟨rfl, B.out⟩
      | false =>
        rw [hin] at RI
        have hge : ¬ N ≤ (d : Int) := fun h => by have := HCV.out.2 h; rw [hin] at this; cases this
        go_wp2_with fail
        refine RI.out.mono ?_
        rintro e w6 ⟨rfl, bb⟩
        have B := Lib.hid (below_more HBr.out bb)
        clear bb
        go_wp2_with fail
        go_ret
        exact ⟨ret_bool (by simp; omega), B.out⟩

theorem covers_true (A : Option Addr) (len cap : Nat) (zs : List (Int × Int)) (need x : Int) (w : World) (hr : Row w.heap.size w A len zs) (hl : len ≤ 9223372036854775807) (w1 : (Lit.int .u8 need).wf = true) :
    Calls Try.prog 7 #[.slice A len cap, .int .u8 need, .int .i64 x] w (Gives (.bool true) w) := by
  obtain ⟨b1, b2⟩ := u8_wf w1
  cases ho : okList zs with
  | false => exact covers_no A len cap zs need x w hr hl ho
  | true => exact covers_yes A len cap zs need x _ w hr hl ho b1 b2 rfl (by omega) (by omega)

theorem covers_law (A : Option Addr) (len cap : Nat) (zs : List (Int × Int)) (need x : Int) (w : World) (hr : Row w.heap.size w A len zs) (hl : len ≤ cap) (hm : cap ≤ 9223372036854775807) (w1 : (Lit.int .u8 need).wf = true) (_ : (Lit.int .i64 x).wf = true) :
    Calls Try.prog 7 #[.slice A len cap, .int .u8 need, .int .i64 x] w (Gives (.bool true) w) := covers_true A len cap zs need x w hr (by omega) w1
end Go.Proofs.Ytpooifjieoijjaa
