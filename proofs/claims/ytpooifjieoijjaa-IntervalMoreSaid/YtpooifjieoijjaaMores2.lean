/- Layer 2: IntervalMore, a longer list. -/
import Derived.Test.YtpooifjieoijjaaMores
namespace Go.Proofs.Ytpooifjieoijjaa
open Go.RowKit Go
set_option linter.unusedVariables false

theorem depth_snoc (zs : List (Int × Int)) (a x : _) : depthN zs x ≤ depthN (zs ++ [a]) x := by simp [depthN]
theorem ok_snoc {zs : List (Int × Int)} {a : Int × Int} (h : okList zs = true) (ha : validB a = true) (hl : zs.length ≤ 63) : okList (zs ++ [a]) = true := by
  rw [okList, Bool.and_eq_true] at h ⊢
  refine ⟨by simp; omega, ?_⟩
  rw [List.all_append, h.2]
  simp [ha]
theorem cover_in {zs xs : List (Int × Int)} {N : Int} (h : IsCover zs N xs) (x : Int) : inL xs x = true ↔ N ≤ (depthN zs x : Int) := h.2.2 x

set_option maxRecDepth 20000 in
set_option maxHeartbeats 1600000 in
theorem mores_yes (A : Option Addr) (len cap : Nat) (zs : List (Int × Int)) (a b need more x N M : Int) (w : World) (hr : Row w.heap.size w A len zs) (hnil : A = none → cap = 0) (hl : len ≤ 63) (ho : okList zs = true) (hv : validB (a, b) = true)
    (b1 : 0 ≤ need) (b2 : need ≤ 255) (c1 : 0 ≤ more) (c2 : more ≤ 255) (hN : 1 + need % 64 = N) (n1 : 1 ≤ N) (n2 : N ≤ 64) (hM : min 64 (N + more) = M) (m1 : N ≤ M) (m2 : M ≤ 64) :
    Calls Try.prog 8 #[.slice A len cap, .agg #[.int .i64 a, .int .i64 b], .int .u8 need, .int .u8 more, .int .i64 x] w (Gives (.bool true) w) := by
  have HD := Lib.hid head_true
  have HR := Lib.hid (hr.below (below_alloc w (.cells #[.int .i64 a, .int .i64 b] 24)))
  have T6 := Lib.hid (Two.new w 24 (.int .i64 a) (.int .i64 b))
  have BA := Lib.hid (below_alloc w (.cells #[.int .i64 a, .int .i64 b] 24))
  have HL := Lib.hid hr.1
  have HO := Lib.hid ho
  have V := Lib.hid (rvalid_any a b)
  rw [hv] at V
  have HV := Lib.hid hv
  clear hr ho hv
  go_enter Try.func8, Try.ntmps8
  go_wp2_with fail
  refine (HD.out _).mono ?_
  rintro e w1 ⟨rfl, bb⟩
  have HR := Lib.hid ((HR.out.more (by simp)).step bb)
  have T6 := Lib.hid (T6.out.step bb)
  have B := Lib.hid (below_more BA.out bb)
  clear bb
  go_wp2_with fail
  refine (rlist_any A len cap zs w1 HR.out (by omega)).mono ?_
  rintro e w2 ⟨rfl, bb⟩
  rw [HO.out]
  have HR := Lib.hid (HR.out.step bb)
  have T6 := Lib.hid (T6.out.step bb)
  have B := Lib.hid (below_more B.out bb)
  clear bb
  have t0 := T6.out.c0
  have t1 := T6.out.c1
  go_wp2_with fail
  refine (V.out _).mono ?_
  rintro e w6 ⟨rfl, bb⟩
  have HR := Lib.hid (HR.out.step bb)
  have T6 := Lib.hid (T6.out.step bb)
  have B := Lib.hid (below_more B.out bb)
  clear bb t0 t1
  have hlt6 : w.heap.size < w6.heap.size := T6.out.lt
  go_upto_region 6 with fail
  clear hN hM
  go_cut [14] (fun s wx => ∃ (A' : Option Addr) (cap' : Nat), s = .slice A' (len + 1 : Nat) cap' ∧ Hid (Row wx.heap.size wx A' (len + 1) (zs ++ [(a, b)])) ∧ Hid (Below w6.heap.size w6 wx))
  case first =>
    have t0 := T6.out.c0
    have t1 := T6.out.c1
    have F1 := Lib.hid (heap_alloc_new w6.drew (.cells #[] 24))
    have F2 := Lib.hid ((Below.heap_alloc (w6.drew.alloc (.cells #[] 24)) (.cells #[.int .i64 a, .int .i64 b] 24) w6.heap.size (by simp)).trans F1.out)
    have F3 := Lib.hid (heap_alloc_new (w6.drew.alloc (.cells #[.int .i64 a, .int .i64 b] 24)) (.cells #[] 24))
    have G2 := Lib.hid (heap_alloc_new (w6.drew.alloc (.cells #[] 24)) (.cells #[.int .i64 a, .int .i64 b] 24))
    have G3 := Lib.hid ((Below.heap_alloc (w6.drew.alloc (.cells #[.int .i64 a, .int .i64 b] 24)) (.cells #[] 24) w6.heap.size (by simp)).trans (heap_alloc_new w6.drew (.cells #[.int .i64 a, .int .i64 b] 24)))
    have B1 : Hid (Below w6.heap.size w6 (w6.drew.alloc (.cells #[] 24))) := (Below.refl _ w6).drew.alloc (Nat.le_refl _) _
    have B2 : Hid (Below w6.heap.size w6 ((w6.drew.alloc (.cells #[] 24)).alloc (.cells #[.int .i64 a, .int .i64 b] 24))) := B1.out.alloc B1.out.size _
    have B3 : Hid (Below w6.heap.size w6 ((w6.drew.alloc (.cells #[.int .i64 a, .int .i64 b] 24)).alloc (.cells #[] 24))) := ((Below.refl _ w6).drew.alloc (Nat.le_refl _) _).alloc (by simp) _
    have L2 : Hid (w6.heap.size + 1 < ((w6.drew.alloc (.cells #[] 24)).alloc (.cells #[.int .i64 a, .int .i64 b] 24)).heap.size) := by show _ < _; simp
    have L3 : Hid (w6.heap.size < ((w6.drew.alloc (.cells #[.int .i64 a, .int .i64 b] 24)).alloc (.cells #[] 24)).heap.size) := by show _ < _; simp; omega
    rw [show (w6.drew.alloc (.cells #[] 24)).heap.size = w6.heap.size + 1 by simp] at G2
    rw [show (w6.drew.alloc (.cells #[.int .i64 a, .int .i64 b] 24)).heap.size = w6.heap.size + 1 by simp] at F3
    have ne6 := World.new_ne w6 _ t0
    go_region_held3 (fun w' => w'.cell? ⟨w.heap.size, 0, none⟩ = some (.int .i64 a) ∧ w'.cell? ⟨w.heap.size, 1, none⟩ = some (.int .i64 b)) (go_keep)
        (first
          | (refine step_app_list rfl _ _ rfl w6.heap.size w6.heap.size rfl F1.out (Nat.le_refl _) A len cap zs rfl (HR.out.below B1.out) hnil hl B1.out.size ?_; intro v2 w2 hown2 hgrow2; have hb2 : Below w6.heap.size w6 w2 := B1.out.grown hgrow2 B1.out.size (by intro j ej; injection ej with ej; subst ej; exact Nat.le_refl _); have hB2 := Lib.hid hb2; have s0 := ((T6.out.below hb2 hlt6).c0); have s1 := ((T6.out.below hb2 hlt6).c1); have hO := Lib.hid hown2; clear hown2 hgrow2 hb2)
          | (refine step_app_list rfl _ _ rfl w6.heap.size w6.heap.size rfl F2.out (Nat.le_refl _) A len cap zs rfl (HR.out.below B2.out) hnil hl B2.out.size ?_; intro v2 w2 hown2 hgrow2; have hb2 : Below w6.heap.size w6 w2 := B2.out.grown hgrow2 B2.out.size (by intro j ej; injection ej with ej; subst ej; exact Nat.le_refl _); have hB2 := Lib.hid hb2; have s0 := ((T6.out.below hb2 hlt6).c0); have s1 := ((T6.out.below hb2 hlt6).c1); have hG := Lib.hid ((hgrow2.block (w6.heap.size + 1) L2.out (by simp)).trans G2.out); have hO := Lib.hid hown2; clear hown2 hgrow2 hb2)
          | (refine step_app_list rfl _ _ rfl w6.heap.size (w6.heap.size + 1) rfl F3.out (Nat.le_succ _) A len cap zs rfl (HR.out.below B3.out) hnil hl B3.out.size ?_; intro v2 w2 hown2 hgrow2; have hb2 : Below w6.heap.size w6 w2 := B3.out.grown hgrow2 B3.out.size (by intro j ej; injection ej with ej; subst ej; exact Nat.le_succ _); have hB2 := Lib.hid hb2; have s0 := ((T6.out.below hb2 hlt6).c0); have s1 := ((T6.out.below hb2 hlt6).c1); have hG := Lib.hid ((hgrow2.block w6.heap.size L3.out (by simp)).trans G3.out); have hO := Lib.hid hown2; clear hown2 hgrow2 hb2)
          | (refine step_app_one rfl _ _ rfl w6.heap.size _ len (cellsE zs) rfl hO.out (w6.heap.size + 1) a b rfl hG.out hl hB2.out.size ?_; intro v4 w4 hown4 hgrow4; have hb4 : Below w6.heap.size w6 w4 := hB2.out.grown hgrow4 hB2.out.size (fun j ej => (World.ownsRow.lt hO.out j ej).1); have HB4 := Lib.hid hb4; have s0 := ((T6.out.below hb4 hlt6).c0); have s1 := ((T6.out.below hb4 hlt6).c1); have hO4 := Lib.hid hown4; clear hown4 hgrow4 hb4)
          | (refine step_app_one rfl _ _ rfl w6.heap.size _ len (cellsE zs) rfl hO.out w6.heap.size a b rfl hG.out hl hB2.out.size ?_; intro v4 w4 hown4 hgrow4; have hb4 : Below w6.heap.size w6 w4 := hB2.out.grown hgrow4 hB2.out.size (fun j ej => (World.ownsRow.lt hO.out j ej).1); have HB4 := Lib.hid hb4; have s0 := ((T6.out.below hb4 hlt6).c0); have s1 := ((T6.out.below hb4 hlt6).c1); have hO4 := Lib.hid hown4; clear hown4 hgrow4 hb4)
          | (refine step_app_one rfl _ _ rfl w6.heap.size _ len (cellsE zs) rfl (hO.out.alloc _) w2.heap.size a b rfl (heap_alloc_new w2 _) hl (hB2.out.alloc hB2.out.size _).size ?_; intro v4 w4 hown4 hgrow4; have hb4 : Below w6.heap.size w6 w4 := (hB2.out.alloc hB2.out.size _).grown hgrow4 (hB2.out.alloc hB2.out.size _).size (fun j ej => (World.ownsRow.lt hO.out j ej).1); have HB4 := Lib.hid hb4; have s0 := ((T6.out.below hb4 hlt6).c0); have s1 := ((T6.out.below hb4 hlt6).c1); have hO4 := Lib.hid hown4; clear hown4 hgrow4 hb4))
    all_goals
      go_wp2_with fail
      go_meet
      obtain ⟨A2, cap2, e2, hR2⟩ := row_own (xs := zs ++ [(a, b)]) (by rw [List.length_append, HL.out, cellsE_app]; exact hO4.out)
      rw [List.length_append, HL.out] at e2 hR2
      exact ⟨A2, cap2, e2, hR2, HB4.out⟩
  case rest =>
  obtain ⟨A4, cap4, rfl, HR4, BB⟩ := hcut
  obtain ⟨w7, rfl⟩ : ∃ w7 : World, w7 = wc := ⟨_, rfl⟩
  have HR := Lib.hid (HR.out.step BB.out)
  have B := Lib.hid (below_more B.out BB.out)
  clear BB
  have HO4 : Hid (okList (zs ++ [(a, b)]) = true) := ok_snoc HO.out HV.out (by rw [HL.out]; exact hl)
  have HDS := Lib.hid (fun x : Int => depth_snoc zs (a, b) x)
  generalize zs ++ [(a, b)] = us at HR4 HO4 HDS
  go_wp2_with fail
  refine (cover_ok A len cap zs N w7 HR.out HO.out n1 n2).mono ?_
  rintro e w8 ⟨A5, cap5, xn, rfl, hX, hx5, hC, bb⟩
  have HXN := Lib.hid hX
  have HCN := Lib.hid hC
  have HR := Lib.hid (HR.out.step bb)
  have HR4 := Lib.hid (HR4.out.step bb)
  have B := Lib.hid (below_more B.out bb)
  clear bb hX hC
  go_wp2_with fail
  refine (cover_ok A len cap zs M w8 HR.out HO.out (by omega) m2).mono ?_
  rintro e w9 ⟨A6, cap6, xm, rfl, hX, hx6, hC, bb⟩
  have HXM := Lib.hid hX
  have HCM := Lib.hid hC
  have HXN := Lib.hid (HXN.out.step bb)
  have HR4 := Lib.hid (HR4.out.step bb)
  have B := Lib.hid (below_more B.out bb)
  clear bb hX hC
  go_wp2_with fail
  refine (cover_ok A4 (len + 1) cap4 us N w9 HR4.out HO4.out n1 n2).mono ?_
  rintro e w10 ⟨A7, cap7, xl, rfl, hX, hx7, hC, bb⟩
  have HXL := Lib.hid hX
  have HCL := Lib.hid hC
  have HXN := Lib.hid (HXN.out.step bb)
  have HXM := Lib.hid (HXM.out.step bb)
  have B := Lib.hid (below_more B.out bb)
  clear bb hX hC
  have f1 : inL xm x = true → inL xn x = true := fun h => (cover_in HCN.out x).2 (Int.le_trans m1 ((cover_in HCM.out x).1 h))
  have f2 : inL xn x = true → inL xl x = true := fun h => (cover_in HCL.out x).2 (Int.le_trans ((cover_in HCN.out x).1 h) (Int.ofNat_le.2 (HDS.out x)))
  have IN := Lib.hid (fun (W : World) (h : Row W.heap.size W A5 xn.length xn) => rin_any A5 xn.length cap5 xn x W h (by omega))
  have IM := Lib.hid (fun (W : World) (h : Row W.heap.size W A6 xm.length xm) => rin_any A6 xm.length cap6 xm x W h (by omega))
  have IL := Lib.hid (fun (W : World) (h : Row W.heap.size W A7 xl.length xl) => rin_any A7 xl.length cap7 xl x W h (by omega))
  clear HCN HCM HCL HDS HO4
  generalize inL xn x = bn at IN f1 f2
  generalize inL xm x = bm at IM f1
  generalize inL xl x = bl at IL f2
  cases bm with
  | true =>
    obtain rfl : bn = true := f1 rfl
    obtain rfl : bl = true := f2 rfl
    clear f1 f2
    go_wp2_with fail
    refine (IM.out _ HXM.out).mono ?_
    rintro e w' ⟨rfl, bb⟩
    have HXN := Lib.hid (HXN.out.step bb)
    have HXM := Lib.hid (HXM.out.step bb)
    have HXL := Lib.hid (HXL.out.step bb)
    have B := Lib.hid (below_more B.out bb)
    clear bb
    go_wp2_with fail
    refine (IN.out _ HXN.out).mono ?_
    rintro e w' ⟨rfl, bb⟩
    have HXN := Lib.hid (HXN.out.step bb)
    have HXM := Lib.hid (HXM.out.step bb)
    have HXL := Lib.hid (HXL.out.step bb)
    have B := Lib.hid (below_more B.out bb)
    clear bb
    go_wp2_with fail
    refine (IN.out _ HXN.out).mono ?_
    rintro e w' ⟨rfl, bb⟩
    have HXN := Lib.hid (HXN.out.step bb)
    have HXM := Lib.hid (HXM.out.step bb)
    have HXL := Lib.hid (HXL.out.step bb)
    have B := Lib.hid (below_more B.out bb)
    clear bb
    go_wp2_with fail
    refine (IL.out _ HXL.out).mono ?_
    rintro e w' ⟨rfl, bb⟩
    have HXN := Lib.hid (HXN.out.step bb)
    have HXM := Lib.hid (HXM.out.step bb)
    have HXL := Lib.hid (HXL.out.step bb)
    have B := Lib.hid (below_more B.out bb)
    clear bb
    go_wp2_with fail
    go_ret
    exact ⟨rfl, B.out⟩
  | false =>
    clear f1
    cases bn with
    | true =>
      obtain rfl : bl = true := f2 rfl
      clear f2
      go_wp2_with fail
      refine (IM.out _ HXM.out).mono ?_
      rintro e w' ⟨rfl, bb⟩
      have HXN := Lib.hid (HXN.out.step bb)
      have HXM := Lib.hid (HXM.out.step bb)
      have HXL := Lib.hid (HXL.out.step bb)
      have B := Lib.hid (below_more B.out bb)
      clear bb
      go_wp2_with fail
      refine (IN.out _ HXN.out).mono ?_
      rintro e w' ⟨rfl, bb⟩
      have HXN := Lib.hid (HXN.out.step bb)
      have HXM := Lib.hid (HXM.out.step bb)
      have HXL := Lib.hid (HXL.out.step bb)
      have B := Lib.hid (below_more B.out bb)
      clear bb
      go_wp2_with fail
      refine (IL.out _ HXL.out).mono ?_
      rintro e w' ⟨rfl, bb⟩
      have HXN := Lib.hid (HXN.out.step bb)
      have HXM := Lib.hid (HXM.out.step bb)
      have HXL := Lib.hid (HXL.out.step bb)
      have B := Lib.hid (below_more B.out bb)
      clear bb
      go_wp2_with fail
      go_ret
      exact ⟨rfl, B.out⟩
    | false =>
      clear f2
      go_wp2_with fail
      refine (IM.out _ HXM.out).mono ?_
      rintro e w' ⟨rfl, bb⟩
      have HXN := Lib.hid (HXN.out.step bb)
      have HXM := Lib.hid (HXM.out.step bb)
      have HXL := Lib.hid (HXL.out.step bb)
      have B := Lib.hid (below_more B.out bb)
      clear bb
      go_wp2_with fail
      refine (IN.out _ HXN.out).mono ?_
      rintro e w' ⟨rfl, bb⟩
      have HXN := Lib.hid (HXN.out.step bb)
      have HXM := Lib.hid (HXM.out.step bb)
      have HXL := Lib.hid (HXL.out.step bb)
      have B := Lib.hid (below_more B.out bb)
      clear bb
      go_wp2_with fail
      go_ret
      exact ⟨rfl, B.out⟩

theorem mores_law (A : Option Addr) (len cap : Nat) (zs : List (Int × Int)) (a b need more x : Int) (w : World) (hr : Row w.heap.size w A len zs) (hl : len ≤ cap) (hm : cap ≤ 9223372036854775807) (hnil : A = none → cap = 0) (w1 : (Lit.int .u8 need).wf = true) (w2 : (Lit.int .u8 more).wf = true) (_ : (Lit.int .i64 x).wf = true) :
    Calls Try.prog 8 #[.slice A len cap, .agg #[.int .i64 a, .int .i64 b], .int .u8 need, .int .u8 more, .int .i64 x] w (Gives (.bool true) w) := by
  obtain ⟨b1, b2⟩ := u8_wf w1
  obtain ⟨c1, c2⟩ := u8_wf w2
  by_cases h63 : 63 < len
  · exact mores_no A len cap zs a b need more x w hr (by omega) (.inl h63)
  · cases ho : okList zs with
    | false => exact mores_no A len cap zs a b need more x w hr (by omega) (.inr (.inl ho))
    | true =>
      cases hv : validB (a, b) with
      | false => exact mores_no A len cap zs a b need more x w hr (by omega) (.inr (.inr hv))
      | true => exact mores_yes A len cap zs a b need more x _ _ w hr hnil (by omega) ho hv b1 b2 c1 c2 rfl (by omega) (by omega) rfl (by omega) (by omega)
end Go.Proofs.Ytpooifjieoijjaa
