/- Layer 2: IntervalDepths. -/
import Derived.Test.YtpooifjieoijjaaCovers
namespace Go.Proofs.Ytpooifjieoijjaa
open Go.RowKit Go
set_option linter.unusedVariables false

def mx (zs L : List (Int × Int)) : Nat := L.foldl (fun m i => max m (depthN zs i.1)) 0
theorem mx_snoc (zs L : List (Int × Int)) (i : Int × Int) : mx zs (L ++ [i]) = max (mx zs L) (depthN zs i.1) := by simp [mx]
theorem mx_ge (zs L : List (Int × Int)) : (∀ i ∈ L, depthN zs i.1 ≤ mx zs L) ∧ (mx zs L = 0 ∨ ∃ i ∈ L, mx zs L = depthN zs i.1) := by
  suffices H : ∀ L : List (Int × Int), (∀ i ∈ L.reverse, depthN zs i.1 ≤ mx zs L.reverse) ∧ (mx zs L.reverse = 0 ∨ ∃ i ∈ L.reverse, mx zs L.reverse = depthN zs i.1) by
    have := H L.reverse
    rwa [List.reverse_reverse] at this
  intro L
  induction L with
  | nil => simp [mx]
  | cons x L ih =>
    obtain ⟨h1, h2⟩ := ih
    rw [List.reverse_cons, mx_snoc]
    refine ⟨fun i hi => ?_, ?_⟩
    · rcases List.mem_append.1 hi with hi | hi
      · exact Nat.le_trans (h1 i hi) (Nat.le_max_left ..)
      · rw [List.mem_singleton] at hi; subst hi; exact Nat.le_max_right ..
    · by_cases hc : mx zs L.reverse ≤ depthN zs x.1
      · exact .inr ⟨x, by simp, by rw [Nat.max_eq_right hc]⟩
      · rw [Nat.max_eq_left (by omega)]
        rcases h2 with h2 | ⟨i, hi, h2⟩
        · exact .inl h2
        · exact .inr ⟨i, List.mem_append.2 (.inl hi), h2⟩

/-- Some time at which an interval begins has at least the depth of x. -/
theorem depth_begin (zs : List (Int × Int)) (x : Int) : depthN zs x = 0 ∨ ∃ i ∈ zs, depthN zs x ≤ depthN zs i.1 := by
  have pick : ∀ L : List (Int × Int), (∀ i ∈ L, inB i x = true) → L = [] ∨ ∃ i ∈ L, ∀ j ∈ L, j.1 ≤ i.1 := by
    intro L
    induction L with
    | nil => intro _; exact .inl rfl
    | cons y L ih =>
      intro h
      right
      rcases ih (fun i hi => h i (List.mem_cons_of_mem _ hi)) with rfl | ⟨i, hi, hj⟩
      · exact ⟨y, List.mem_cons_self .., by simp⟩
      · by_cases hc : i.1 ≤ y.1
        · refine ⟨y, List.mem_cons_self .., fun j hj' => ?_⟩
          rcases List.mem_cons.1 hj' with rfl | hj'
          · exact Int.le_refl _
          · exact Int.le_trans (hj j hj') hc
        · refine ⟨i, List.mem_cons_of_mem _ hi, fun j hj' => ?_⟩
          rcases List.mem_cons.1 hj' with rfl | hj'
          · omega
          · exact hj j hj'
  rcases pick (zs.filter (inB · x)) (fun i hi => (List.mem_filter.1 hi).2) with h | ⟨i, hi, hj⟩
  · left
    rw [depthN, List.countP_eq_length_filter, h]; rfl
  · right
    obtain ⟨hi1, hi2⟩ := List.mem_filter.1 hi
    refine ⟨i, hi1, ?_⟩
    refine List.countP_mono_left fun j hjm hjx => ?_
    have h1 := hj j (List.mem_filter.2 ⟨hjm, hjx⟩)
    simp only [inB, Bool.and_eq_true, decide_eq_true_eq] at hjx hi2 ⊢
    exact ⟨h1, by omega⟩

theorem depth_le_mx (zs : List (Int × Int)) (x : Int) : depthN zs x ≤ mx zs zs := by
  rcases depth_begin zs x with h | ⟨i, hi, h⟩
  · omega
  · exact Nat.le_trans h ((mx_ge zs zs).1 i hi)

theorem cover_mx {zs xs : List (Int × Int)} {N : Int} (hC : IsCover zs N xs) (hN : 1 ≤ N) : 0 < xs.length ↔ N ≤ (mx zs zs : Int) := by
  constructor
  · intro h
    cases xs with
    | nil => simp at h
    | cons i xs =>
      have h1 := (validB_yes (hC.1 i (List.mem_cons_self ..))).2.1
      have h2 := (hC.2.2 i.1).1 (inL_iff.2 ⟨i, List.mem_cons_self .., Int.le_refl _, h1⟩)
      have h3 := depth_le_mx zs i.1
      omega
  · intro h
    rcases (mx_ge zs zs).2 with h0 | ⟨i, hi, h0⟩
    · omega
    · have h1 := (hC.2.2 i.1).2 (by omega)
      cases xs with
      | nil => simp [inL] at h1
      | cons _ _ => simp

theorem depth_rev (zs : List (Int × Int)) (x : Int) : depthN zs.reverse x = depthN zs x := by simp [depthN]
theorem ok_rev (zs : List (Int × Int)) : okList zs.reverse = okList zs := by simp [okList]

theorem grown_of_below {a w : World} (h : Below a.heap.size a w) : a.grownBy w none := ⟨h.os, h.tape, h.output, h.size, fun k hk _ => h.block k hk⟩

theorem depths_no (A : Option Addr) (len cap : Nat) (zs : List (Int × Int)) (need x : Int) (w : World) (hr : Row w.heap.size w A len zs) (hl : len ≤ 9223372036854775807) (h : 63 < len ∨ okList zs = false) :
    Calls Try.prog 9 #[.slice A len cap, .int .u8 need, .int .i64 x] w (Gives (.bool true) w) := by
  have HD := Lib.hid head_true
  have HR := Lib.hid hr
  clear hr
  by_cases h63 : 63 < len
  · go_enter Try.func9, Try.ntmps9
    clear h
    go_wp2_with fail
    refine (HD.out _).mono ?_
    rintro e w1 ⟨rfl, bb⟩
    have B := Lib.hid bb
    clear bb
    go_wp2_with fail
    go_ret
    exact ⟨rfl, B.out⟩
  · have HO := Lib.hid (h.resolve_left h63)
    clear h
    go_enter Try.func9, Try.ntmps9
    go_wp2_with fail
    refine (HD.out _).mono ?_
    rintro e w1 ⟨rfl, bb⟩
    have HR := Lib.hid (HR.out.step bb)
    have B := Lib.hid bb
    clear bb
    go_wp2_with fail
    refine (rlist_any A len cap zs w1 HR.out hl).mono ?_
    rintro e w2 ⟨rfl, bb⟩
    rw [HO.out]
    have B := Lib.hid (below_more B.out bb)
    clear bb
    go_wp2_with fail
    go_ret
    exact ⟨rfl, B.out⟩

theorem row_at {B : Nat} {W : World} {p : Addr} {n : Nat} {zs : List (Int × Int)} (h : Row B W (some p) n zs) (k : Nat) (hk : k < n) :
    W.cell? (p.add (k * 2)) = some (.int .i64 (zs.getD k (0, 0)).1) ∧ W.cell? ⟨(p.add (k * 2)).block, (p.add (k * 2)).off + 1, none⟩ = some (.int .i64 (zs.getD k (0, 0)).2) := by
  obtain ⟨q, e, _, hc⟩ := h.2 (by omega)
  injection e with e
  subst e
  exact hc k hk

set_option maxHeartbeats 800000 in
theorem depths_yes (A : Option Addr) (len cap : Nat) (zs : List (Int × Int)) (need x N : Int) (w : World) (hr : Row w.heap.size w A len zs) (hl : len ≤ 63) (ho : okList zs = true) (b1 : 0 ≤ need) (b2 : need ≤ 255) (hN : 1 + need % 64 = N) (n1 : 1 ≤ N) (n2 : N ≤ 64) :
    Calls Try.prog 9 #[.slice A len cap, .int .u8 need, .int .i64 x] w (Gives (.bool true) w) := by
  obtain ⟨i0, hi, hi0, hi1, hi2⟩ := info_parts info_iv
  have HD := Lib.hid head_true
  have HR := Lib.hid hr
  have HL := Lib.hid hr.1
  have HO := Lib.hid ho
  clear hr ho
  go_enter Try.func9, Try.ntmps9
  go_wp2_with fail
  refine (HD.out _).mono ?_
  rintro e w1 ⟨rfl, bb⟩
  have B := Lib.hid bb
  clear bb
  go_wp2_with fail
  refine (rlist_any A len cap zs w1 ((HR.out.below B.out).more B.out.size) (by omega)).mono ?_
  rintro e w2 ⟨rfl, bb⟩
  rw [HO.out]
  have B := Lib.hid (below_more B.out bb)
  clear bb
  go_wp2_with fail
  clear hN
  go_loopw [9, 10, 11] (fun v s10 i wr => ∃ k m : Nat, k ≤ len ∧ m ≤ 64 ∧ i = .int .i64 k ∧ s10 = .int .i64 m ∧ Hid (m = mx zs (zs.take k)) ∧ Hid (wr.ownsRow w.heap.size 24 2 v k (cellsE (zs.reverse.take k))) ∧ Hid (Below w.heap.size w wr)) (fun _ _ i _ => len - (intOf i).toNat)
  case atStart => exact ⟨0, 0, Nat.zero_le _, Nat.zero_le _, rfl, rfl, rfl, World.ownsRow_nil _ _ _ _, B.out⟩
  case round =>
    obtain ⟨k, m, hk, hm, rfl, rfl, HM, HV, HBr⟩ := hrel
    by_cases hlt : k < len
    · obtain ⟨p, rfl, hp, hc⟩ := (HR.out.below HBr.out).2 (by omega)
      obtain ⟨c1, c2⟩ := hc (len - 1 - k) (by omega)
      clear hc
      have HSR : Hid (zs.reverse.take (k + 1) = zs.reverse.take k ++ [zs.getD (len - 1 - k) (0, 0)]) := by
        show _ = _
        rw [take_snoc zs.reverse (0, 0) k (by rw [List.length_reverse, HL.out]; exact hlt)]
        congr 2
        have h1 : k < zs.length := by rw [HL.out]; exact hlt
        have h2 : len - 1 - k < zs.length := by rw [HL.out]; omega
        simp only [List.getD, List.getElem?_reverse h1]
        rw [show zs.length - 1 - k = len - 1 - k by rw [HL.out]]
      have HS := Lib.hid (take_snoc zs (0, 0) k (by rw [HL.out]; exact hlt))
      generalize hz : zs.getD k (0, 0) = z at HS
      have HZ := Lib.hid hz
      clear hz
      generalize zs.getD (len - 1 - k) (0, 0) = y at c1 c2 HSR
      have HCN := Lib.hid (cells_new wr 24 [.int .i64 y.1, .int .i64 y.2])
      have hsz : w.heap.size ≤ wr.heap.size := HBr.out.size
      go_wp2_with (at_builtin; refine wpList_append_own _ rfl _ _ 22 rfl w.heap.size 24 i0 (.agg #[.int .i64 0, .int .i64 0]) 2 16 Try.underlying22 hi hi0 hi1 hi2 rfl (by decide) _ _ _ rfl (HV.out.alloc _) ⟨wr.heap.size, 0, none⟩ 1 1 [.int .i64 y.1, .int .i64 y.2] rfl rfl HCN.out (by simp [Value.oneCell']) (by unfold maxLen; omega) (by omega) (by simp; omega) ?_; intro v' w4 hown' hgrow _; have hb4 : Below w.heap.size w w4 := (HBr.out.alloc hsz _).grown hgrow (by simp; omega) (fun j ej => (World.ownsRow.lt HV.out j ej).1); have d1 : w4.cell? (p.add (k * 2)) = some (.int .i64 z.1) := (by have h := (row_at (HR.out.below hb4) k hlt).1; rwa [HZ.out] at h))
      have hown5 : Hid (w4.ownsRow w.heap.size 24 2 v' (k + 1) (cellsE (zs.reverse.take (k + 1)))) := by
        show w4.ownsRow _ _ _ _ _ _
        rw [HSR.out, cellsE_app]
        exact hown'
      have HB4 := Lib.hid hb4
      clear hown' hgrow hb4 d1 c1 c2
      have DE := Lib.hid (depth_any (some p) len cap zs z.1 w4 ((HR.out.below HB4.out).more HB4.out.size) (by omega))
      rw [show depthR zs z.1 = ((depthN zs z.1 : Int), 0) by rw [depthR, HO.out]; rfl] at DE
      have hdl : depthN zs z.1 ≤ 64 := by have h1 := depthN_le zs z.1; rw [HL.out] at h1; omega
      have hms : mx zs (zs.take (k + 1)) = max m (depthN zs z.1) := by rw [HS.out, mx_snoc, HM.out]
      have HMS := Lib.hid hms
      clear hms
      generalize depthN zs z.1 = d at DE hdl HMS
      refine DE.out.mono ?_
      rintro e w5 ⟨rfl, bb⟩
      have hown6 := Lib.hid (hown5.out.kept (grown_of_below bb) (by cases v'.ownBlock <;> simp))
      have HB5 := Lib.hid (HB4.out.trans (bb.mono HB4.out.size))
      clear bb
      rcases Nat.lt_or_ge m d with hmd | hmd
      · go_wp2_with fail
        go_roundw
        case rel => exact ⟨k + 1, d, by omega, by omega, by go_num, congrArg (Value.int .i64) (by omega), by show d = _; rw [HMS.out]; omega, hown6.out, HB5.out⟩
        case measure => simp [intOf]; omega
      · go_wp2_with fail
        go_roundw
        case rel => exact ⟨k + 1, m, by omega, by omega, by go_num, congrArg (Value.int .i64) (by omega), by show m = _; rw [HMS.out]; omega, hown6.out, HB5.out⟩
        case measure => simp [intOf]; omega
    · obtain rfl : k = len := by omega
      have hE : zs.take k = zs := by rw [← HL.out]; exact List.take_length
      have hE2 : zs.reverse.take k = zs.reverse := by rw [← HL.out, ← List.length_reverse]; exact List.take_length
      rw [hE] at HM
      rw [hE2] at HV
      clear hE hE2
      obtain ⟨A2, cap2, rfl, hR2⟩ := row_own (xs := zs.reverse) (by rw [List.length_reverse, HL.out]; exact HV.out)
      have hlr : zs.reverse.length = k := by rw [List.length_reverse, HL.out]
      rw [hlr] at hR2 ⊢
      have HR2 := Lib.hid hR2
      have HRr := Lib.hid ((HR.out.below HBr.out).more HBr.out.size)
      clear hR2 HV HR hlr
      have hdx : depthN zs x ≤ m := by rw [HM.out]; exact depth_le_mx zs x
      have hdl : depthN zs x ≤ 64 := by omega
      have HDR := Lib.hid (depth_rev zs)
      have HOR : Hid (okList zs.reverse = true) := by show okList zs.reverse = true; rw [ok_rev, HO.out]
      have D1 : Hid (∀ W : World, Row W.heap.size W A k zs → Calls Try.prog 20 #[.slice A k cap, .int .i64 x] W (Gives (.tuple #[.int .i64 (depthN zs x : Int), .int .i64 0]) W)) := by
        show ∀ W : World, _
        intro W hW
        have := depth_any A k cap zs x W hW (by omega)
        rwa [show depthR zs x = ((depthN zs x : Int), 0) by rw [depthR, HO.out]; rfl] at this
      have D2 : Hid (∀ W : World, Row W.heap.size W A2 k zs.reverse → Calls Try.prog 20 #[.slice A2 k cap2, .int .i64 x] W (Gives (.tuple #[.int .i64 (depthN zs x : Int), .int .i64 0]) W)) := by
        show ∀ W : World, _
        intro W hW
        have := depth_any A2 k cap2 zs.reverse x W hW (by omega)
        rwa [show depthR zs.reverse x = ((depthN zs x : Int), 0) by rw [depthR, HOR.out, depth_rev]; rfl] at this
      generalize depthN zs x = d at D1 D2 hdx hdl
      go_wp2_with fail
      refine (D1.out _ HRr.out).mono ?_
      rintro e w5 ⟨rfl, bb⟩
      have HR2 := Lib.hid (HR2.out.step bb)
      have HRr := Lib.hid (HRr.out.step bb)
      have B := Lib.hid (below_more HBr.out bb)
      clear bb
      go_wp2_with fail
      refine (D2.out _ HR2.out).mono ?_
      rintro e w6 ⟨rfl, bb⟩
      have HR2 := Lib.hid (HR2.out.step bb)
      have HRr := Lib.hid (HRr.out.step bb)
      have B := Lib.hid (below_more B.out bb)
      clear bb
      go_wp2_with fail
      refine (cover_ok A k cap zs N w6 HRr.out HO.out n1 n2).mono ?_
      rintro e w7 ⟨A3, cap3, xs, rfl, hX, hxl, hC, bb⟩
      have HX := Lib.hid hX
      have HC := Lib.hid hC
      have HR2 := Lib.hid (HR2.out.step bb)
      have B := Lib.hid (below_more B.out bb)
      clear bb hX hC
      go_wp2_with fail
      refine (cover_ok A2 k cap2 zs.reverse N w7 HR2.out HOR.out n1 n2).mono ?_
      rintro e w8 ⟨A4, cap4, ys, rfl, hY, _, hC2, bb⟩
      obtain rfl : ys = xs := cover_unique hC2 HC.out (fun z => HDR.out z)
      have HX := Lib.hid (HX.out.step bb)
      have HY := Lib.hid hY
      have B := Lib.hid (below_more B.out bb)
      clear bb hY hC2
      have hcm := cover_mx HC.out n1
      rw [← HM.out] at hcm
      have SA := Lib.hid (rsame_any A3 A4 ys.length ys.length cap3 cap4 ys ys w8 HX.out HY.out (by omega) (by omega))
      rw [show decide (ys = ys) = true by simp] at SA
      generalize ys.length = n at SA hcm hxl
      by_cases hn : 0 < n
      · have hN := hcm.1 hn
        clear hcm
        go_wp2_with fail
        refine SA.out.mono ?_
        rintro e w9 ⟨rfl, bb⟩
        have B := Lib.hid (below_more B.out bb)
        clear bb
        go_wp2_with fail
        go_ret
        exact ⟨rfl, B.out⟩
      · have hN : ¬ N ≤ (m : Int) := fun h => hn (hcm.2 h)
        clear hcm
        go_wp2_with fail
        refine SA.out.mono ?_
        rintro e w9 ⟨rfl, bb⟩
        have B := Lib.hid (below_more B.out bb)
        clear bb
        go_wp2_with fail
        go_ret
        exact ⟨ret_bool (by simp; omega), B.out⟩

theorem depths_law (A : Option Addr) (len cap : Nat) (zs : List (Int × Int)) (need x : Int) (w : World) (hr : Row w.heap.size w A len zs) (hl : len ≤ cap) (hm : cap ≤ 9223372036854775807) (w1 : (Lit.int .u8 need).wf = true) (_ : (Lit.int .i64 x).wf = true) :
    Calls Try.prog 9 #[.slice A len cap, .int .u8 need, .int .i64 x] w (Gives (.bool true) w) := by
  obtain ⟨b1, b2⟩ := u8_wf w1
  by_cases h63 : 63 < len
  · exact depths_no A len cap zs need x w hr (by omega) (.inl h63)
  · cases ho : okList zs with
    | false => exact depths_no A len cap zs need x w hr (by omega) (.inr ho)
    | true => exact depths_yes A len cap zs need x _ w hr (by omega) ho b1 b2 rfl (by omega) (by omega)
end Go.Proofs.Ytpooifjieoijjaa
