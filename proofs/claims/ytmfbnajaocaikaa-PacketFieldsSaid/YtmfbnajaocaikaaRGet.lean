/- Layer 4: the reference's Get. -/
import Derived.Test.YtmfbnajaocaikaaRRead
namespace Go.Proofs.Ytmfbnajaocaikaa
open Go.RowKit Go.Sort Go
set_option linter.unusedVariables false

theorem getR_none' {bs : List UInt8} (h : readL bs = none) : getR bs = none := by rw [getR, h]
theorem getR_left {bs : List UInt8} {l : List Int} {c : UInt8} {r : List UInt8} (h : readL bs = some (l, c :: r)) : getR bs = none := by rw [getR, h]
theorem getR_all {bs : List UInt8} {l : List Int} (h : readL bs = some (l, [])) : getR bs = some l := by rw [getR, h]

theorem ownI_snoc {B0 : Nat} {w wr w4 : World} {v v' : Value} {zs : List Int} {x : Int} {n : Nat} (hn : n = zs.length) (HX : OwnI B0 wr v zs) (hb : Below B0 w wr) (hB : B0 ≤ w.heap.size) (own4 : w4.ownsRow B0 3 1 v' (n + 1) (intCells zs ++ [Value.int .i64 x])) (gr4 : (wr.alloc (.cells #[.int .i64 x] 3)).grownBy w4 v.ownBlock) :
    OwnI B0 w4 v' (zs ++ [x]) ∧ Below B0 w w4 := by
  have hsz := hb.size
  constructor
  · subst hn
    unfold OwnI
    rw [List.length_append, intCells_append]
    exact own4
  · exact (hb.alloc (by omega) _).grown gr4 (by simp; omega) (fun j ej => (World.ownsRow.lt HX j ej).1)

set_option maxHeartbeats 2000000 in
theorem rget_any (A : Option Addr) (n cap : Nat) (bs : List UInt8) (w : World) (hr : Row8 w.heap.size w A n bs) (hn : n ≤ 1000000000) :
    Calls Try.prog 30 #[.slice A n cap] w (GetEnd (getR bs) w) := by
  obtain ⟨i0, hi, hz0, hz1, hz2⟩ := info_parts info_int
  have hbl := hr.1
  have T := rread_any A n cap 0 bs w hr hn (Nat.zero_le _)
  rw [List.drop_zero] at T
  have HR := Lib.hid hr
  clear hr
  cases hq : readI bs with
  | none =>
    have HN : Hid (getR bs = none) := getR_none' (by rw [readL, hq])
    rw [hq] at T
    have T := Lib.hid T
    clear hq
    go_enter Try.func30, Try.ntmps30
    go_wp2_with (go_at_call 46; refine T.out.mono ?_; rintro e w1 ⟨rfl, rfl⟩)
    go_ret2
    rw [HN.out]
    exact ⟨Below.refl _ _, rfl⟩
  | some p =>
    obtain ⟨c, r⟩ := p
    obtain ⟨er, hrl, hci⟩ := readI_drop (at_ := 0) (by rw [List.drop_zero]; exact hq)
    rw [hbl] at er hrl
    rw [hq] at T
    have T := Lib.hid T
    by_cases hcc : c < 0 ∨ 1000 < c
    · have HN : Hid (getR bs = none) := getR_none' (by rw [readL, hq]; simp only; rw [if_pos hcc])
      clear hq er hci
      by_cases hc0 : c < 0
      · have f1 : decide (c < 0) = true := by simpa using hc0
        clear hcc
        go_enter Try.func30, Try.ntmps30
        go_wp2_with (go_at_call 46; refine T.out.mono ?_; rintro e w1 ⟨rfl, rfl, hl1⟩)
        go_ret2
        rw [HN.out]
        exact ⟨Below.refl _ _, rfl⟩
      · have f1 : decide (c < 0) = false := by simpa using hc0
        have f2 : decide (1000 < c) = true := by rw [decide_eq_true_eq]; omega
        clear hcc hc0
        go_enter Try.func30, Try.ntmps30
        go_wp2_with (go_at_call 46; refine T.out.mono ?_; rintro e w1 ⟨rfl, rfl, hl1⟩)
        go_ret2
        rw [HN.out]
        exact ⟨Below.refl _ _, rfl⟩
    · have HL : Hid (readL bs = readM c.toNat r) := by show readL _ = _; rw [readL, hq]; simp only; rw [if_neg hcc]
      obtain ⟨N, rfl⟩ : ∃ N : Nat, c = (N : Int) := ⟨c.toNat, by omega⟩
      rw [Int.toNat_natCast] at HL
      have f1 : decide ((N : Int) < 0) = false := by rw [decide_eq_false_iff_not]; omega
      have f2 : decide ((1000 : Int) < (N : Int)) = false := by rw [decide_eq_false_iff_not]; omega
      have hN : N ≤ 1000 := by omega
      have HER := Lib.hid er
      clear hq hci hcc er
      go_enter Try.func30, Try.ntmps30
      go_wp2_with (go_at_call 46; refine T.out.mono ?_; rintro e w1 ⟨rfl, rfl, hl1⟩)
      go_loopw [5, 7, 8] (fun a v i wr => ∃ (k at2 : Nat) (zs : List Int), k ≤ N ∧ i = .int .i64 k ∧ a = .int .i64 at2 ∧ zs.length = k ∧ at2 ≤ n ∧ Hid (OwnI w.heap.size wr v zs) ∧ Hid (readM N r = (readM (N - k) (bs.drop at2)).map fun p => (zs ++ p.1, p.2)) ∧ Hid (Below w.heap.size w wr)) (fun _ _ i _ => N - (intOf i).toNat)
      case atStart =>
        refine ⟨0, n - r.length, [], by omega, rfl, rfl, rfl, by omega, World.ownsRow_nil _ _ _ _, ?_, Below.refl _ _⟩
        show _ = _
        rw [← HER.out, Nat.sub_zero]; simp
      case round =>
        rename_i wr
        obtain ⟨k, at2, zs, hk, rfl, rfl, hzk, ha2, HOw, HE, HG⟩ := hrel
        have hRow : Row8 wr.heap.size wr A n bs := HR.out.step HG.out
        have hszr := HG.out.size
        by_cases hlt : k < N
        · have g1 : decide ((k : Int) < (N : Int)) = true := by rw [decide_eq_true_eq]; omega
          have T2 := rread_any A n cap at2 bs wr hRow hn ha2
          obtain ⟨N', hN'⟩ : ∃ N', N - k = N' + 1 := ⟨N - k - 1, by omega⟩
          rw [hN'] at HE
          have HNN := Lib.hid hN'
          clear hN'
          cases hq : readI (bs.drop at2) with
          | none =>
            have HN : Hid (getR bs = none) := getR_none' (by rw [HL.out, HE.out, readM_none hq]; rfl)
            rw [hq] at T2
            have T2 := Lib.hid T2
            clear hq hRow
            go_wp2_with (go_at_call 46; refine T2.out.mono ?_; rintro e w3 ⟨rfl, rfl⟩)
            go_ret2
            rw [HN.out]
            exact ⟨HG.out, rfl⟩
          | some p =>
            obtain ⟨x, r2⟩ := p
            obtain ⟨er2, hrl2, hxi⟩ := readI_drop hq
            rw [hbl] at er2 hrl2
            have HE2 : Hid (readM N r = (readM N' (bs.drop (n - r2.length))).map fun p => ((zs ++ [x]) ++ p.1, p.2)) := by
              show _ = _
              rw [HE.out, readM_step hq, ← er2, Option.map_map]
              congr 1
              funext p
              simp
            rw [hq] at T2
            have T2 := Lib.hid T2
            clear hq hRow er2 hxi
            go_wp2_with (first | (go_at_call 46; refine T2.out.mono ?_; rintro e w3 ⟨rfl, rfl, hl3⟩) | (at_builtin; refine wpList_append_own _ rfl _ _ 62 rfl w.heap.size 3 i0 (.int .i64 0) 1 8 Try.underlying62 hi hz0 hz1 hz2 rfl (by decide) _ _ _ rfl (World.ownsRow.alloc HOw.out _) ⟨World.heap _ |>.size, 0, none⟩ 1 1 [Value.int .i64 x] rfl rfl (one_int _ x) (by simp [Value.oneCell']) (by unfold maxLen; omega) (by omega) (by simp; omega) ?_; refine Hid.out ?_))
            refine Lib.hid ?_
            intro v' w4 own4 gr4 _
            obtain ⟨o5, b5⟩ := ownI_snoc hzk.symm HOw.out HG.out (Nat.le_refl _) own4 gr4
            have O5 := Lib.hid o5
            have B5 := Lib.hid b5
            clear own4 gr4 o5 b5
            go_wp2_with fail
            go_roundw
            case rel => exact ⟨k + 1, n - r2.length, zs ++ [x], by omega, by go_num, rfl, by simp; omega, by omega, O5, (by rw [show N - (k + 1) = N' by have := HNN.out; omega]; exact HE2), B5⟩
            case measure => simp [intOf]; omega
        · obtain rfl : k = N := by omega
          have g1 : decide ((k : Int) < (k : Int)) = false := by simp
          have HN : Hid (readL bs = some (zs, bs.drop at2)) := by
            show _ = _
            rw [HL.out, HE.out, Nat.sub_self]
            simp [readM]
          clear hRow
          by_cases hal : at2 = n
          · have g2 : ((at2 : Int) == (n : Int)) = true := by rw [beq_iff_eq]; omega
            have HN2 : Hid (getR bs = some zs) := by
              have h := HN.out
              rw [List.drop_of_length_le (by omega)] at h
              exact getR_all h
            have HAL := Lib.hid hal
            clear hal
            go_wp2_with fail
            go_ret2
            rw [HN2.out]
            exact ⟨HG.out, _, rfl, HOw.out⟩
          · have g2 : ((at2 : Int) == (n : Int)) = false := by rw [beq_eq_false_iff_ne]; omega
            have HN2 : Hid (getR bs = none) := by
              have h := HN.out
              rw [drop_cons bs 0 at2 (by omega)] at h
              exact getR_left h
            clear hal
            go_wp2_with fail
            go_ret2
            rw [HN2.out]
            exact ⟨HG.out, rfl⟩
end Go.Proofs.Ytmfbnajaocaikaa
