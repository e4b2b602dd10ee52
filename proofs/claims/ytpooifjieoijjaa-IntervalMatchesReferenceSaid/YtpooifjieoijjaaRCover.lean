/- Layer 2: the reference's Cover. -/
import Derived.Test.YtpooifjieoijjaaRMath
import Derived.Test.YtpooifjieoijjaaDepths
import Derived.Deep.AppendLies
namespace Go.Proofs.Ytpooifjieoijjaa
open Go.RowKit Go
set_option linter.unusedVariables false

def RCoverGive (zs : List (Int × Int)) (need : Int) (w : World) (e : Ending) (w' : World) : Prop :=
  ∃ (A : Option Addr) (cap : Nat) (xs : List (Int × Int)), e = .returned (.tuple #[.slice A xs.length cap, .int .i64 0]) ∧ Row w'.heap.size w' A xs.length xs ∧ xs.length ≤ 129 ∧ IsCover zs need xs ∧ Below w.heap.size w w'

theorem rcover_no (A : Option Addr) (len cap : Nat) (zs : List (Int × Int)) (need : Int) (w : World) (hr : Row w.heap.size w A len zs) (hl : len ≤ 9223372036854775807) (h : okList zs = false ∨ need < 1 ∨ 64 < need) :
    Calls Try.prog 23 #[.slice A len cap, .int .i64 need] w (Gives (.tuple #[.slice none 0 0, .int .i64 1]) w) := by
  have V := Lib.hid (rlist_any A len cap zs w hr hl)
  clear hr
  cases ho : okList zs with
  | false =>
    rw [ho] at V
    clear h ho
    go_enter Try.func23, Try.ntmps23
    go_wp2_with fail
    refine V.out.mono ?_
    rintro e w1 ⟨rfl, bb⟩
    have B := Lib.hid bb
    clear bb
    go_wp2_with fail
    go_ret2
    exact ⟨rfl, B.out⟩
  | true =>
    rw [ho] at V
    have h2 : need < 1 ∨ 64 < need := h.resolve_left (by rw [ho]; simp)
    clear h ho
    by_cases h1 : need < 1
    · clear h2
      go_enter Try.func23, Try.ntmps23
      go_wp2_with fail
      refine V.out.mono ?_
      rintro e w1 ⟨rfl, bb⟩
      have B := Lib.hid bb
      clear bb
      go_wp2_with fail
      go_ret2
      exact ⟨rfl, B.out⟩
    · have h3 : 64 < need := h2.resolve_left h1
      clear h2
      go_enter Try.func23, Try.ntmps23
      go_wp2_with fail
      refine V.out.mono ?_
      rintro e w1 ⟨rfl, bb⟩
      have B := Lib.hid bb
      clear bb
      go_wp2_with fail
      go_ret2
      exact ⟨rfl, B.out⟩

theorem own_keeps {W W' : World} {base n : Nat} {v : Value} {xs : List Value} (h : W.ownsRow base 24 2 v n xs) (b : Below W.heap.size W W') : W'.ownsRow base 24 2 v n xs :=
  h.kept (grown_of_below b) (by cases v.ownBlock <;> simp)

theorem set_last (ys : List (Int × Int)) (lo hi m : Int) : (cellsE (ys ++ [(lo, hi)])).set (ys.length * 2 + 1) (.int .i64 m) = cellsE (ys ++ [(lo, m)]) := by
  rw [cellsE_app, cellsE_app, List.set_append_right _ _ (by rw [cellsE_len]; omega), cellsE_len, show ys.length * 2 + 1 - 2 * ys.length = 1 by omega]
  rfl

set_option maxHeartbeats 1600000 in
theorem rcover_ok (A : Option Addr) (len cap : Nat) (zs : List (Int × Int)) (need : Int) (w : World) (hr : Row w.heap.size w A len zs) (ho : okList zs = true) (hn1 : 1 ≤ need) (hn2 : need ≤ 64) :
    Calls Try.prog 23 #[.slice A len cap, .int .i64 need] w (RCoverGive zs need w) := by
  obtain ⟨i0, hi, hi0, hi1, hi2⟩ := info_parts info_iv
  have hlen : len ≤ 64 := by
    have h := hr.1
    rw [okList, Bool.and_eq_true] at ho
    have := ho.1
    simp at this; omega
  have HV : Hid (∀ i ∈ zs, validB i = true) := by
    have h := ho
    rw [okList, Bool.and_eq_true] at h
    exact List.all_eq_true.1 h.2
  have HR := Lib.hid hr
  have HL := Lib.hid hr.1
  have HO := Lib.hid ho
  clear hr ho
  go_enter Try.func23, Try.ntmps23
  go_wp2_with fail
  refine (rlist_any A len cap zs w HR.out (by omega)).mono ?_
  rintro e w1 ⟨rfl, bb⟩
  rw [HO.out]
  have B := Lib.hid bb
  clear bb
  go_wp2_with fail
  go_loopw [7, 8] (fun v xx wr => ∃ (X : Int) (xs : List (Int × Int)), xx = .int .i64 X ∧ 0 ≤ X ∧ X ≤ 3000000000000001 ∧ Hid (Upto zs need X xs) ∧ Hid (wr.ownsRow w.heap.size 24 2 v xs.length (cellsE xs)) ∧ Hid (xs.length ≤ 129 ∧ (X ≤ 3000000000000000 → xs.length + cnt (evs zs) X ≤ 128)) ∧ Hid (Below w.heap.size w wr)) (fun _ xx _ => (3000000000000001 - intOf xx).toNat)
  case atStart =>
    refine ⟨0, [], rfl, by omega, by omega, Upto.start HV.out hn1, World.ownsRow_nil _ _ _ _, ⟨by simp, fun _ => ?_⟩, B.out⟩
    have h1 := evs_len zs
    have h2 : cnt (evs zs) 0 ≤ (evs zs).length := List.countP_le_length
    have h3 := HL.out
    simp only [List.length_nil]
    omega
  case round =>
    obtain ⟨X, xs, rfl, x1, x2, HU, HW, HC, HB⟩ := hrel
    by_cases hX : X ≤ 3000000000000000
    · go_wp2_with fail
      refine (after_any A len cap zs X wr ((HR.out.below HB.out).more HB.out.size) HO.out x1 hX).mono ?_
      rintro e w5 ⟨n, rfl, n1, n2, hev, hd, bb⟩
      have HW5 := Lib.hid (own_keeps HW.out bb)
      have HB5 := Lib.hid (below_more HB.out bb)
      have HD := Lib.hid hd
      have HC5 : Hid (xs.length + 1 ≤ 129 ∧ (n ≤ 3000000000000000 → xs.length + 1 + cnt (evs zs) n ≤ 128)) := by
        have h1 := HC.out.2 hX
        refine ⟨by omega, fun h2 => ?_⟩
        have h3 := cnt_lt (evs zs) X n (hev.resolve_left (by omega)) n1
        omega
      clear bb hd hev
      go_wp2_with fail
      refine (rdepth_any A len cap zs X w5 ((HR.out.below HB5.out).more HB5.out.size) (by omega)).mono ?_
      rintro e w6 ⟨rfl, bb⟩
      have HW6 := Lib.hid (own_keeps HW5.out bb)
      have HB6 := Lib.hid (below_more HB5.out bb)
      clear bb
      obtain ⟨d, hd⟩ : ∃ d, depthN zs X = d := ⟨_, rfl⟩
      rw [hd]
      have HX := Lib.hid hd
      clear hd
      by_cases hN : need ≤ (d : Int)
      · rcases List.eq_nil_or_concat xs with h0 | ⟨ys, l, h0⟩
        · subst h0
          obtain ⟨A2, cap2, e2, hR2⟩ := row_own (xs := []) HW6.out
          subst e2
          have HU6 : Hid (Upto zs need n ([] ++ [(X, n - 1)])) := HU.out.more n1 x1 n2 HD.out (by rw [HX.out]; exact hN) (.inl rfl)
          have hsz : w.heap.size ≤ w6.heap.size := HB6.out.size
          have HCN := Lib.hid (cells_new w6 24 [.int .i64 X, .int .i64 (n - 1)])
          clear hR2
          simp only [List.length_nil] at HW6 ⊢
          go_wp2_with (at_builtin; refine wpList_append_own _ rfl _ _ 22 rfl w.heap.size 24 i0 (.agg #[.int .i64 0, .int .i64 0]) 2 16 Try.underlying22 hi hi0 hi1 hi2 rfl (by decide) _ _ _ rfl (HW6.out.alloc _) ⟨w6.heap.size, 0, none⟩ 1 1 [.int .i64 X, .int .i64 (n - 1)] rfl rfl HCN.out (by simp [Value.oneCell']) (by unfold maxLen; omega) (by omega) (by simp; omega) ?_; intro v' w7 hown' hgrow _; have hb7 : Below w.heap.size w w7 := (HB6.out.alloc hsz _).grown hgrow (by simp; omega) (fun j ej => (World.ownsRow.lt HW6.out j ej).1); have HB7 := Lib.hid hb7; have HW7 := Lib.hid hown'; clear hown' hgrow hb7)
          go_roundw
          case rel => exact ⟨n, [(X, n - 1)], rfl, by omega, n2, HU6.out, HW7.out, HC5.out, HB7.out⟩
          case measure => simp [intOf]; omega
        · obtain ⟨lo, hi'⟩ := l
          have h0' : xs = ys ++ [(lo, hi')] := by simpa using h0
          clear h0
          subst h0'
          obtain ⟨g, cap2, e2, hg1, hg2⟩ := HW6.out.form (by simp)
          subst e2
          clear HW HW5
          obtain ⟨k, hk⟩ : ∃ k, ys.length = k := ⟨_, rfl⟩
          have HK := Lib.hid hk
          have HEC := Lib.hid (cellsE_at (ys ++ [(lo, hi')]) k (by simp; omega))
          simp only [List.length_append, List.length_cons, List.length_nil, hk, Nat.zero_add] at HW6 HC HC5 ⊢
          have hk129 : k + 1 ≤ 129 := HC.out.1
          have q1 : w6.cell? ⟨g, k * 2 + 1, none⟩ = some (.int .i64 hi') := by
            rw [HW6.out.cellAt (k * 2 + 1) (by omega), show k * 2 + 1 = 2 * k + 1 by omega, HEC.out.2]
            simp [List.getD, ← hk]
          have q2 : w6.frozen? ⟨g, k * 2 + 1, none⟩ = false := HW6.out.frozenAt _
          clear hk
          by_cases hq : hi' = X - 1
          · subst hq
            have HU6 := Lib.hid (HU.out.extend n1 n2 HD.out (by rw [HX.out]; exact hN))
            have HS := Lib.hid (HW6.out.stored (k * 2 + 1) (.int .i64 (n - 1)))
            have HSL := Lib.hid (set_last ys lo (X - 1) (n - 1))
            rw [HK.out] at HSL
            go_wp2_with fail
            go_roundw
            case rel =>
              refine ⟨n, ys ++ [(lo, n - 1)], rfl, by omega, n2, HU6.out, ?_, ?_, ?_⟩
              · have := HS.out.1
                rw [HSL.out] at this
                show World.ownsRow _ _ _ _ _ _ _
                rw [List.length_append, HK.out]
                exact this
              · show _ ∧ _
                rw [List.length_append, HK.out]
                exact ⟨by have := HC5.out.1; simp only [List.length_cons, List.length_nil]; omega, fun h => by have := HC5.out.2 h; simp only [List.length_cons, List.length_nil]; omega⟩
              · exact HB6.out.setCell (p := ⟨g, k * 2 + 1, none⟩) hg1 _
            case measure => simp [intOf]; omega
          · have HU6 : Hid (Upto zs need n ((ys ++ [(lo, hi')]) ++ [(X, n - 1)])) := HU.out.more n1 x1 n2 HD.out (by rw [HX.out]; exact hN) (.inr ⟨ys, (lo, hi'), rfl, hq⟩)
            have hsz : w.heap.size ≤ w6.heap.size := HB6.out.size
            have HCN := Lib.hid (cells_new w6 24 [.int .i64 X, .int .i64 (n - 1)])
            go_wp2_with (at_builtin; refine wpList_append_own _ rfl _ _ 22 rfl w.heap.size 24 i0 (.agg #[.int .i64 0, .int .i64 0]) 2 16 Try.underlying22 hi hi0 hi1 hi2 rfl (by decide) _ _ _ rfl (HW6.out.alloc _) ⟨w6.heap.size, 0, none⟩ 1 1 [.int .i64 X, .int .i64 (n - 1)] rfl rfl HCN.out (by simp [Value.oneCell']) (by unfold maxLen; omega) (by omega) (by simp; omega) ?_; intro v' w7 hown' hgrow _; have hb7 : Below w.heap.size w w7 := (HB6.out.alloc hsz _).grown hgrow (by simp; omega) (fun j ej => (World.ownsRow.lt HW6.out j ej).1); have HB7 := Lib.hid hb7; have HW7 := Lib.hid hown'; clear hown' hgrow hb7)
            go_roundw
            case rel =>
              refine ⟨n, (ys ++ [(lo, hi')]) ++ [(X, n - 1)], rfl, by omega, n2, HU6.out, ?_, ?_, HB7.out⟩
              · show World.ownsRow _ _ _ _ _ _ _
                rw [List.length_append, List.length_append, HK.out, cellsE_app]
                exact HW7.out
              · show _ ∧ _
                rw [List.length_append, List.length_append, HK.out]
                exact HC5.out
            case measure => simp [intOf]; omega
      · have HU6 := Lib.hid (HU.out.skip n1 HD.out (by rw [HX.out]; exact hN))
        go_wp2_with fail
        go_roundw
        case rel => exact ⟨n, xs, rfl, by omega, n2, HU6.out, HW6.out, ⟨by have := HC5.out.1; omega, fun h => by have := HC5.out.2 h; omega⟩, HB6.out⟩
        case measure => simp [intOf]; omega
    · obtain rfl : X = 3000000000000001 := by omega
      obtain ⟨A2, cap2, e2, hR2⟩ := row_own (xs := xs) HW.out
      subst e2
      have HR2 := Lib.hid hR2
      have HI := Lib.hid (HU.out.done HV.out hn1)
      have HC2 := Lib.hid HC.out.1
      clear hR2
      go_wp2_with fail
      go_ret2
      exact ⟨A2, cap2, xs, rfl, HR2.out, HC2.out, HI.out, HB.out⟩
end Go.Proofs.Ytpooifjieoijjaa
