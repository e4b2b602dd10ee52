/- Layer 7: package drift's Valid. -/
import Derived.Test.YtjjpcgfhoncmeaaGSmall
namespace Go.Proofs.Ytjjpcgfhoncmeaa
open Go.RowKit Go
set_option linter.unusedVariables false
set_option linter.unusedSimpArgs false

set_option maxHeartbeats 2000000 in
theorem valid_any (T : Tb) (q : Bool) (hq : q = true ↔ T.Ok) (w : World) (ht : T.At w) :
    Calls Try.prog 13 #[T.val] w (Gives (.bool q) w) := by
  obtain ⟨A0, A1, A2, n0, c0, n1, c1, n2, c2, tm, ag, rt⟩ := T
  obtain ⟨r0, r1, r2, l0, l1, l2⟩ := ht
  simp only [Tb.val, Tb.Ok, ValidT] at *
  obtain ⟨W, hW⟩ : ∃ W, w.alloc (.cells #[.slice A0 n0 c0, .slice A1 n1 c1, .slice A2 n2 c2] 25) = W := ⟨_, rfl⟩
  have HT : Hid (Three W w.heap.size 25 (.slice A0 n0 c0) (.slice A1 n1 c1) (.slice A2 n2 c2)) := by rw [← hW]; exact Three.new w _ _ _ _
  have BW : Hid (Below w.heap.size w W) := by rw [← hW]; exact below_alloc w _
  have R0 := Lib.hid (r0.step BW.out)
  have R1 := Lib.hid (r1.step BW.out)
  have R2 := Lib.hid (r2.step BW.out)
  have HQ := Lib.hid hq
  have h0 := r0.1
  have h1 := r1.1
  have h2 := r2.1
  have L0 := Lib.hid h0
  have L1 := Lib.hid h1
  have L2 := Lib.hid h2
  have t0 := HT.out.c0
  have t1 := HT.out.c1
  have t2 := HT.out.c2
  have t3 := HT.out.lt
  have M0 := Lib.hid (fun x (hx : x = true ↔ RisesL tm) => validBands_any A0 n0 c0 tm x hx W R0.out l0)
  have M1 := Lib.hid (fun W' (d : Drew W W') x (hx : x = true ↔ RisesL ag) => validBands_any A1 n1 c1 ag x hx W' (R1.out.step (d.below _)) l1)
  clear r0 r1 r2 hq h0 h1 h2
  by_cases q0 : RisesL tm
  · have M0 := Lib.hid (M0.out true (by simp [q0]))
    by_cases q1 : RisesL ag
    · have M1 := Lib.hid (fun W' d => M1.out W' d true (by simp [q1]))
      by_cases q2 : n2 = n0
      · have q3 : ((n2 : Int) != (n0 : Int)) = false := by simp [q2]
        have q4 : (n2 != n0) = false := by simp [q2]
        have HQ2 : Hid (q = true ↔ ∀ i, i < n2 → RowOk n1 (rt.getD i [])) := by
          have e := HQ.out
          rw [L1.out, L2.out, L0.out] at e
          unfold Hid
          rw [e]
          exact ⟨fun h => h.2.2.2, fun h => ⟨q0, q1, q2, h⟩⟩
        clear q0 q1 HQ q2
        go_enter Try.func13, Try.ntmps13
        go_wp2_with (first
          | (go_at_call 30; (with_reducible refine M0.out.mono ?_); rintro e w1 ⟨rfl, d1⟩; have D1 := Lib.hid d1; have s1 := d1.cell t1; have s0 := d1.cell t0; have s2 := d1.cell t2; have s3 := d1.size; clear d1 M0)
          | (go_at_call 30; (with_reducible refine (M1.out _ D1.out).mono ?_); rintro e w2 ⟨rfl, d2⟩; have D2 := Lib.hid (D1.out.trans d2); have u0 := D2.out.cell t0; have u1 := D2.out.cell t1; have u2 := D2.out.cell t2; have u3 := D2.out.size; clear d2 M1))
        have v3 : w.heap.size < w2.heap.size := by omega
        clear s0 s1 s2 s3 u0 u1 u2 u3 v3
        go_loopw [27] (fun i wr => ∃ a : Nat, a ≤ n2 ∧ i = .int .i64 a ∧ Hid (∀ b, b < a → RowOk n1 (rt.getD b [])) ∧ Hid (Drew W wr)) (fun i _ => n2 - (intOf i).toNat)
        case atStart => exact ⟨0, Nat.zero_le _, rfl, fun b hb => absurd hb (by omega), D2.out⟩
        case round =>
          rename_i wr
          obtain ⟨a, ha, rfl, HA, DD⟩ := hrel
          have u0 := DD.out.cell t0
          have u1 := DD.out.cell t1
          have u2 := DD.out.cell t2
          have u3 := DD.out.size
          have v3 := DD.out.lt t3
          by_cases hlt : a < n2
          · obtain ⟨p, x, m, c, rfl, g0, gm, rr⟩ := R2.out.at_ a hlt
            have g := DD.out.cell g0
            have VR := Lib.hid (fun y hy => validRow_any x m c (rt.getD a []) n1 y hy wr (rr.step (DD.out.below _)) gm l1)
            clear g0 rr
            by_cases hz : RowOk n1 (rt.getD a [])
            · have VR := Lib.hid (VR.out true ⟨fun _ => hz, fun _ => rfl⟩)
              have HA' : Hid (∀ i, i < a + 1 → RowOk n1 (rt.getD i [])) := fun i hi => by
                by_cases e : i = a
                · subst e; exact hz
                · exact HA.out i (by omega)
              clear HA hz
              go_wp2_with (go_at_call 31; (with_reducible refine VR.out.mono ?_); rintro e w3 ⟨rfl, d3⟩; have D3 := Lib.hid (DD.out.trans d3); clear d3)
              go_roundw
              case rel => exact ⟨a + 1, by omega, by go_num, HA', D3⟩
              case measure => simp [intOf]; omega
            · have VR := Lib.hid (VR.out false ⟨fun h => (by cases h), fun h => absurd h hz⟩)
              have Q := Lib.hid (show q = false by
                cases hqq : q with
                | false => rfl
                | true => exact absurd ((HQ2.out.1 hqq) a hlt) hz)
              clear hz
              go_wp2_with (go_at_call 31; (with_reducible refine VR.out.mono ?_); rintro e w3 ⟨rfl, d3⟩; have D3 := Lib.hid (DD.out.trans d3); clear d3)
              go_ret
              exact ⟨by rw [Q.out]; rfl, BW.out.trans (D3.out.below _)⟩
          · obtain rfl : a = n2 := by omega
            have Q := Lib.hid (show q = true from HQ2.out.2 HA.out)
            go_wp2_with fail
            go_ret
            exact ⟨by rw [Q.out]; rfl, BW.out.trans (DD.out.below _)⟩
      · have q3 : ((n2 : Int) != (n0 : Int)) = true := by simp; omega
        have q4 : (n2 != n0) = true := by simpa using q2
        have Q := Lib.hid (show q = false by
          cases hqq : q with
          | false => rfl
          | true => exact absurd (HQ.out.1 hqq).2.2.1 (by rw [L2.out, L0.out]; exact q2))
        clear q2 q0 q1
        go_enter Try.func13, Try.ntmps13
        go_wp2_with (first
          | (go_at_call 30; (with_reducible refine M0.out.mono ?_); rintro e w1 ⟨rfl, d1⟩; have D1 := Lib.hid d1; have s1 := d1.cell t1; have s0 := d1.cell t0; have s2 := d1.cell t2; have s3 := d1.size; clear d1 M0)
          | (go_at_call 30; (with_reducible refine (M1.out _ D1.out).mono ?_); rintro e w2 ⟨rfl, d2⟩; have D2 := Lib.hid (D1.out.trans d2); have u0 := D2.out.cell t0; have u1 := D2.out.cell t1; have u2 := D2.out.cell t2; have u3 := D2.out.size; clear d2 M1))
        go_ret
        exact ⟨by rw [Q.out]; rfl, BW.out.trans (D2.out.below _)⟩
    · have M1 := Lib.hid (fun W' d => M1.out W' d false (by simp [q1]))
      have Q := Lib.hid (show q = false by
        cases hqq : q with
        | false => rfl
        | true => exact absurd (HQ.out.1 hqq).2.1 q1)
      clear q1 q0
      go_enter Try.func13, Try.ntmps13
      go_wp2_with (first
        | (go_at_call 30; (with_reducible refine M0.out.mono ?_); rintro e w1 ⟨rfl, d1⟩; have D1 := Lib.hid d1; have s1 := d1.cell t1; have s0 := d1.cell t0; have s2 := d1.cell t2; have s3 := d1.size; clear d1 M0)
        | (go_at_call 30; (with_reducible refine (M1.out _ D1.out).mono ?_); rintro e w2 ⟨rfl, d2⟩; have D2 := Lib.hid (D1.out.trans d2); have u0 := D2.out.cell t0; have u1 := D2.out.cell t1; have u2 := D2.out.cell t2; have u3 := D2.out.size; clear d2 M1))
      go_ret
      exact ⟨by rw [Q.out]; rfl, BW.out.trans (D2.out.below _)⟩
  · have M0 := Lib.hid (M0.out false (by simp [q0]))
    have Q := Lib.hid (show q = false by
      cases hqq : q with
      | false => rfl
      | true => exact absurd (HQ.out.1 hqq).1 q0)
    clear q0
    go_enter Try.func13, Try.ntmps13
    go_wp2_with (go_at_call 30; (with_reducible refine M0.out.mono ?_); rintro e w1 ⟨rfl, d1⟩; have D1 := Lib.hid d1; clear d1)
    go_ret
    exact ⟨by rw [Q.out]; rfl, BW.out.trans (D1.out.below _)⟩
end Go.Proofs.Ytjjpcgfhoncmeaa
