/- Layer 7: a table as a value; the reference's Valid. -/
import Derived.Test.YtjjpcgfhoncmeaaRRise
namespace Go.Proofs.Ytjjpcgfhoncmeaa
open Go.RowKit Go
set_option linter.unusedVariables false
set_option linter.unusedSimpArgs false

/-- A table: its three slices, and what they hold. -/
structure Tb where
  (A0 A1 A2 : Option Addr) (n0 c0 n1 c1 n2 c2 : Nat) (tm ag : List Int) (rt : List (List Int))
def Tb.val (T : Tb) : Value := .agg #[.slice T.A0 T.n0 T.c0, .slice T.A1 T.n1 T.c1, .slice T.A2 T.n2 T.c2]
def Tb.cells (T : Tb) : Array Value := #[.slice T.A0 T.n0 T.c0, .slice T.A1 T.n1 T.c1, .slice T.A2 T.n2 T.c2]
def Tb.At (T : Tb) (w : World) : Prop :=
  RowI w.heap.size w T.A0 T.n0 T.tm ∧ RowI w.heap.size w T.A1 T.n1 T.ag ∧ RowL w.heap.size w T.A2 T.n2 T.rt ∧ T.n0 ≤ 9223372036854775807 ∧ T.n1 ≤ 9223372036854775807 ∧ T.n2 ≤ 9223372036854775807
theorem Tb.At.step {T : Tb} {w w' : World} (h : T.At w) (b : Below w.heap.size w w') : T.At w' :=
  ⟨h.1.step b, h.2.1.step b, h.2.2.1.step b, h.2.2.2⟩
def Tb.Ok (T : Tb) : Prop := ValidT T.tm T.ag T.rt

/-- Block g holds just three cells. -/
def Three (w : World) (g : Nat) (t : TypeId) (u v x : Value) : Prop := w.heap[g]? = some (.cells #[u, v, x] t (0, 0))
section
variable {w : World} {g : Nat} {t : TypeId} {u v x : Value}
theorem Three.lt (h : Three w g t u v x) : g < w.heap.size := by
  rcases Nat.lt_or_ge g w.heap.size with hl | hl
  · exact hl
  · unfold Three at h; rw [Array.getElem?_eq_none hl] at h; cases h
theorem Three.c0 (h : Three w g t u v x) : w.cell? ⟨g, 0, none⟩ = some u := cell_of_row w g 0 _ t (0, 0) h
theorem Three.c1 (h : Three w g t u v x) : w.cell? ⟨g, 1, none⟩ = some v := cell_of_row w g 1 _ t (0, 0) h
theorem Three.c2 (h : Three w g t u v x) : w.cell? ⟨g, 2, none⟩ = some x := cell_of_row w g 2 _ t (0, 0) h
theorem Three.new (w : World) (t : TypeId) (u v x : Value) : Three (w.alloc (.cells #[u, v, x] t)) w.heap.size t u v x := heap_alloc_new w _
theorem Three.below {B : Nat} {w' : World} (h : Three w g t u v x) (hb : Below B w w') (hg : g < B) : Three w' g t u v x := (hb.block g hg).trans h
theorem Three.drew {w' : World} (h : Three w g t u v x) (hb : Drew w w') : Three w' g t u v x := h.below (hb.below w.heap.size) h.lt
end

set_option maxHeartbeats 2000000 in
theorem rvalid_any (T : Tb) (q : Bool) (hq : q = true ↔ T.Ok) (w : World) (ht : T.At w) :
    Calls Try.prog 14 #[T.val] w (Gives (.bool q) w) := by
  obtain ⟨A0, A1, A2, n0, c0, n1, c1, n2, c2, tm, ag, rt⟩ := T
  obtain ⟨r0, r1, r2, l0, l1, l2⟩ := ht
  simp only [Tb.val, Tb.Ok, ValidT] at *
  obtain ⟨W, hW⟩ : ∃ W, w.alloc (.cells #[.slice A0 n0 c0, .slice A1 n1 c1, .slice A2 n2 c2] 25) = W := ⟨_, rfl⟩
  have HT : Hid (Three W w.heap.size 25 (.slice A0 n0 c0) (.slice A1 n1 c1) (.slice A2 n2 c2)) := by rw [← hW]; exact Three.new w _ _ _ _
  have BW : Hid (Below w.heap.size w W) := by rw [← hW]; exact below_alloc w _
  have R0 := Lib.hid (r0.step BW.out)
  have R1 := Lib.hid (r1.step BW.out)
  have R2 := Lib.hid (r2.step BW.out)
  have HQ := Lib.hid hq
  have h0 := r0.1
  have h1 := r1.1
  have h2 := r2.1
  have L0 := Lib.hid h0
  have L1 := Lib.hid h1
  have L2 := Lib.hid h2
  have t0 := HT.out.c0
  have t1 := HT.out.c1
  have t2 := HT.out.c2
  have t3 := HT.out.lt
  have M0 := Lib.hid (fun x (hx : x = true ↔ RisesL tm) => rrising_any A0 n0 c0 tm x hx W R0.out l0)
  have M1 := Lib.hid (fun W' (d : Drew W W') x (hx : x = true ↔ RisesL ag) => rrising_any A1 n1 c1 ag x hx W' (R1.out.step (d.below _)) l1)
  clear r0 r1 r2 hq h0 h1 h2
  by_cases q0 : RisesL tm
  · have M0 := Lib.hid (M0.out true (by simp [q0]))
    by_cases q1 : RisesL ag
    · have M1 := Lib.hid (fun W' d => M1.out W' d true (by simp [q1]))
      by_cases q2 : n2 = n0
      · have q3 : ((n2 : Int) != (n0 : Int)) = false := by simp [q2]
        have q4 : (n2 != n0) = false := by simp [q2]
        have HQ2 : Hid (q = true ↔ ∀ i, i < n2 → RowOk n1 (rt.getD i [])) := by
          have e := HQ.out
          rw [L1.out, L2.out, L0.out] at e
          unfold Hid
          rw [e]
          exact ⟨fun h => h.2.2.2, fun h => ⟨q0, q1, q2, h⟩⟩
        clear q0 q1 HQ q2
        go_enter Try.func14, Try.ntmps14
        go_wp2_with (first
          | (go_at_call 32; with_reducible refine M0.out.mono ?_; rintro e w1 ⟨rfl, d1⟩; have D1 := Lib.hid d1; have s1 := d1.cell t1; have s0 := d1.cell t0; have s2 := d1.cell t2; have s3 := d1.size; clear d1 M0)
          | (go_at_call 32; refine (M1.out _ D1.out).mono ?_; rintro e w2 ⟨rfl, d2⟩; have D2 := Lib.hid (D1.out.trans d2); have u0 := D2.out.cell t0; have u1 := D2.out.cell t1; have u2 := D2.out.cell t2; have u3 := D2.out.size; clear d2 M1))
        have v3 : w.heap.size < w2.heap.size := by omega
        clear s0 s1 s2 s3 u0 u1 u2 u3 v3
        go_loopw [3, 4] (fun i j wr => ∃ a : Nat, a ≤ n2 ∧ i = .int .i64 a ∧ Hid (∀ b, b < a → RowOk n1 (rt.getD b [])) ∧ Hid (Drew W wr)) (fun i _ _ => n2 - (intOf i).toNat)
        case atStart => exact ⟨0, Nat.zero_le _, rfl, fun b hb => absurd hb (by omega), D2.out⟩
        case round =>
          obtain ⟨a, ha, rfl, HA, DD⟩ := hrel
          have u0 := DD.out.cell t0
          have u1 := DD.out.cell t1
          have u2 := DD.out.cell t2
          have u3 := DD.out.size
          have v3 := DD.out.lt t3
          by_cases hlt : a < n2
          · obtain ⟨p, x, m, c, rfl, g0, gm, rr⟩ := R2.out.at_ a hlt
            have g := DD.out.cell g0
            have RR := Lib.hid rr
            have lm := rr.1
            have g00 := Lib.hid g0
            clear g0 rr
            by_cases hm : m = n1
            · subst hm
              have f1 : ((m : Int) != (m : Int)) = false := by simp
              have f2 : (m != m) = false := by simp
              generalize hrow : rt.getD a [] = row at RR lm
              have HROW := Lib.hid hrow
              clear hrow
              go_wp2_with fail
              go_quiet (fail)
              have DQ := Lib.hid (DD.out.trans (Drew.n _ nq))
              go_wp2_with fail
              clear u0 u1 u2 u3 v3 g DD
              go_loopw [4] (fun j wr => ∃ b : Nat, b ≤ m ∧ j = .int .i64 b ∧ Hid (∀ k, k < b → 0 ≤ row.getD k 0 ∧ row.getD k 0 ≤ 1000000) ∧ Hid (Drew W wr)) (fun j _ => m - (intOf j).toNat)
              case atStart => exact ⟨0, Nat.zero_le _, rfl, fun k hk => absurd hk (by omega), DQ.out⟩
              case round =>
                obtain ⟨b, hb, rfl, HB, DE⟩ := hrel
                have u0 := DE.out.cell t0
                have u1 := DE.out.cell t1
                have u2 := DE.out.cell t2
                have u3 := DE.out.size
                have v3 := DE.out.lt t3
                have g := DE.out.cell g00.out
                by_cases hltb : b < m
                · obtain ⟨p', rfl, y0, z1, z2⟩ := RR.out.at_ b hltb
                  have y := DE.out.cell y0
                  clear y0
                  generalize hy : row.getD b 0 = z at y z1 z2
                  have HY := Lib.hid hy
                  clear hy
                  by_cases hz : 0 ≤ z ∧ z ≤ 1000000
                  · have BD := Lib.hid (rbound_any z true (by simp; omega) z1 z2)
                    have HB' : Hid (∀ k, k < b + 1 → 0 ≤ row.getD k 0 ∧ row.getD k 0 ≤ 1000000) := fun k hk => by
                      by_cases e : k = b
                      · subst e; rw [HY.out]; exact hz
                      · exact HB.out k (by omega)
                    clear HB hz
                    go_wp2_with (go_at_call 33; refine (BD.out _).mono ?_; rintro e w' ⟨rfl, rfl⟩)
                    go_roundw
                    case rel => exact ⟨b + 1, by omega, by go_num, HB', DE⟩
                    case measure => simp [intOf]; omega
                  · have BD := Lib.hid (rbound_any z false (by simp; omega) z1 z2)
                    have Q := Lib.hid (show q = false by
                      cases hqq : q with
                      | false => rfl
                      | true =>
                        have r := ((HQ2.out.1 hqq) a hlt).2 b hltb
                        rw [HROW.out, HY.out] at r
                        exact absurd r hz)
                    clear hz
                    go_wp2_with (go_at_call 33; refine (BD.out _).mono ?_; rintro e w' ⟨rfl, rfl⟩)
                    go_ret
                    exact ⟨by rw [Q.out]; rfl, BW.out.trans (DE.out.below _)⟩
                · obtain rfl : b = m := by omega
                  have HA' : Hid (∀ i, i < a + 1 → RowOk b (rt.getD i [])) := fun i hi => by
                    by_cases e : i = a
                    · subst e; rw [HROW.out]; exact ⟨lm, HB.out⟩
                    · exact HA.out i (by omega)
                  clear HA HB
                  go_wp2_with fail
                  go_roundw
                  case rel => exact ⟨a + 1, by omega, by go_num, HA', DE⟩
                  case measure => simp [intOf]; omega
            · have f1 : ((m : Int) != (n1 : Int)) = true := by simp; omega
              have f2 : (m != n1) = true := by simpa using hm
              have Q := Lib.hid (show q = false by
                cases hqq : q with
                | false => rfl
                | true => exact absurd ((HQ2.out.1 hqq) a hlt).1 (by omega))
              clear hm
              go_wp2_with fail
              go_quiet (fail)
              have DQ := Lib.hid (DD.out.trans (Drew.n _ nq))
              go_wp2_with fail
              go_ret
              exact ⟨by rw [Q.out]; rfl, BW.out.trans (DQ.out.below _)⟩
          · obtain rfl : a = n2 := by omega
            have Q := Lib.hid (show q = true from HQ2.out.2 HA.out)
            go_wp2_with fail
            go_ret
            exact ⟨by rw [Q.out]; rfl, BW.out.trans (DD.out.below _)⟩
      · have q3 : ((n2 : Int) != (n0 : Int)) = true := by simp; omega
        have q4 : (n2 != n0) = true := by simpa using q2
        have Q := Lib.hid (show q = false by
          cases hqq : q with
          | false => rfl
          | true => exact absurd (HQ.out.1 hqq).2.2.1 (by rw [L2.out, L0.out]; exact q2))
        clear q2 q0 q1
        go_enter Try.func14, Try.ntmps14
        go_wp2_with (first
      | (go_at_call 32; with_reducible refine M0.out.mono ?_; rintro e w1 ⟨rfl, d1⟩; have D1 := Lib.hid d1; have s1 := d1.cell t1; have s0 := d1.cell t0; have s2 := d1.cell t2; have s3 := d1.size; clear d1 M0)
      | (go_at_call 32; refine (M1.out _ D1.out).mono ?_; rintro e w2 ⟨rfl, d2⟩; have D2 := Lib.hid (D1.out.trans d2); have u0 := D2.out.cell t0; have u1 := D2.out.cell t1; have u2 := D2.out.cell t2; have u3 := D2.out.size; clear d2 M1))
        go_ret
        exact ⟨by rw [Q.out]; rfl, BW.out.trans (D2.out.below _)⟩
    · have M1 := Lib.hid (fun W' d => M1.out W' d false (by simp [q1]))
      have Q := Lib.hid (show q = false by
        cases hqq : q with
        | false => rfl
        | true => exact absurd (HQ.out.1 hqq).2.1 q1)
      clear q1 q0
      go_enter Try.func14, Try.ntmps14
      go_wp2_with (first
      | (go_at_call 32; with_reducible refine M0.out.mono ?_; rintro e w1 ⟨rfl, d1⟩; have D1 := Lib.hid d1; have s1 := d1.cell t1; have s0 := d1.cell t0; have s2 := d1.cell t2; have s3 := d1.size; clear d1 M0)
      | (go_at_call 32; refine (M1.out _ D1.out).mono ?_; rintro e w2 ⟨rfl, d2⟩; have D2 := Lib.hid (D1.out.trans d2); have u0 := D2.out.cell t0; have u1 := D2.out.cell t1; have u2 := D2.out.cell t2; have u3 := D2.out.size; clear d2 M1))
      go_ret
      exact ⟨by rw [Q.out]; rfl, BW.out.trans (D2.out.below _)⟩
  · have M0 := Lib.hid (M0.out false (by simp [q0]))
    have Q := Lib.hid (show q = false by
      cases hqq : q with
      | false => rfl
      | true => exact absurd (HQ.out.1 hqq).1 q0)
    clear q0
    go_enter Try.func14, Try.ntmps14
    go_wp2_with (go_at_call 32; with_reducible refine M0.out.mono ?_; rintro e w1 ⟨rfl, d1⟩; have D1 := Lib.hid d1; clear d1)
    go_ret
    exact ⟨by rw [Q.out]; rfl, BW.out.trans (D1.out.below _)⟩
end Go.Proofs.Ytjjpcgfhoncmeaa
