/- Layer 7: DriftTruth. -/
import Derived.Test.YtjjpcgfhoncmeaaHead2
namespace Go.Proofs.Ytjjpcgfhoncmeaa
open Go.RowKit Go
set_option linter.unusedVariables false
set_option linter.unusedSimpArgs false

theorem i64_wf {x : Int} (h : (Lit.int .i64 x).wf = true) : I64 x := by
  have e1 : IntKind.i64.min = -9223372036854775808 := by decide
  have e2 : IntKind.i64.max = 9223372036854775807 := by decide
  simp [Lit.wf, e1, e2] at h
  unfold I64; omega
theorem below_box {w0 w : World} (h : Below w0.heap.size w0 w) (o : Obj) : Below w0.heap.size w0 (w.alloc o) := below_more h (below_alloc w o)
theorem elR_yes {r c : Int} (hr : RateOk r) (hc : StretchOk c) : elR r c = (elLo r c, elHi r c, 0) := if_pos ⟨hr, hc⟩
theorem coR_yes {r c : Int} (hr : RateOk r) (hc : StretchOk c) : coR r c = (coLo r c, coHi r c, 0) := if_pos ⟨hr, hc⟩

/-- What scale says of a counter. -/
theorem fl_read {o e : Int} (h1 : 0 ≤ o) (h2 : o ≤ 1000000000000000) (h3 : -1000000 ≤ e) (h4 : e ≤ 1000000) :
    floorR o (1000000000 + e) 1000000000 = (o * (1000000000 + e) / 1000000000, 0) ∧ 0 ≤ o * (1000000000 + e) / 1000000000 ∧ o * (1000000000 + e) / 1000000000 ≤ 2000000000000000 := by
  have a := Int.mul_nonneg h1 (by omega : (0 : Int) ≤ 1000000000 + e)
  have b := Int.mul_le_mul h2 (by omega : 1000000000 + e ≤ 2000000000) (by omega) (by omega)
  refine ⟨?_, by omega, by omega⟩
  rw [floorR, if_pos (by unfold rOK; omega), finR_in (by omega) (by omega)]

set_option maxHeartbeats 2000000 in
theorem truth_no (G : Dft) (r e o t : Int) (ir : I64 r) (ie : I64 e) (io : I64 o) (it : I64 t) (hno : ¬ (0 ≤ r ∧ r ≤ 1000000 ∧ -r ≤ e ∧ e ≤ r ∧ 0 ≤ o ∧ o ≤ t ∧ t ≤ 1000000000000000)) (w : World) :
    Calls Try.prog 8 #[.int .i64 r, .int .i64 e, .int .i64 o, .int .i64 t] w (Gives (.bool true) w) := by
  have HD := Lib.hid (head_true G w)
  clear G
  obtain ⟨ir1, ir2⟩ := ir
  rcases (by omega : r < 0 ∨ (0 ≤ r ∧ 1000000 < r) ∨ (0 ≤ r ∧ r ≤ 1000000 ∧ e < -r) ∨ (0 ≤ r ∧ r ≤ 1000000 ∧ -r ≤ e ∧ r < e) ∨ (0 ≤ r ∧ r ≤ 1000000 ∧ -r ≤ e ∧ e ≤ r ∧ o < 0) ∨ (0 ≤ r ∧ r ≤ 1000000 ∧ -r ≤ e ∧ e ≤ r ∧ 0 ≤ o ∧ t < o) ∨ (0 ≤ r ∧ r ≤ 1000000 ∧ -r ≤ e ∧ e ≤ r ∧ 0 ≤ o ∧ o ≤ t ∧ 1000000000000000 < t)) with h | ⟨h1, h⟩ | ⟨h1, h2, h⟩ | ⟨h1, h2, h3, h⟩ | ⟨h1, h2, h3, h4, h⟩ | ⟨h1, h2, h3, h4, h5, h⟩ | ⟨h1, h2, h3, h4, h5, h6, h⟩
  all_goals
    clear hno
    go_enter Try.func8, Try.ntmps8
    go_wp2_with (go_at_call 9; refine HD.out.mono ?_; rintro e w1 ⟨rfl, b1⟩; have B1 := Lib.hid b1; clear b1)
    go_ret
    exact ⟨rfl, B1.out⟩

set_option maxHeartbeats 4000000 in
theorem truth_yes (G : Dft) (r e o t : Int) (h1 : 0 ≤ r) (h2 : r ≤ 1000000) (h3 : -r ≤ e) (h4 : e ≤ r) (h5 : 0 ≤ o) (h6 : o ≤ t) (h7 : t ≤ 1000000000000000) (w : World) :
    Calls Try.prog 8 #[.int .i64 r, .int .i64 e, .int .i64 o, .int .i64 t] w (Gives (.bool true) w) := by
  have HD := Lib.hid (head_true G w)
  obtain ⟨fo, a1, a2⟩ := fl_read h5 (by omega : o ≤ 1000000000000000) (by omega : -1000000 ≤ e) (by omega)
  obtain ⟨ft, c1, c2⟩ := fl_read (by omega : 0 ≤ t) h7 (by omega : -1000000 ≤ e) (by omega)
  have F1 := Lib.hid (floor_any o (1000000000 + e) 1000000000)
  have F2 := Lib.hid (floor_any t (1000000000 + e) 1000000000)
  rw [fo] at F1
  rw [ft] at F2
  have TR := truth (r := r) h3 h4 h6 rfl rfl
  have MO := truth_mono (by omega : -1000000 ≤ e) h6 rfl rfl
  clear fo ft
  generalize o * (1000000000 + e) / 1000000000 = a at F1 a1 a2 TR MO
  generalize t * (1000000000 + e) / 1000000000 = b at F2 c1 c2 TR MO
  unfold pairV at F1 F2
  have hw : wrap64 (b - a) = b - a := by unfold wrap64; omega
  have hw2 : wrap64 (t - o) = t - o := by unfold wrap64; omega
  by_cases hd : b - a ≤ 1000000000000000
  · have E := Lib.hid (G.el r (b - a) ⟨by omega, by omega⟩ ⟨by omega, by omega⟩)
    have C := Lib.hid (G.co r (t - o) ⟨by omega, by omega⟩ ⟨by omega, by omega⟩)
    rw [elR_yes ⟨h1, h2⟩ ⟨by omega, by omega⟩] at E
    rw [coR_yes ⟨h1, h2⟩ ⟨by omega, by omega⟩] at C
    have I1 := Lib.hid (in_any (t - o) (elLo r (b - a)) (elHi r (b - a)))
    have I2 := Lib.hid (in_any (b - a) (coLo r (t - o)) (coHi r (t - o)))
    have q1 := (el_can h1 h2 (by omega : 0 ≤ t - o) (by omega : 0 ≤ b - a)).2 TR
    have q2 := co_can.2 TR
    rw [show inR (t - o) (elLo r (b - a)) (elHi r (b - a)) = true by simp [inR, q1]] at I1
    rw [show inR (b - a) (coLo r (t - o)) (coHi r (t - o)) = true by simp [inR, q2]] at I2
    clear q1 q2 TR MO G
    generalize elLo r (b - a) = x0 at E I1
    generalize elHi r (b - a) = x1 at E I1
    generalize coLo r (t - o) = y0 at C I2
    generalize coHi r (t - o) = y1 at C I2
    unfold rgV at E C I1 I2
    go_enter Try.func8, Try.ntmps8
    go_wp2_with (first
      | (go_at_call 9; refine HD.out.mono ?_; rintro e w1 ⟨rfl, b1⟩; have B1 := Lib.hid b1; clear b1)
      | (go_at_call 26; (with_reducible refine (F1.out _).mono ?_); rintro e w2 ⟨rfl, b2⟩; have B2 := Lib.hid (below_more B1.out b2); clear b2 F1)
      | (go_at_call 26; (with_reducible refine (F2.out _).mono ?_); rintro e w3 ⟨rfl, b3⟩; have B3 := Lib.hid (below_more B2.out b3); clear b3 F2)
      | (go_at_call 17; (with_reducible refine (E.out _).mono ?_); rintro e w4 ⟨rfl, b4⟩; have B4 := Lib.hid (below_box (below_more B3.out b4) (.cells #[.int .i64 x0, .int .i64 x1] 27)); have X := Lib.hid (Two.new w4 27 (.int .i64 x0) (.int .i64 x1)); clear b4 E)
      | (go_at_call 19; (with_reducible refine (C.out _).mono ?_); rintro e w5 ⟨rfl, b5⟩; have B5 := Lib.hid (below_box (below_more B4.out b5) (.cells #[.int .i64 y0, .int .i64 y1] 27)); replace X := Lib.hid ((X.out.below b5 X.out.lt).alloc (.cells #[.int .i64 y0, .int .i64 y1] 27)); have Y := Lib.hid (Two.new w5 27 (.int .i64 y0) (.int .i64 y1)); have k0 := X.out.c0; have k1 := X.out.c1; have k2 := X.out.lt; clear b5 C)
      | (go_at_call 24; (with_reducible refine (I1.out _).mono ?_); rintro e w6 ⟨rfl, b6⟩; have B6 := Lib.hid (below_more B5.out b6); replace Y := Lib.hid (Y.out.below b6 Y.out.lt); have k3 := Y.out.c0; have k4 := Y.out.c1; have k5 := Y.out.lt; clear b6 I1)
      | (go_at_call 24; (with_reducible refine (I2.out _).mono ?_); rintro e w7 ⟨rfl, b7⟩; have B7 := Lib.hid (below_more B6.out b7); clear b7 I2))
    go_ret
    exact ⟨by simp, B7.out⟩
  · clear TR MO G
    go_enter Try.func8, Try.ntmps8
    go_wp2_with (first
      | (go_at_call 9; refine HD.out.mono ?_; rintro e w1 ⟨rfl, b1⟩; have B1 := Lib.hid b1; clear b1)
      | (go_at_call 26; (with_reducible refine (F1.out _).mono ?_); rintro e w2 ⟨rfl, b2⟩; have B2 := Lib.hid (below_more B1.out b2); clear b2 F1)
      | (go_at_call 26; (with_reducible refine (F2.out _).mono ?_); rintro e w3 ⟨rfl, b3⟩; have B3 := Lib.hid (below_more B2.out b3); clear b3 F2))
    go_ret
    exact ⟨rfl, B3.out⟩

theorem truth_law (G : Dft) (r e o t : Int) (w : World) (hr : (Lit.int .i64 r).wf = true) (he : (Lit.int .i64 e).wf = true) (ho : (Lit.int .i64 o).wf = true) (ht : (Lit.int .i64 t).wf = true) :
    Calls Try.prog 8 #[.int .i64 r, .int .i64 e, .int .i64 o, .int .i64 t] w (Gives (.bool true) w) := by
  by_cases h : 0 ≤ r ∧ r ≤ 1000000 ∧ -r ≤ e ∧ e ≤ r ∧ 0 ≤ o ∧ o ≤ t ∧ t ≤ 1000000000000000
  · exact truth_yes G r e o t h.1 h.2.1 h.2.2.1 h.2.2.2.1 h.2.2.2.2.1 h.2.2.2.2.2.1 h.2.2.2.2.2.2 w
  · exact truth_no G r e o t (i64_wf hr) (i64_wf he) (i64_wf ho) (i64_wf ht) h w
end Go.Proofs.Ytjjpcgfhoncmeaa
