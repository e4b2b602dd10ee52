/- Layer 7: the reference's Worst (errors), Elapsed, Counts, Can; the laws' in and within. -/
import Derived.Laws.ResultCell
import Derived.Test.YtjjpcgfhoncmeaaRWorst
namespace Go.Proofs.Ytjjpcgfhoncmeaa
open Go.RowKit Go
set_option linter.unusedVariables false
set_option linter.unusedSimpArgs false

set_option maxHeartbeats 1000000 in
theorem rworst_no (T : Tb) (tl th al ah : Int) (hno : ¬ (T.Ok ∧ tl ≤ th ∧ al ≤ ah)) (w : World) (ht : T.At w) :
    Calls Try.prog 16 #[T.val, rgV tl th, rgV al ah] w (Gives (.tuple #[.int .i64 0, .int .i64 1]) w) := by
  obtain ⟨W, hW⟩ : ∃ W, ((w.alloc (.cells T.cells 25)).alloc (.cells #[.int .i64 tl, .int .i64 th] 27)).alloc (.cells #[.int .i64 al, .int .i64 ah] 27) = W := ⟨_, rfl⟩
  have HT : Hid (Three W w.heap.size 25 (.slice T.A0 T.n0 T.c0) (.slice T.A1 T.n1 T.c1) (.slice T.A2 T.n2 T.c2)) := by rw [← hW]; exact ((Three.new w _ _ _ _).alloc _).alloc _
  have HU : Hid (Two W (w.heap.size + 1) 27 (.int .i64 tl) (.int .i64 th)) := by
    rw [← hW]
    have h := Two.new (w.alloc (.cells T.cells 25)) 27 (.int .i64 tl) (.int .i64 th)
    rw [show (w.alloc (.cells T.cells 25)).heap.size = w.heap.size + 1 by simp] at h
    exact h.alloc _
  have HV : Hid (Two W (w.heap.size + 1 + 1) 27 (.int .i64 al) (.int .i64 ah)) := by
    rw [← hW]
    have h := Two.new ((w.alloc (.cells T.cells 25)).alloc (.cells #[.int .i64 tl, .int .i64 th] 27)) 27 (.int .i64 al) (.int .i64 ah)
    rw [show ((w.alloc (.cells T.cells 25)).alloc (.cells #[.int .i64 tl, .int .i64 th] 27)).heap.size = w.heap.size + 1 + 1 by simp] at h
    exact h
  have BW : Hid (Below w.heap.size w W) := by rw [← hW]; exact (((below_alloc w _).alloc (by simp) _).alloc (by simp; omega) _)
  have t3 := HT.out.lt
  have t0 := HT.out.c0
  have t1 := HT.out.c1
  have t2 := HT.out.c2
  have AT := Lib.hid (ht.step BW.out)
  have V := Lib.hid (fun q hq => rvalid_any T q hq W AT.out)
  unfold Tb.val at V ⊢
  unfold Tb.cells at hW
  unfold rgV
  by_cases ho : T.Ok
  · have V := Lib.hid (V.out true (by simp [ho]))
    have hc : th < tl ∨ ah < al := by
      rcases (by omega : th < tl ∨ ah < al ∨ (tl ≤ th ∧ al ≤ ah)) with h | h | ⟨h, h'⟩
      · exact .inl h
      · exact .inr h
      · exact absurd ⟨ho, h, h'⟩ hno
    clear ho hno
    have u2 := HU.out.lt
    have v2 := HV.out.lt
    go_enter Try.func16, Try.ntmps16
    go_wp2_with (go_at_call 14; refine V.out.mono ?_; rintro e w1 ⟨rfl, b1⟩; refine Hid.out ?_)
    refine Lib.hid ?_
    have U1 := HU.out.below b1 u2
    have V1 := HV.out.below b1 v2
    have HB := Lib.hid b1
    clear t0 t1 t2 t3 u2 v2 b1 V hW
    have u0 := U1.c0
    have u1 := U1.c1
    have u2 := U1.lt
    have v0 := V1.c0
    have v1 := V1.c1
    have v2 := V1.lt
    clear U1 V1
    by_cases h : th < tl
    · have f1 : decide (th < tl) = true := by simp [h]
      clear hc
      go_wp2_with fail
      go_ret2
      exact ⟨rfl, BW.out.trans (HB.out.mono BW.out.size)⟩
    · have f1 : decide (th < tl) = false := by simp [h]
      have f2 : decide (ah < al) = true := by simp; omega
      clear hc
      go_wp2_with fail
      go_ret2
      exact ⟨rfl, BW.out.trans (HB.out.mono BW.out.size)⟩
  · have V := Lib.hid (V.out false (by simp [ho]))
    clear ho hno
    go_enter Try.func16, Try.ntmps16
    go_wp2_with (go_at_call 14; refine V.out.mono ?_; rintro e w1 ⟨rfl, b1⟩)
    go_ret2
    exact ⟨rfl, BW.out.trans (b1.mono BW.out.size)⟩

theorem rworst_any (T : Tb) (tl th al ah : Int) (w : World) (ht : T.At w) :
    Calls Try.prog 16 #[T.val, rgV tl th, rgV al ah] w (Gives (.tuple #[.int .i64 (worstR T tl th al ah).1, .int .i64 (worstR T tl th al ah).2]) w) := by
  by_cases h : T.Ok ∧ tl ≤ th ∧ al ≤ ah
  · exact rworst_yes T h.1 tl th al ah h.2.1 h.2.2 w ht
  · have e : worstR T tl th al ah = (0, 1) := if_neg h
    rw [e]
    exact rworst_no T tl th al ah h w ht

/-- What Elapsed and Counts return. -/
def RateOk (r : Int) : Prop := 0 ≤ r ∧ r ≤ 1000000
def StretchOk (n : Int) : Prop := 0 ≤ n ∧ n ≤ 1000000000000000
instance (r : Int) : Decidable (RateOk r) := by unfold RateOk; infer_instance
instance (r : Int) : Decidable (StretchOk r) := by unfold StretchOk; infer_instance
def elR (r c : Int) : Int × Int × Int := if RateOk r ∧ StretchOk c then (elLo r c, elHi r c, 0) else (0, 0, 1)
def coR (r e : Int) : Int × Int × Int := if RateOk r ∧ StretchOk e then (coLo r e, coHi r e, 0) else (0, 0, 1)

/-- A quotient rounded up, as layer 1 says it. -/
theorem ceil_up (x d : Int) (hd : 0 < d) : ceilR (x / d) (x % d) = upD x d := by
  have a := Int.mul_ediv_add_emod x d
  have b := Int.emod_nonneg x (by omega : d ≠ 0)
  have c := Int.emod_lt_of_pos x hd
  unfold ceilR
  generalize x / d = q at *
  generalize x % d = m at *
  split
  · -- q + 1 = upD
    have h1 : ¬ (q + 1 < upD x d) := by rw [lt_up hd, Int.add_mul, Int.one_mul, Int.mul_comm q d]; omega
    have h2 : q < upD x d := by rw [lt_up hd, Int.mul_comm q d]; omega
    omega
  · have h1 : ¬ (q < upD x d) := by rw [lt_up hd, Int.mul_comm q d]; omega
    have h2 : q - 1 < upD x d := by rw [lt_up hd, Int.sub_mul, Int.one_mul, Int.mul_comm q d]; omega
    omega
theorem finR_in {x : Int} (h1 : -3000000000000000 ≤ x) (h2 : x ≤ 3000000000000000) : finR x = (x, 0) := if_pos ⟨h1, h2⟩

/-- What the four calls of layer 1 return. -/
theorem fl_el {r c : Int} (hr : RateOk r) (hc : StretchOk c) (h : 0 < c) : floorR (c - 1) 1000000000 (1000000000 + r) = (elLo r c - 1, 0) := by
  obtain ⟨r1, r2⟩ := hr
  obtain ⟨c1, c2⟩ := hc
  have a := elLo_nonneg r1 c1
  have b := elLo_up r1 c1
  have e : (c - 1) * 1000000000 / (1000000000 + r) = elLo r c - 1 := by unfold elLo; rw [if_neg (by omega)]; omega
  have n := Int.ediv_nonneg (by omega : (0 : Int) ≤ (c - 1) * 1000000000) (by omega : (0 : Int) ≤ 1000000000 + r)
  rw [floorR, if_pos (by unfold rOK; omega), finR_in (by omega) (by omega), e]
theorem ce_el {r c : Int} (hr : RateOk r) (hc : StretchOk c) : ceilR' (c + 1) 1000000000 (1000000000 - r) = (elHi r c + 1, 0) := by
  obtain ⟨r1, r2⟩ := hr
  obtain ⟨c1, c2⟩ := hc
  have a := elHi_nonneg r1 r2 c1
  have b := elHi_le r1 r2 c1
  have e : upD ((c + 1) * 1000000000) (1000000000 - r) = elHi r c + 1 := by unfold elHi; omega
  rw [ceilR', if_pos (by unfold rOK; omega), ceil_up _ _ (by omega), finR_in (by omega) (by omega), e]
theorem fl_co {r e : Int} (hr : RateOk r) (he : StretchOk e) : floorR e (1000000000 - r) 1000000000 = (coLo r e, 0) := by
  obtain ⟨r1, r2⟩ := hr
  obtain ⟨c1, c2⟩ := he
  have a := coLo_nonneg r2 c1
  have b := coLo_le_self r1 c1
  have q : e * (1000000000 - r) / 1000000000 = coLo r e := rfl
  rw [floorR, if_pos (by unfold rOK; omega), finR_in (by omega) (by omega), q]
theorem ce_co {r e : Int} (hr : RateOk r) (he : StretchOk e) : ceilR' e (1000000000 + r) 1000000000 = (coHi r e, 0) := by
  obtain ⟨r1, r2⟩ := hr
  obtain ⟨c1, c2⟩ := he
  have a := coHi_nonneg r1 c1
  have b := coHi_le r2 c1
  have q : upD (e * (1000000000 + r)) 1000000000 = coHi r e := rfl
  rw [ceilR', if_pos (by unfold rOK; omega), ceil_up _ _ (by omega), finR_in (by omega) (by omega), q]
end Go.Proofs.Ytjjpcgfhoncmeaa
