/- Layer 8: the mathematics of the laws: beliefs that are carried on; no program in it. -/
import Derived.Test.YtpfcjffpomdhbaaCon
namespace Go.Proofs.Ytpfcjffpomdhbaa
open Go.RowKit Go
set_option linter.unusedVariables false
set_option linter.unusedSimpArgs false

theorem at_ok {p l h r a : Int} (hb : BOk p l h) (hr : RateOk r) (ha : TimeOk a) (h1 : p ≤ a) (h2 : a - p ≤ 1000000000000000) :
    atR p l h r a = (min 3000000000000000 (l + elLo r (a - p)), min 3000000000000000 (h + elHi r (a - p)), 0) := by
  unfold atR
  rw [if_pos ⟨hb, hr, ha⟩, if_neg (by omega), if_pos ⟨by omega, h2⟩]

/-- A wider interval, and a greater rate bound. -/
theorem wider_at {p l h u v r s a : Int} (hb : BOk p l h) (hw : IvOk u v) (h1 : u ≤ l) (h2 : h ≤ v) (hr : RateOk r) (hs : RateOk s) (hrs : r ≤ s) :
    ∃ x y z t e, atR p l h r a = (x, y, e) ∧ atR p u v s a = (z, t, e) ∧ (e = 0 → z ≤ x ∧ y ≤ t ∧ x ≤ y) := by
  by_cases ha : TimeOk a
  · by_cases c : a < p
    · refine ⟨0, 0, 0, 0, 30, ?_, ?_, fun e => by omega⟩
      · unfold atR; rw [if_pos ⟨hb, hr, ha⟩, if_pos c]
      · unfold atR; rw [if_pos ⟨⟨hb.1, hw⟩, hs, ha⟩, if_pos c]
    · by_cases d : StretchOk (a - p)
      · refine ⟨min 3000000000000000 (l + elLo r (a - p)), min 3000000000000000 (h + elHi r (a - p)), min 3000000000000000 (u + elLo s (a - p)), min 3000000000000000 (v + elHi s (a - p)), 0, ?_, ?_, fun _ => ?_⟩
        · unfold atR; rw [if_pos ⟨hb, hr, ha⟩, if_neg c, if_pos d]
        · unfold atR; rw [if_pos ⟨⟨hb.1, hw⟩, hs, ha⟩, if_neg c, if_pos d]
        · have a1 := el_wider hr.1 hrs hs.2 d.1
          have a2 := elLo_up hr.1 d.1
          have a3 := up_elHi hr.1 hr.2 d.1
          obtain ⟨_, _, b3, _⟩ := hb
          omega
      · refine ⟨0, 0, 0, 0, 3, ?_, ?_, fun e => by omega⟩
        · unfold atR; rw [if_pos ⟨hb, hr, ha⟩, if_neg c, if_neg d]
        · unfold atR; rw [if_pos ⟨⟨hb.1, hw⟩, hs, ha⟩, if_neg c, if_neg d]
  · refine ⟨0, 0, 0, 0, 1, ?_, ?_, fun e => by omega⟩
    · unfold atR; rw [if_neg (fun q => ha q.2.2)]
    · unfold atR; rw [if_neg (fun q => ha q.2.2)]

/-- In two steps the greatest time is not less. -/
theorem elHi_add {r m n : Int} (h1 : 0 ≤ r) (h2 : r ≤ 1000000) (hm : 0 ≤ m) (hn : 0 ≤ n) : elHi r (m + n) ≤ elHi r m + elHi r n := by
  rcases Int.lt_or_le (elHi r m + elHi r n) (elHi r (m + n)) with c | c
  · exfalso
    have k0 := (le_elHi (e := elHi r (m + n)) (c := m + n) h2).1 (Int.le_refl _)
    have k1 : ¬ (elHi r m + 1 ≤ elHi r m) := by omega
    have k2 : ¬ (elHi r n + 1 ≤ elHi r n) := by omega
    rw [le_elHi h2] at k1 k2
    have k3 := Int.mul_le_mul_of_nonneg_right (show elHi r m + elHi r n + 1 ≤ elHi r (m + n) by omega) (show 0 ≤ 1000000000 - r by omega)
    generalize elHi r (m + n) = E at *
    generalize elHi r m = X at *
    generalize elHi r n = Y at *
    have e1 : (X + Y + 1) * (1000000000 - r) = (X + 1) * (1000000000 - r) + (Y + 1) * (1000000000 - r) - (1000000000 - r) := by
      rw [Int.add_mul, Int.add_mul, Int.add_mul, Int.add_mul, Int.one_mul]; omega
    generalize (X + 1) * (1000000000 - r) = A at *
    generalize (Y + 1) * (1000000000 - r) = B at *
    generalize E * (1000000000 - r) = C at *
    omega
  · exact c

theorem adv_ok {p l h r m : Int} (hb : BOk p l h) (hr : RateOk r) (h0 : 0 ≤ m) (h1 : m ≤ 1000000000000000) (h2 : p + m ≤ 3000000000000000) :
    atR p l h r (p + m) = (min 3000000000000000 (l + elLo r m), min 3000000000000000 (h + elHi r m), 0) ∧
    advR p l h r (p + m) = (p + m, min 3000000000000000 (l + elLo r m), min 3000000000000000 (h + elHi r m), 0) ∧
    BOk (p + m) (min 3000000000000000 (l + elLo r m)) (min 3000000000000000 (h + elHi r m)) := by
  obtain ⟨⟨b1, b2⟩, b3, b4, b5⟩ := hb
  have e := at_ok (p := p) (l := l) (h := h) (r := r) (a := p + m) ⟨⟨b1, b2⟩, b3, b4, b5⟩ hr ⟨by omega, h2⟩ (by omega) (by omega)
  rw [show p + m - p = m by omega] at e
  have a2 := elLo_up hr.1 h0
  have a3 := up_elHi hr.1 hr.2 h0
  have a4 := elLo_nonneg hr.1 h0
  refine ⟨e, ?_, ⟨by omega, by omega⟩, by omega, by omega, by omega⟩
  unfold advR
  rw [e]
  rfl

/-- What the counter counted, and the time that went by. -/
theorem truth_at {p l h r e n t : Int} (hb : BOk p l h) (hr : RateOk r) (he : 0 ≤ e) (hn : 0 ≤ n) (hc : Can r e n) (h1 : l ≤ t) (h2 : t ≤ h) (h3 : t + e ≤ 3000000000000000) (h4 : p + n ≤ 3000000000000000) :
    (n ≤ 1000000000000000 → ∃ x y, atR p l h r (p + n) = (x, y, 0) ∧ x ≤ t + e ∧ t + e ≤ y) ∧ (1000000000000000 < n → atR p l h r (p + n) = (0, 0, 3)) := by
  refine ⟨fun q => ?_, fun q => ?_⟩
  · obtain ⟨k1, _, _⟩ := adv_ok hb hr hn q h4
    have k2 := (el_can hr.1 hr.2 he hn).2 hc
    exact ⟨_, _, k1, by omega, by omega⟩
  · obtain ⟨⟨b1, b2⟩, b3⟩ := hb
    unfold atR
    rw [if_pos ⟨⟨⟨b1, b2⟩, b3⟩, hr, by unfold TimeOk; omega⟩, if_neg (by omega), if_neg (by rw [show p + n - p = n by omega]; unfold StretchOk; omega)]

theorem elHi_top {r n : Int} (hr : RateOk r) (h0 : 0 ≤ n) (h1 : n ≤ 900000000000000) : elHi r n ≤ 1000000000000000 := by
  obtain ⟨r1, r2⟩ := hr
  rcases Int.lt_or_le 1000000000000000 (elHi r n) with c | c
  · exfalso
    have k := (le_elHi (e := 1000000000000001) (c := n) r2).1 (by omega)
    omega
  · exact c
/-- Where true time can be: the counts of that stretch. -/
theorem ends_co {r n e : Int} (hr : RateOk r) (h0 : 0 ≤ n) (he : 0 ≤ e) (he2 : e ≤ 1000000000000000) (h1 : elLo r n ≤ e) (h2 : e ≤ elHi r n) : coR r e = (coLo r e, coHi r e, 0) ∧ coLo r e ≤ n ∧ n ≤ coHi r e := by
  refine ⟨if_pos ⟨hr, he, he2⟩, ?_⟩
  exact co_can.2 ((el_can hr.1 hr.2 he h0).1 ⟨h1, h2⟩)
end Go.Proofs.Ytpfcjffpomdhbaa
