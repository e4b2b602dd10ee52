/- Layer 4: the reader: integer. -/
import Derived.Test.YtdambggcaimndaaNumber
namespace Go.Proofs.Ytdambggcaimndaa
open Go.RowKit Go.Sort Go
set_option linter.unusedVariables false

/-- An integer has been read, and the reader stands behind it; or the panic with ErrForm. -/
def ReadEnd (g : Nat) (A : Option Addr) (n cap : Nat) (o : Option (Int × List UInt8)) (w : World) (e : Ending) (w' : World) : Prop :=
  w.grownBy w' (some g) ∧ match o with
    | some (x, r) => e = .returned (.int .i64 x) ∧ Rd w' g A n cap (n - r.length) ∧ r.length ≤ n
    | none => e = .panicked form

theorem grown_trans {a b c : World} {row : Option Nat} (h : a.grownBy b row) (k : b.grownBy c row) : a.grownBy c row :=
  ⟨k.os.trans h.os, k.tape.trans h.tape, k.output.trans h.output, Nat.le_trans h.size k.size, fun i hi hne => (k.block i (Nat.lt_of_lt_of_le hi h.size) hne).trans (h.block i hi hne)⟩

theorem drop_cons {α : Type} (bs : List α) (d : α) (k : Nat) (h : k < bs.length) : bs.drop k = bs.getD k d :: bs.drop (k + 1) := by
  rw [List.drop_eq_getElem_cons h]; simp [List.getD, h]

/-- A digit more: what is put to the number. -/
theorem digit_more {a d k : Nat} (hk : k ≤ 9) (ha : a < 128 ^ k) (hd : d < 128) (h9 : k = 9 → d ≤ 1) :
    bits .or .u64 (a : Int) ((d * 128 ^ k : Nat) : Int) = ((a + d * 128 ^ k : Nat) : Int) ∧ a + d * 128 ^ k < 18446744073709551616 ∧ d * 128 ^ k < 18446744073709551616 := by
  have e : 128 ^ k = 2 ^ (7 * k) := by rw [Nat.pow_mul]
  have hb : d * 128 ^ k + 128 ^ k ≤ 18446744073709551616 := by
    rcases Nat.lt_or_ge k 9 with h | h
    · have h1 : 128 ^ k ≤ 128 ^ 8 := Nat.pow_le_pow_right (by omega) (by omega)
      have h2 : d * 128 ^ k ≤ 127 * 128 ^ 8 := Nat.mul_le_mul (by omega) h1
      have h3 : (128 : Nat) ^ 8 = 72057594037927936 := by decide
      rw [h3] at h1 h2
      omega
    · obtain rfl : k = 9 := by omega
      have h3 : (128 : Nat) ^ 9 = 9223372036854775808 := by decide
      have := h9 rfl
      rw [h3]
      omega
  have h1 := Nat.shiftLeft_add_eq_or_of_lt (a := d) (i := 7 * k) (b := a) (by rw [← e]; exact ha)
  rw [Nat.shiftLeft_eq, ← e] at h1
  refine ⟨?_, by omega, by omega⟩
  rw [bits_or_u64_nat _ _ (by omega) (by omega), Nat.or_comm, ← h1, Nat.add_comm]

theorem digit_facts {a k m c : Nat} (hk : k ≤ 9) (ha : a < 128 ^ k) (hm : m = 7 * k) (hc : c < 256) (h9 : k = 9 → c ≤ 1) :
    ∃ D a2 : Nat, IntKind.u64.wrap ((c : Int) % 128 * 2 ^ min m 64) = (D : Int) ∧ IntKind.u64.wrap ((c : Int) % 128 * 2 ^ m) = (D : Int) ∧ bits .or .u64 (a : Int) (D : Int) = (a2 : Int) ∧ a2 < 18446744073709551616 ∧ a2 = a + c % 128 * 128 ^ k := by
  obtain ⟨h1, h2, h3⟩ := digit_more (d := c % 128) hk ha (by omega) (fun h => by have := h9 h; omega)
  have e9 : min m 64 = m := Nat.min_eq_left (by omega)
  have key : IntKind.u64.wrap ((c : Int) % 128 * 2 ^ min m 64) = ((c % 128 * 128 ^ k : Nat) : Int) := ?_
  · exact ⟨c % 128 * 128 ^ k, a + c % 128 * 128 ^ k, key, by rw [e9] at key; exact key, h1, h2, rfl⟩
  have e : 128 ^ k = 2 ^ min m 64 := by rw [Nat.min_eq_left (by omega), hm, Nat.pow_mul]
  rw [e] at h3 ⊢
  have e5 : (c : Int) % 128 * (2 : Int) ^ min m 64 = ((c % 128 * 2 ^ min m 64 : Nat) : Int) := by
    rw [Int.natCast_mul, Int.natCast_pow]; rfl
  rw [e5, IntKind.wrap_u64]
  generalize c % 128 * 2 ^ min m 64 = X at h3 ⊢
  omega

theorem wrap64_seven {m : Nat} (h : m ≤ 63) : wrap64 ((m : Int) + 7) = ((m + 7 : Nat) : Int) := by
  rw [IntWalk.wrap64_in _ (by omega)]; omega
theorem measure_seven {m : Nat} (h : m ≤ 63) : 100 - (intOf (Value.int .i64 ((m + 7 : Nat) : Int))).toNat < 100 - (intOf (Value.int .i64 (m : Int))).toNat := by
  show 100 - (((m + 7 : Nat) : Int)).toNat < 100 - ((m : Int)).toNat
  omega
theorem read_none {bs : List UInt8} {k a n : Nat} {c : UInt8} {r b : List UInt8} (h : readN 0 b = (readN k (bs.drop n)).map fun p => (a + 128 ^ k * p.1, p.2)) (hd : bs.drop n = c :: r) (hc : (k = 9 ∧ 1 < c.toNat) ∨ (c.toNat = 0 ∧ 0 < k)) : readI b = none := by
  have : readN k (c :: r) = none := by
    rw [readN]
    split
    · rfl
    · rw [if_neg (by omega), if_pos (by omega)]
  rw [readI, h, hd, this]; rfl
theorem read_some {bs : List UInt8} {k a a2 n : Nat} {c : UInt8} {r b : List UInt8} (h : readN 0 b = (readN k (bs.drop n)).map fun p => (a + 128 ^ k * p.1, p.2)) (hd : bs.drop n = c :: r) (hc : c.toNat < 128 ∧ (k = 9 → c.toNat ≤ 1) ∧ (c.toNat = 0 → k = 0)) (e : a2 = a + 128 ^ k * c.toNat) : readI b = some (unnum a2, r) := by
  have : readN k (c :: r) = some (c.toNat, r) := by
    rw [readN, if_neg (by omega), if_neg (by omega), if_neg (by omega)]
  rw [readI, h, hd, this, e]; rfl
theorem read_more {bs : List UInt8} {k a a2 at_ : Nat} {c : UInt8} {b : List UInt8} (h : readN 0 b = (readN k (bs.drop (at_ + k))).map fun p => (a + 128 ^ k * p.1, p.2)) (hd : bs.drop (at_ + k) = c :: bs.drop (at_ + k + 1)) (hk : k ≠ 9) (hc : 128 ≤ c.toNat) (e : a2 = a + 128 ^ k * (c.toNat - 128)) :
    readN 0 b = (readN (k + 1) (bs.drop (at_ + (k + 1)))).map fun p => (a2 + 128 ^ (k + 1) * p.1, p.2) := by
  rw [h, hd, readN, if_neg (by omega), if_pos hc, Option.map_map]
  congr 1
  funext p
  simp only [Function.comp_apply, e, Nat.pow_succ, Nat.mul_add, Nat.mul_assoc, Nat.add_assoc]

set_option maxHeartbeats 1000000 in
theorem integer_any (g : Nat) (A : Option Addr) (n cap at_ : Nat) (bs : List UInt8) (w : World) (h : Rd w g A n cap at_) (hr : Row8 w.heap.size w A n bs) (hp : 0 < n → ∀ p, A = some p → p.block ≠ g) (hn : n ≤ 1000000000) (hc : n ≤ cap) (ha : at_ ≤ n) :
    Calls Try.prog 44 #[.pointer (some ⟨g, 0, none⟩)] w (ReadEnd g A n cap (readI (bs.drop at_)) w) := by
  have HR := Lib.hid hr
  have HP := Lib.hid hp
  have HD := Lib.hid h
  clear h hr hp
  go_enter Try.func44, Try.ntmps44
  go_wp2_with fail
  go_loopw [3, 4] (fun s i wr => ∃ k a m : Nat, k ≤ 9 ∧ m = 7 * k ∧ i = .int .i64 m ∧ s = .int .u64 a ∧ Hid (a < 128 ^ k) ∧ at_ + k ≤ n ∧ Hid (readN 0 (bs.drop at_) = (readN k (bs.drop (at_ + k))).map fun p => (a + 128 ^ k * p.1, p.2)) ∧ Hid (w.grownBy wr (some g)) ∧ Hid (Rd wr g A n cap (at_ + k)) ∧ Hid (Row8 wr.heap.size wr A n bs)) (fun _ i _ => 100 - (intOf i).toNat)
  case atStart => exact ⟨0, 0, 0, by omega, rfl, rfl, rfl, (by show 0 < 128 ^ 0; decide), ha, (by show _ = _; simp), World.grownBy.refl _ _, HD.out, HR.out⟩
  case round =>
    obtain ⟨k, a, m, hk, hm, rfl, rfl, HA, hak, HE, HG, HRd, HRow⟩ := hrel
    have hbl := HRow.out.1
    have HM := Lib.hid hm
    clear hm
    by_cases hlt : at_ + k < n
    · obtain ⟨p, rfl, hpb, hcell⟩ := HRow.out.2 (by omega)
      have T := Lib.hid (take_ok g p n cap (at_ + k) 1 wr HRd.out hn hc (by omega))
      have hcell0 : wr.cell? (p.add (at_ + k)) = some (.int .u8 ((bs.getD (at_ + k) 0).toNat : Int)) := hcell (at_ + k) hlt
      generalize hc0 : (bs.getD (at_ + k) 0) = c0 at hcell0
      have hdrop := drop_cons bs 0 (at_ + k) (by omega)
      rw [hc0] at hdrop
      have HDR := Lib.hid hdrop
      have hc256 := u8_lt c0
      have hgn : p.block ≠ g := HP.out (by omega) p rfl
      clear hcell hdrop hc0 hpb
      have hcc : ∀ w', wr.grownBy w' (some g) → w'.cell? (p.add (at_ + k)) = some (.int .u8 (c0.toNat : Int)) := fun w' hg => by
        have hlt2 : p.block < wr.heap.size := by
          obtain ⟨p', e, hb, _⟩ := HRow.out.2 (by omega)
          injection e with e
          subst e
          exact hb
        refine (World.cell?_of_block (hg.block _ (by rw [block_of_add]; exact hlt2) ?_)).trans hcell0
        rw [block_of_add]
        intro e2
        injection e2 with e2
        exact hgn e2
      have HCC := Lib.hid hcc
      clear hcc hcell0
      generalize hc1 : c0.toNat = c at HCC hc256
      go_wp2_with (go_at_call 41; refine T.out.mono ?_; rintro e w1 ⟨q, rfl, hq, b1, r1, hqb⟩; clear hqb; obtain rfl : q = p.add (at_ + k) := hq.resolve_right (by omega); have hx := HCC.out w1 b1; clear hq; refine Hid.out ?_)
      refine Lib.hid ?_
      have G1 := Lib.hid b1
      have R1 := Lib.hid r1
      clear b1 r1
      have e1 : IntKind.u64.wrap ((c : Int) % 128) = (c : Int) % 128 := by rw [IntKind.wrap_u64]; omega
      by_cases q9 : k = 9
      · by_cases q1 : 1 < c
        · have f1 : ((m : Int) == 63) = true := by have := HM.out; simp; omega
          have f2 : decide ((1 : Int) < (c : Int)) = true := by rw [decide_eq_true_eq]; omega
          have HN : Hid (readI (bs.drop at_) = none) := read_none HE.out HDR.out (by rw [hc1]; omega)
          clear q9 q1
          go_wp2_with fail
          rw [HN.out]
          exact ⟨rfl, grown_trans HG.out G1.out, rfl⟩
        · by_cases q0 : c = 0
          · obtain ⟨D, a2, e2, e22, e3, h2, ha2⟩ := digit_facts hk HA.out HM.out hc256 (by omega)
            have HA2 := Lib.hid ha2
            clear ha2
            have f1 : ((m : Int) == 63) = true := by have := HM.out; simp; omega
            have f2 : decide ((1 : Int) < (c : Int)) = false := by rw [decide_eq_false_iff_not]; omega
            have f3 : decide ((128 : Int) ≤ (c : Int)) = false := by rw [decide_eq_false_iff_not]; omega
            have f4 : ((c : Int) == 0) = true := by simp; omega
            have f5 : decide (0 < m) = true := by rw [decide_eq_true_eq]; have := HM.out; omega
            have HN : Hid (readI (bs.drop at_) = none) := read_none HE.out HDR.out (by rw [hc1]; omega)
            clear q9 q1 q0
            go_wp2_with fail
            rw [HN.out]
            exact ⟨rfl, grown_trans HG.out G1.out, rfl⟩
          · obtain ⟨D, a2, e2, e22, e3, h2, ha2⟩ := digit_facts hk HA.out HM.out hc256 (by omega)
            have HA2 := Lib.hid ha2
            clear ha2
            have f1 : ((m : Int) == 63) = true := by have := HM.out; simp; omega
            have f2 : decide ((1 : Int) < (c : Int)) = false := by rw [decide_eq_false_iff_not]; omega
            have f3 : decide ((128 : Int) ≤ (c : Int)) = false := by rw [decide_eq_false_iff_not]; omega
            have f4 : ((c : Int) == 0) = false := by simp; omega
            have HN : Hid (readI (bs.drop at_) = some (unnum a2, bs.drop (at_ + k + 1))) := read_some HE.out HDR.out (by rw [hc1]; omega) (by rw [hc1, HA2.out, Nat.mod_eq_of_lt (show c < 128 by omega), Nat.mul_comm])
            clear q9 q1 q0
            have IO := Lib.hid (fun w => integerOf_any a2 h2 w)
            go_wp2_with (go_at_call 45; refine (IO.out _).mono ?_; rintro e w2 ⟨rfl, rfl⟩)
            go_ret
            rw [HN.out]
            exact ⟨grown_trans HG.out G1.out, rfl, by rw [List.length_drop, hbl, show n - (n - (at_ + k + 1)) = at_ + k + 1 by omega]; exact R1.out, by rw [List.length_drop]; omega⟩
      · by_cases qb : 128 ≤ c
        · have QB := Lib.hid qb
          obtain ⟨D, a2, e2, e22, e3, h2, ha2⟩ := digit_facts hk HA.out HM.out hc256 (by omega)
          have HA2 := Lib.hid ha2
          clear ha2
          have f1 : ((m : Int) == 63) = false := by have := HM.out; simp; omega
          have f3 : decide ((128 : Int) ≤ (c : Int)) = true := by rw [decide_eq_true_eq]; omega
          have hK : k + 1 ≤ 9 ∧ at_ + (k + 1) ≤ n := by omega
          have hq9 : k ≠ 9 := q9
          clear q9 qb
          have HX : Hid (a2 < 128 ^ (k + 1)) := by
            have h1 := HA.out
            have h3 : c % 128 * 128 ^ k ≤ 127 * 128 ^ k := Nat.mul_le_mul_right _ (by omega)
            show a2 < 128 ^ (k + 1)
            rw [HA2.out, Nat.pow_succ]; omega
          have HE2 : Hid (readN 0 (bs.drop at_) = (readN (k + 1) (bs.drop (at_ + (k + 1)))).map fun p => (a2 + 128 ^ (k + 1) * p.1, p.2)) := read_more HE.out HDR.out hq9 (by rw [hc1]; exact QB.out) (by rw [hc1, HA2.out, show c % 128 = c - 128 by have := QB.out; omega, Nat.mul_comm])
          go_wp2_with fail
          go_roundw
          case rel => exact ⟨k + 1, a2, m + 7, hK.1, by have := HM.out; omega, congrArg (Value.int .i64) (wrap64_seven (by have := HM.out; omega)), rfl, HX.out, hK.2, HE2.out, grown_trans HG.out G1.out, R1.out, Row8.grown HRow.out (Nat.le_refl _) G1.out (fun _ q e => by injection e with e; subst e; exact hgn)⟩
          case measure =>
            have hm63 : m ≤ 63 := by have := HM.out; omega
            rw [wrap64_seven hm63]
            exact measure_seven hm63
        · by_cases q0 : c = 0
          · by_cases qk : 0 < k
            · obtain ⟨D, a2, e2, e22, e3, h2, ha2⟩ := digit_facts hk HA.out HM.out hc256 (by omega)
              have HA2 := Lib.hid ha2
              clear ha2
              have f1 : ((m : Int) == 63) = false := by have := HM.out; simp; omega
              have f3 : decide ((128 : Int) ≤ (c : Int)) = false := by rw [decide_eq_false_iff_not]; omega
              have f4 : ((c : Int) == 0) = true := by simp; omega
              have f5 : decide (0 < m) = true := by rw [decide_eq_true_eq]; have := HM.out; omega
              have HN : Hid (readI (bs.drop at_) = none) := read_none HE.out HDR.out (by rw [hc1]; omega)
              clear q9 qb q0 qk
              go_wp2_with fail
              rw [HN.out]
              exact ⟨rfl, grown_trans HG.out G1.out, rfl⟩
            · obtain ⟨D, a2, e2, e22, e3, h2, ha2⟩ := digit_facts hk HA.out HM.out hc256 (by omega)
              have HA2 := Lib.hid ha2
              clear ha2
              have f1 : ((m : Int) == 63) = false := by have := HM.out; simp; omega
              have f3 : decide ((128 : Int) ≤ (c : Int)) = false := by rw [decide_eq_false_iff_not]; omega
              have f4 : ((c : Int) == 0) = true := by simp; omega
              have f5 : decide (0 < m) = false := by rw [decide_eq_false_iff_not]; have := HM.out; omega
              have HN : Hid (readI (bs.drop at_) = some (unnum a2, bs.drop (at_ + k + 1))) := read_some HE.out HDR.out (by rw [hc1]; omega) (by rw [hc1, HA2.out, Nat.mod_eq_of_lt (show c < 128 by omega), Nat.mul_comm])
              clear q9 qb q0 qk
              have IO := Lib.hid (fun w => integerOf_any a2 h2 w)
              go_wp2_with (go_at_call 45; refine (IO.out _).mono ?_; rintro e w2 ⟨rfl, rfl⟩)
              go_ret
              rw [HN.out]
              exact ⟨grown_trans HG.out G1.out, rfl, by rw [List.length_drop, hbl, show n - (n - (at_ + k + 1)) = at_ + k + 1 by omega]; exact R1.out, by rw [List.length_drop]; omega⟩
          · obtain ⟨D, a2, e2, e22, e3, h2, ha2⟩ := digit_facts hk HA.out HM.out hc256 (by omega)
            have HA2 := Lib.hid ha2
            clear ha2
            have f1 : ((m : Int) == 63) = false := by have := HM.out; simp; omega
            have f3 : decide ((128 : Int) ≤ (c : Int)) = false := by rw [decide_eq_false_iff_not]; omega
            have f4 : ((c : Int) == 0) = false := by simp; omega
            have HN : Hid (readI (bs.drop at_) = some (unnum a2, bs.drop (at_ + k + 1))) := read_some HE.out HDR.out (by rw [hc1]; omega) (by rw [hc1, HA2.out, Nat.mod_eq_of_lt (show c < 128 by omega), Nat.mul_comm])
            clear q9 qb q0
            have IO := Lib.hid (fun w => integerOf_any a2 h2 w)
            go_wp2_with (go_at_call 45; refine (IO.out _).mono ?_; rintro e w2 ⟨rfl, rfl⟩)
            go_ret
            rw [HN.out]
            exact ⟨grown_trans HG.out G1.out, rfl, by rw [List.length_drop, hbl, show n - (n - (at_ + k + 1)) = at_ + k + 1 by omega]; exact R1.out, by rw [List.length_drop]; omega⟩
    · obtain rfl : at_ + k = n := by omega
      have T := Lib.hid (take_no g A (at_ + k) cap (at_ + k) 1 wr HRd.out hn (by omega) (by omega) (by omega))
      have HN : Hid (readI (bs.drop at_) = none) := by
        have h1 : bs.drop (at_ + k) = [] := List.drop_of_length_le (by omega)
        have := HE.out
        rw [h1] at this
        show readI _ = none
        rw [readI, this]; rfl
      go_wp2_with (go_at_call 41; refine T.out.mono ?_; rintro e w1 ⟨rfl, b1⟩)
      rw [HN.out]
      exact ⟨rfl, grown_trans HG.out (grown_none b1 g), rfl⟩
end Go.Proofs.Ytdambggcaimndaa
