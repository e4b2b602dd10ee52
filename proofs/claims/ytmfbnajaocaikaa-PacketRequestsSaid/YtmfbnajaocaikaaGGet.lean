/- Layer 4's own functions (gen/from_s04g.py): take, integer, list, whole, attempt, Get. -/
import Derived.Deep.RegionLaw
import Derived.Deep.QuietTactic
import Derived.BigQuiet
import Derived.WalkSmall
import Derived.OwnWalk
import Derived.Tactics
import Derived.Tactics2
import Derived.Defers
import Derived.Recover
import Derived.Laws.Pointers
import Derived.Test.YtmfbnajaocaikaaGInt
namespace Go.Proofs.Ytmfbnajaocaikaa
open Go.RowKit Go.Sort Go
set_option linter.unusedVariables false
set_option linter.unusedSimpArgs false
/-- A reader lies in block g: over a slice, at a place. -/
def Rd (w : World) (g : Nat) (A : Option Addr) (n cap at_ : Nat) : Prop := w.heap[g]? = some (.cells #[.slice A n cap, .int .i64 at_] 85 (0, 0))
/-- The panic with ErrForm. -/
def form : List PanicEntry := [{ v := .iface 33 (.int .i64 7), recovered := false }]
theorem Rd.lt {w : World} {g : Nat} {A : Option Addr} {n cap at_ : Nat} (h : Rd w g A n cap at_) : g < w.heap.size := (Array.getElem?_eq_some_iff.1 h).1
theorem Rd.c0 {w : World} {g : Nat} {A : Option Addr} {n cap at_ : Nat} (h : Rd w g A n cap at_) : w.cell? ⟨g, 0, none⟩ = some (.slice A n cap) := by
  unfold Rd at h; simp [World.cell?, h]
theorem Rd.c1 {w : World} {g : Nat} {A : Option Addr} {n cap at_ : Nat} (h : Rd w g A n cap at_) : w.cell? ⟨g, 1, none⟩ = some (.int .i64 at_) := by
  unfold Rd at h; simp [World.cell?, h]
theorem Rd.fz {w : World} {g : Nat} {A : Option Addr} {n cap at_ : Nat} (h : Rd w g A n cap at_) (o : Nat) : w.frozen? ⟨g, o, none⟩ = false := by
  unfold Rd at h; simp [World.frozen?, h]
theorem take_no (g : Nat) (A : Option Addr) (n cap at_ k : Nat) (w : World) (h : Rd w g A n cap at_) (hn : n ≤ 1000000000) (ha : at_ ≤ n) (hk : n - at_ < k) (hk2 : k ≤ 1000000000) :
    Calls Try.prog 60 #[.pointer (some ⟨g, 0, none⟩), .int .i64 k] w fun e w' => e = .panicked form ∧ w.grownBy w' none := by
  have c0 := h.c0
  have c1 := h.c1
  clear h
  have e1 : IntKind.i64.wrap ((n : Int) - (at_ : Int)) = (n : Int) - at_ := IntWalk.i64_in _ (by omega)
  have e2 : decide ((n : Int) - at_ < (k : Int)) = true := by rw [decide_eq_true_eq]; omega
  go_enter Try.func60, Try.ntmps60
  go_wp2_with fail
  go_region
  go_wp2_with fail
  exact ⟨rfl, rfl, rfl, rfl, rfl, Nat.le_refl _, fun _ _ _ => rfl⟩
theorem Rd.set {w : World} {g : Nat} {A : Option Addr} {n cap at_ : Nat} (h : Rd w g A n cap at_) (m : Nat) : Rd (w.setCell ⟨g, 1, none⟩ (.int .i64 m)) g A n cap m := by
  unfold Rd at h ⊢
  have hl := (Array.getElem?_eq_some_iff.1 h).1
  show (w.heap.modify g _)[g]? = _
  rw [Array.getElem?_modify, if_pos rfl, h]
  rfl
theorem grown_set (w : World) (g o : Nat) (v : Value) : w.grownBy (w.setCell ⟨g, o, none⟩ v) (some g) :=
  ⟨rfl, rfl, rfl, by simp [World.setCell], fun k hk hne => Below.heap_setCell _ _ _ _ (fun e => hne (by rw [e]))⟩
theorem take_ok (g : Nat) (p : Addr) (n cap at_ k : Nat) (w : World) (h : Rd w g (some p) n cap at_) (hn : n ≤ 1000000000) (hc : n ≤ cap) (hk : at_ + k ≤ n) :
    Calls Try.prog 60 #[.pointer (some ⟨g, 0, none⟩), .int .i64 k] w fun e w' => ∃ q, e = .returned (.slice (some q) k k) ∧ (q = p.add at_ ∨ k = 0) ∧ w.grownBy w' (some g) ∧ Rd w' g (some p) n cap (at_ + k : Nat) ∧ q.block = p.block := by
  have c0 := h.c0
  have c1 := h.c1
  have f1 := h.fz 1
  have HR := Lib.hid (h.set (at_ + k))
  have e0 : ((at_ + k : Nat) : Int) = (at_ : Int) + k := by omega
  rw [e0] at HR
  clear h e0
  have e1 : IntKind.i64.wrap ((n : Int) - (at_ : Int)) = (n : Int) - at_ := IntWalk.i64_in _ (by omega)
  have e2 : decide ((n : Int) - at_ < (k : Int)) = false := by rw [decide_eq_false_iff_not]; omega
  have e3 : IntKind.i64.wrap ((at_ : Int) + (k : Int)) = (at_ : Int) + k := IntWalk.i64_in _ (by omega)
  have HG := Lib.hid (grown_set w g 1 (.int .i64 ((at_ : Int) + k)))
  rcases Nat.eq_zero_or_pos k with rfl | hk0
  · simp only [Int.natCast_zero, Int.add_zero, Nat.add_zero] at HR HG e3
    go_enter Try.func60, Try.ntmps60
    go_wp2_with fail
    go_region
    go_wp2_with fail
    go_region
    go_wp2_with fail
    go_ret
    exact ⟨p, rfl, .inr trivial, ⟨HG.out.os, HG.out.tape, HG.out.output, HG.out.size, HG.out.block⟩, HR.out, rfl⟩
  · have hk1 : ¬ k = 0 := by omega
    have hk2 : ¬ at_ + k = at_ := by omega
    have hk3 : at_ + k - at_ = k := by omega
    go_enter Try.func60, Try.ntmps60
    go_wp2_with fail
    go_region
    go_wp2_with fail
    go_region
    go_wp2_with fail
    go_ret
    refine ⟨p.add at_, congrArg Ending.returned (by show Value.slice _ (at_ + k - at_) (at_ + k - at_) = _; rw [hk3]), .inl rfl, ⟨HG.out.os, HG.out.tape, HG.out.output, HG.out.size, HG.out.block⟩, HR.out, block_of_add _ _⟩
theorem RowV.grown {B : Nat} {w w' : World} {A : Option Addr} {len : Nat} {f : Nat → Value} {g : Nat} (h : RowV B w A len f) (hB : B ≤ w.heap.size) (hg : w.grownBy w' (some g)) (hne : 0 < len → ∀ p, A = some p → p.block ≠ g) : RowV w'.heap.size w' A len f :=
  fun hn => by
    obtain ⟨p, e, hp, hc⟩ := h hn
    refine ⟨p, e, Nat.lt_of_lt_of_le (Nat.lt_of_lt_of_le hp hB) hg.size, fun i hi => (World.cell?_of_block (hg.block _ (by rw [block_of_add]; omega) ?_)).trans (hc i hi)⟩
    rw [block_of_add]
    intro e2
    injection e2 with e2
    exact hne hn p e e2
theorem Row8.grown {B : Nat} {w w' : World} {A : Option Addr} {len : Nat} {bs : List UInt8} {g : Nat} (h : Row8 B w A len bs) (hB : B ≤ w.heap.size) (hg : w.grownBy w' (some g)) (hne : 0 < len → ∀ p, A = some p → p.block ≠ g) : Row8 w'.heap.size w' A len bs :=
  ⟨h.1, RowV.grown h.2 hB hg hne⟩
theorem grown_none {w w' : World} (h : w.grownBy w' none) (g : Nat) : w.grownBy w' (some g) := ⟨h.os, h.tape, h.output, h.size, fun i hi _ => h.block i hi (by simp)⟩
/-- An integer has been read, and the reader stands behind it; or the panic with ErrForm. -/
def ReadEnd (g : Nat) (A : Option Addr) (n cap : Nat) (o : Option (Int × List UInt8)) (w : World) (e : Ending) (w' : World) : Prop :=
  w.grownBy w' (some g) ∧ match o with
    | some (x, r) => e = .returned (.int .i64 x) ∧ Rd w' g A n cap (n - r.length) ∧ r.length ≤ n
    | none => e = .panicked form
theorem grown_trans {a b c : World} {row : Option Nat} (h : a.grownBy b row) (k : b.grownBy c row) : a.grownBy c row :=
  ⟨k.os.trans h.os, k.tape.trans h.tape, k.output.trans h.output, Nat.le_trans h.size k.size, fun i hi hne => (k.block i (Nat.lt_of_lt_of_le hi h.size) hne).trans (h.block i hi hne)⟩
theorem digit_facts {a k m c : Nat} (hk : k ≤ 9) (ha : a < 128 ^ k) (hm : m = 7 * k) (hc : c < 256) (h9 : k = 9 → c ≤ 1) :
    ∃ D a2 : Nat, IntKind.u64.wrap ((c : Int) % 128 * 2 ^ min m 64) = (D : Int) ∧ IntKind.u64.wrap ((c : Int) % 128 * 2 ^ m) = (D : Int) ∧ bits .or .u64 (a : Int) (D : Int) = (a2 : Int) ∧ a2 < 18446744073709551616 ∧ a2 = a + c % 128 * 128 ^ k := by
  obtain ⟨h1, h2, h3⟩ := digit_more (d := c % 128) hk ha (by omega) (fun h => by have := h9 h; omega)
  have e9 : min m 64 = m := Nat.min_eq_left (by omega)
  have key : IntKind.u64.wrap ((c : Int) % 128 * 2 ^ min m 64) = ((c % 128 * 128 ^ k : Nat) : Int) := ?_
  · exact ⟨c % 128 * 128 ^ k, a + c % 128 * 128 ^ k, key, by rw [e9] at key; exact key, h1, h2, rfl⟩
  have e : 128 ^ k = 2 ^ min m 64 := by rw [Nat.min_eq_left (by omega), hm, Nat.pow_mul]
  rw [e] at h3 ⊢
  have e5 : (c : Int) % 128 * (2 : Int) ^ min m 64 = ((c % 128 * 2 ^ min m 64 : Nat) : Int) := by
    rw [Int.natCast_mul, Int.natCast_pow]; rfl
  rw [e5, IntKind.wrap_u64]
  generalize c % 128 * 2 ^ min m 64 = X at h3 ⊢
  omega
theorem wrap64_seven {m : Nat} (h : m ≤ 63) : wrap64 ((m : Int) + 7) = ((m + 7 : Nat) : Int) := by
  rw [IntWalk.wrap64_in _ (by omega)]; omega
theorem measure_seven {m : Nat} (h : m ≤ 63) : 100 - (intOf (Value.int .i64 ((m + 7 : Nat) : Int))).toNat < 100 - (intOf (Value.int .i64 (m : Int))).toNat := by
  show 100 - (((m + 7 : Nat) : Int)).toNat < 100 - ((m : Int)).toNat
  omega
set_option maxHeartbeats 1000000 in
theorem integer_any (g : Nat) (A : Option Addr) (n cap at_ : Nat) (bs : List UInt8) (w : World) (h : Rd w g A n cap at_) (hr : Row8 w.heap.size w A n bs) (hp : 0 < n → ∀ p, A = some p → p.block ≠ g) (hn : n ≤ 1000000000) (hc : n ≤ cap) (ha : at_ ≤ n) :
    Calls Try.prog 59 #[.pointer (some ⟨g, 0, none⟩)] w (ReadEnd g A n cap (readI (bs.drop at_)) w) := by
  have HR := Lib.hid hr
  have HP := Lib.hid hp
  have HD := Lib.hid h
  clear h hr hp
  go_enter Try.func59, Try.ntmps59
  go_wp2_with fail
  go_loopw [3, 4] (fun s i wr => ∃ k a m : Nat, k ≤ 9 ∧ m = 7 * k ∧ i = .int .i64 m ∧ s = .int .u64 a ∧ Hid (a < 128 ^ k) ∧ at_ + k ≤ n ∧ Hid (readN 0 (bs.drop at_) = (readN k (bs.drop (at_ + k))).map fun p => (a + 128 ^ k * p.1, p.2)) ∧ Hid (w.grownBy wr (some g)) ∧ Hid (Rd wr g A n cap (at_ + k)) ∧ Hid (Row8 wr.heap.size wr A n bs)) (fun _ i _ => 100 - (intOf i).toNat)
  case atStart => exact ⟨0, 0, 0, by omega, rfl, rfl, rfl, (by show 0 < 128 ^ 0; decide), ha, (by show _ = _; simp), World.grownBy.refl _ _, HD.out, HR.out⟩
  case round =>
    obtain ⟨k, a, m, hk, hm, rfl, rfl, HA, hak, HE, HG, HRd, HRow⟩ := hrel
    have hbl := HRow.out.1
    have HM := Lib.hid hm
    clear hm
    by_cases hlt : at_ + k < n
    · obtain ⟨p, rfl, hpb, hcell⟩ := HRow.out.2 (by omega)
      have T := Lib.hid (take_ok g p n cap (at_ + k) 1 wr HRd.out hn hc (by omega))
      have hcell0 : wr.cell? (p.add (at_ + k)) = some (.int .u8 ((bs.getD (at_ + k) 0).toNat : Int)) := hcell (at_ + k) hlt
      generalize hc0 : (bs.getD (at_ + k) 0) = c0 at hcell0
      have hdrop := drop_cons bs 0 (at_ + k) (by omega)
      rw [hc0] at hdrop
      have HDR := Lib.hid hdrop
      have hc256 := u8_lt c0
      have hgn : p.block ≠ g := HP.out (by omega) p rfl
      clear hcell hdrop hc0 hpb
      have hcc : ∀ w', wr.grownBy w' (some g) → w'.cell? (p.add (at_ + k)) = some (.int .u8 (c0.toNat : Int)) := fun w' hg => by
        have hlt2 : p.block < wr.heap.size := by
          obtain ⟨p', e, hb, _⟩ := HRow.out.2 (by omega)
          injection e with e
          subst e
          exact hb
        refine (World.cell?_of_block (hg.block _ (by rw [block_of_add]; exact hlt2) ?_)).trans hcell0
        rw [block_of_add]
        intro e2
        injection e2 with e2
        exact hgn e2
      have HCC := Lib.hid hcc
      clear hcc hcell0
      generalize hc1 : c0.toNat = c at HCC hc256
      go_wp2_with (go_at_call 60; refine T.out.mono ?_; rintro e w1 ⟨q, rfl, hq, b1, r1, hqb⟩; clear hqb; obtain rfl : q = p.add (at_ + k) := hq.resolve_right (by omega); have hx := HCC.out w1 b1; clear hq; refine Hid.out ?_)
      refine Lib.hid ?_
      have G1 := Lib.hid b1
      have R1 := Lib.hid r1
      clear b1 r1
      have e1 : IntKind.u64.wrap ((c : Int) % 128) = (c : Int) % 128 := by rw [IntKind.wrap_u64]; omega
      by_cases q9 : k = 9
      · by_cases q1 : 1 < c
        · have f1 : ((m : Int) == 63) = true := by have := HM.out; simp; omega
          have f2 : decide ((1 : Int) < (c : Int)) = true := by rw [decide_eq_true_eq]; omega
          have HN : Hid (readI (bs.drop at_) = none) := read_none HE.out HDR.out (by rw [hc1]; omega)
          clear q9 q1
          go_wp2_with fail
          rw [HN.out]
          exact ⟨rfl, grown_trans HG.out G1.out, rfl⟩
        · by_cases q0 : c = 0
          · obtain ⟨D, a2, e2, e22, e3, h2, ha2⟩ := digit_facts hk HA.out HM.out hc256 (by omega)
            have HA2 := Lib.hid ha2
            clear ha2
            have f1 : ((m : Int) == 63) = true := by have := HM.out; simp; omega
            have f2 : decide ((1 : Int) < (c : Int)) = false := by rw [decide_eq_false_iff_not]; omega
            have f3 : decide ((128 : Int) ≤ (c : Int)) = false := by rw [decide_eq_false_iff_not]; omega
            have f4 : ((c : Int) == 0) = true := by simp; omega
            have f5 : decide (0 < m) = true := by rw [decide_eq_true_eq]; have := HM.out; omega
            have HN : Hid (readI (bs.drop at_) = none) := read_none HE.out HDR.out (by rw [hc1]; omega)
            clear q9 q1 q0
            go_wp2_with fail
            rw [HN.out]
            exact ⟨rfl, grown_trans HG.out G1.out, rfl⟩
          · obtain ⟨D, a2, e2, e22, e3, h2, ha2⟩ := digit_facts hk HA.out HM.out hc256 (by omega)
            have HA2 := Lib.hid ha2
            clear ha2
            have f1 : ((m : Int) == 63) = true := by have := HM.out; simp; omega
            have f2 : decide ((1 : Int) < (c : Int)) = false := by rw [decide_eq_false_iff_not]; omega
            have f3 : decide ((128 : Int) ≤ (c : Int)) = false := by rw [decide_eq_false_iff_not]; omega
            have f4 : ((c : Int) == 0) = false := by simp; omega
            have HN : Hid (readI (bs.drop at_) = some (unnum a2, bs.drop (at_ + k + 1))) := read_some HE.out HDR.out (by rw [hc1]; omega) (by rw [hc1, HA2.out, Nat.mod_eq_of_lt (show c < 128 by omega), Nat.mul_comm])
            clear q9 q1 q0
            have IO := Lib.hid (fun w => integerOf_any a2 h2 w)
            go_wp2_with (go_at_call 61; refine (IO.out _).mono ?_; rintro e w2 ⟨rfl, rfl⟩)
            go_ret
            rw [HN.out]
            exact ⟨grown_trans HG.out G1.out, rfl, by rw [List.length_drop, hbl, show n - (n - (at_ + k + 1)) = at_ + k + 1 by omega]; exact R1.out, by rw [List.length_drop]; omega⟩
      · by_cases qb : 128 ≤ c
        · have QB := Lib.hid qb
          obtain ⟨D, a2, e2, e22, e3, h2, ha2⟩ := digit_facts hk HA.out HM.out hc256 (by omega)
          have HA2 := Lib.hid ha2
          clear ha2
          have f1 : ((m : Int) == 63) = false := by have := HM.out; simp; omega
          have f3 : decide ((128 : Int) ≤ (c : Int)) = true := by rw [decide_eq_true_eq]; omega
          have hK : k + 1 ≤ 9 ∧ at_ + (k + 1) ≤ n := by omega
          have hq9 : k ≠ 9 := q9
          clear q9 qb
          have HX : Hid (a2 < 128 ^ (k + 1)) := by
            have h1 := HA.out
            have h3 : c % 128 * 128 ^ k ≤ 127 * 128 ^ k := Nat.mul_le_mul_right _ (by omega)
            show a2 < 128 ^ (k + 1)
            rw [HA2.out, Nat.pow_succ]; omega
          have HE2 : Hid (readN 0 (bs.drop at_) = (readN (k + 1) (bs.drop (at_ + (k + 1)))).map fun p => (a2 + 128 ^ (k + 1) * p.1, p.2)) := read_more HE.out HDR.out hq9 (by rw [hc1]; exact QB.out) (by rw [hc1, HA2.out, show c % 128 = c - 128 by have := QB.out; omega, Nat.mul_comm])
          go_wp2_with fail
          go_roundw
          case rel => exact ⟨k + 1, a2, m + 7, hK.1, by have := HM.out; omega, congrArg (Value.int .i64) (wrap64_seven (by have := HM.out; omega)), rfl, HX.out, hK.2, HE2.out, grown_trans HG.out G1.out, R1.out, Row8.grown HRow.out (Nat.le_refl _) G1.out (fun _ q e => by injection e with e; subst e; exact hgn)⟩
          case measure =>
            have hm63 : m ≤ 63 := by have := HM.out; omega
            rw [wrap64_seven hm63]
            exact measure_seven hm63
        · by_cases q0 : c = 0
          · by_cases qk : 0 < k
            · obtain ⟨D, a2, e2, e22, e3, h2, ha2⟩ := digit_facts hk HA.out HM.out hc256 (by omega)
              have HA2 := Lib.hid ha2
              clear ha2
              have f1 : ((m : Int) == 63) = false := by have := HM.out; simp; omega
              have f3 : decide ((128 : Int) ≤ (c : Int)) = false := by rw [decide_eq_false_iff_not]; omega
              have f4 : ((c : Int) == 0) = true := by simp; omega
              have f5 : decide (0 < m) = true := by rw [decide_eq_true_eq]; have := HM.out; omega
              have HN : Hid (readI (bs.drop at_) = none) := read_none HE.out HDR.out (by rw [hc1]; omega)
              clear q9 qb q0 qk
              go_wp2_with fail
              rw [HN.out]
              exact ⟨rfl, grown_trans HG.out G1.out, rfl⟩
            · obtain ⟨D, a2, e2, e22, e3, h2, ha2⟩ := digit_facts hk HA.out HM.out hc256 (by omega)
              have HA2 := Lib.hid ha2
              clear ha2
              have f1 : ((m : Int) == 63) = false := by have := HM.out; simp; omega
              have f3 : decide ((128 : Int) ≤ (c : Int)) = false := by rw [decide_eq_false_iff_not]; omega
              have f4 : ((c : Int) == 0) = true := by simp; omega
              have f5 : decide (0 < m) = false := by rw [decide_eq_false_iff_not]; have := HM.out; omega
              have HN : Hid (readI (bs.drop at_) = some (unnum a2, bs.drop (at_ + k + 1))) := read_some HE.out HDR.out (by rw [hc1]; omega) (by rw [hc1, HA2.out, Nat.mod_eq_of_lt (show c < 128 by omega), Nat.mul_comm])
              clear q9 qb q0 qk
              have IO := Lib.hid (fun w => integerOf_any a2 h2 w)
              go_wp2_with (go_at_call 61; refine (IO.out _).mono ?_; rintro e w2 ⟨rfl, rfl⟩)
              go_ret
              rw [HN.out]
              exact ⟨grown_trans HG.out G1.out, rfl, by rw [List.length_drop, hbl, show n - (n - (at_ + k + 1)) = at_ + k + 1 by omega]; exact R1.out, by rw [List.length_drop]; omega⟩
          · obtain ⟨D, a2, e2, e22, e3, h2, ha2⟩ := digit_facts hk HA.out HM.out hc256 (by omega)
            have HA2 := Lib.hid ha2
            clear ha2
            have f1 : ((m : Int) == 63) = false := by have := HM.out; simp; omega
            have f3 : decide ((128 : Int) ≤ (c : Int)) = false := by rw [decide_eq_false_iff_not]; omega
            have f4 : ((c : Int) == 0) = false := by simp; omega
            have HN : Hid (readI (bs.drop at_) = some (unnum a2, bs.drop (at_ + k + 1))) := read_some HE.out HDR.out (by rw [hc1]; omega) (by rw [hc1, HA2.out, Nat.mod_eq_of_lt (show c < 128 by omega), Nat.mul_comm])
            clear q9 qb q0
            have IO := Lib.hid (fun w => integerOf_any a2 h2 w)
            go_wp2_with (go_at_call 61; refine (IO.out _).mono ?_; rintro e w2 ⟨rfl, rfl⟩)
            go_ret
            rw [HN.out]
            exact ⟨grown_trans HG.out G1.out, rfl, by rw [List.length_drop, hbl, show n - (n - (at_ + k + 1)) = at_ + k + 1 by omega]; exact R1.out, by rw [List.length_drop]; omega⟩
    · obtain rfl : at_ + k = n := by omega
      have T := Lib.hid (take_no g A (at_ + k) cap (at_ + k) 1 wr HRd.out hn (by omega) (by omega) (by omega))
      have HN : Hid (readI (bs.drop at_) = none) := by
        have h1 : bs.drop (at_ + k) = [] := List.drop_of_length_le (by omega)
        have := HE.out
        rw [h1] at this
        show readI _ = none
        rw [readI, this]; rfl
      go_wp2_with (go_at_call 60; refine T.out.mono ?_; rintro e w1 ⟨rfl, b1⟩)
      rw [HN.out]
      exact ⟨rfl, grown_trans HG.out (grown_none b1 g), rfl⟩
/-- A list has been read, and the reader stands behind it; or the panic with ErrForm. -/
def ListEnd (g : Nat) (A : Option Addr) (n cap : Nat) (o : Option (List Int × List UInt8)) (w : World) (e : Ending) (w' : World) : Prop :=
  w.grownBy w' (some g) ∧ match o with
    | some (l, r) => ∃ v, e = .returned v ∧ OwnI w.heap.size w' v l ∧ Rd w' g A n cap (n - r.length) ∧ r.length ≤ n
    | none => e = .panicked form
theorem grown_own {a b c : World} {g : Nat} {row : Option Nat} (h : a.grownBy b (some g)) (k : b.grownBy c row) (hr : ∀ j, row = some j → a.heap.size ≤ j) : a.grownBy c (some g) :=
  ⟨k.os.trans h.os, k.tape.trans h.tape, k.output.trans h.output, Nat.le_trans h.size k.size, fun i hi hne => (k.block i (Nat.lt_of_lt_of_le hi h.size) (fun e => by have := hr i e.symm; omega)).trans (h.block i hi hne)⟩
theorem Rd.keep {a b : World} {g : Nat} {A : Option Addr} {n cap at_ : Nat} {row : Option Nat} (h : Rd a g A n cap at_) (k : a.grownBy b row) (hr : ∀ j, row = some j → g < j) : Rd b g A n cap at_ :=
  (k.block g h.lt (fun e => by have := hr g e.symm; omega)).trans h
theorem OwnI.keep {a b : World} {B g : Nat} {v : Value} {zs : List Int} (h : OwnI B a v zs) (k : a.grownBy b (some g)) (hg : g < B) : OwnI B b v zs := by
  refine World.ownsRow.kept h k (.inr fun e => ?_)
  have := (World.ownsRow.lt h g e).1
  omega
set_option maxHeartbeats 2000000 in
theorem list_any (g : Nat) (A : Option Addr) (n cap at_ : Nat) (bs : List UInt8) (w : World) (h : Rd w g A n cap at_) (hr : Row8 w.heap.size w A n bs) (hp : 0 < n → ∀ p, A = some p → p.block ≠ g) (hn : n ≤ 1000000000) (hc : n ≤ cap) (ha : at_ ≤ n) :
    Calls Try.prog 56 #[.pointer (some ⟨g, 0, none⟩)] w (ListEnd g A n cap (readL (bs.drop at_)) w) := by
  obtain ⟨i0, hi, hz0, hz1, hz2⟩ := info_parts info_int
  have hgl := h.lt
  have hbl := hr.1
  have T := integer_any g A n cap at_ bs w h hr hp hn hc ha
  have HR := Lib.hid hr
  have HP := Lib.hid hp
  clear h hr hp
  cases hq : readI (bs.drop at_) with
  | none =>
    have HN : Hid (readL (bs.drop at_) = none) := by show readL _ = none; rw [readL, hq]
    rw [hq] at T
    have T := Lib.hid T
    clear hq
    go_enter Try.func56, Try.ntmps56
    go_wp2_with (go_at_call 59; refine T.out.mono ?_; rintro e w1 ⟨b1, rfl⟩)
    rw [HN.out]
    exact ⟨rfl, b1, rfl⟩
  | some p =>
    obtain ⟨c, r⟩ := p
    obtain ⟨er, hrl, hci⟩ := readI_drop hq
    rw [hbl] at er hrl
    rw [hq] at T
    have T := Lib.hid T
    by_cases hcc : c < 0 ∨ 1000 < c
    · have HN : Hid (readL (bs.drop at_) = none) := by show readL _ = none; rw [readL, hq]; simp only; rw [if_pos hcc]
      clear hq er hci
      by_cases hc0 : c < 0
      · have f1 : decide (c < 0) = true := by simpa using hc0
        clear hcc
        go_enter Try.func56, Try.ntmps56
        go_wp2_with (go_at_call 59; refine T.out.mono ?_; rintro e w1 ⟨b1, rfl, r1, hl1⟩)
        rw [HN.out]
        exact ⟨rfl, b1, rfl⟩
      · have f1 : decide (c < 0) = false := by simpa using hc0
        have f2 : decide (1000 < c) = true := by rw [decide_eq_true_eq]; omega
        clear hcc hc0
        go_enter Try.func56, Try.ntmps56
        go_wp2_with (go_at_call 59; refine T.out.mono ?_; rintro e w1 ⟨b1, rfl, r1, hl1⟩)
        rw [HN.out]
        exact ⟨rfl, b1, rfl⟩
    · have HL : Hid (readL (bs.drop at_) = readM c.toNat r) := by show readL _ = _; rw [readL, hq]; simp only; rw [if_neg hcc]
      obtain ⟨N, rfl⟩ : ∃ N : Nat, c = (N : Int) := ⟨c.toNat, by omega⟩
      rw [Int.toNat_natCast] at HL
      have f1 : decide ((N : Int) < 0) = false := by rw [decide_eq_false_iff_not]; omega
      have f2 : decide ((1000 : Int) < (N : Int)) = false := by rw [decide_eq_false_iff_not]; omega
      have hN : N ≤ 1000 := by omega
      have HER := Lib.hid er
      clear hq hci hcc er
      go_enter Try.func56, Try.ntmps56
      go_wp2_with (go_at_call 59; refine T.out.mono ?_; rintro e w1 ⟨b1, rfl, r1, hl1⟩; refine Hid.out ?_)
      refine Lib.hid ?_
      have B1 := Lib.hid b1
      have R1 := Lib.hid r1
      have hsz1 := b1.size
      clear b1 r1 hl1
      go_wp2_with (at_make; refine wpList_make_own _ rfl _ _ 62 rfl w.heap.size 3 i0 (.int .i64 0) 1 Try.underlying62 hi hz0 hz1 .i64 .i64 _ N rfl rfl rfl (by rw [hz2]; omega) (by unfold maxLen; omega) hsz1 ?_; refine Hid.out ?_)
      refine Lib.hid ?_
      intro w2 own2 gr2
      have HO : Hid (OwnI w.heap.size w2 (.slice (some ⟨w1.heap.size, 0, none⟩) 0 N) []) := own2
      have HB : Hid (w.grownBy w2 (some g)) := grown_own B1.out gr2 (fun j e => by cases e)
      have R2 : Hid (Rd w2 g A n cap (n - r.length)) := R1.out.keep gr2 (fun j e => by cases e)
      clear own2 gr2
      go_wp2_with fail
      go_loopw [4, 17] (fun v i wr => ∃ (k at2 : Nat) (zs : List Int), k ≤ N ∧ i = .int .i64 k ∧ zs.length = k ∧ at2 ≤ n ∧ Hid (OwnI w.heap.size wr v zs) ∧ Hid (readM N r = (readM (N - k) (bs.drop at2)).map fun p => (zs ++ p.1, p.2)) ∧ Hid (w.grownBy wr (some g)) ∧ Hid (Rd wr g A n cap at2)) (fun _ i _ => N - (intOf i).toNat)
      case atStart =>
        refine ⟨0, n - r.length, [], by omega, rfl, rfl, by omega, HO.out, ?_, HB.out, R2.out⟩
        show _ = _
        rw [← HER.out, Nat.sub_zero]; simp
      case round =>
        obtain ⟨k, at2, zs, hk, rfl, hzk, ha2, HOw, HE, HG, HRd⟩ := hrel
        have hszr := HG.out.size
        have hRow : Row8 wr.heap.size wr A n bs := Row8.grown HR.out (Nat.le_refl _) HG.out HP.out
        by_cases hlt : k < N
        · have T2 := integer_any g A n cap at2 bs wr HRd.out hRow HP.out hn hc ha2
          obtain ⟨N', hN'⟩ : ∃ N', N - k = N' + 1 := ⟨N - k - 1, by omega⟩
          rw [hN'] at HE
          have HNN := Lib.hid hN'
          clear hN'
          cases hq : readI (bs.drop at2) with
          | none =>
            have HN : Hid (readL (bs.drop at_) = none) := by
              show _ = _
              rw [HL.out, HE.out, readM_none hq]; rfl
            rw [hq] at T2
            have T2 := Lib.hid T2
            clear hq hRow
            go_wp2_with (go_at_call 59; refine T2.out.mono ?_; rintro e w3 ⟨b3, rfl⟩)
            rw [HN.out]
            exact ⟨rfl, grown_trans HG.out b3, rfl⟩
          | some p =>
            obtain ⟨x, r2⟩ := p
            obtain ⟨er2, hrl2, hxi⟩ := readI_drop hq
            rw [hbl] at er2 hrl2
            have HE2 : Hid (readM N r = (readM N' (bs.drop (n - r2.length))).map fun p => ((zs ++ [x]) ++ p.1, p.2)) := by
              show _ = _
              rw [HE.out, readM_step hq, ← er2, Option.map_map]
              congr 1
              funext p
              simp
            rw [hq] at T2
            have T2 := Lib.hid T2
            have HX := Lib.hid hxi
            clear hq hRow er2 hxi
            go_wp2_with (go_at_call 59; refine T2.out.mono ?_; rintro e w3 ⟨b3, rfl, r3, hl3⟩; refine Hid.out ?_)
            refine Lib.hid ?_
            have HO3 := Lib.hid (HOw.out.keep b3 hgl)
            have HG3 := Lib.hid (grown_trans HG.out b3)
            have R3 := Lib.hid r3
            have hsz3 := HG3.out.size
            clear b3 r3 hl3
            go_wp2_with (at_builtin; refine wpList_append_own _ rfl _ _ 62 rfl w.heap.size 3 i0 (.int .i64 0) 1 8 Try.underlying62 hi hz0 hz1 hz2 rfl (by decide) _ _ _ rfl (HO3.out.alloc _) ⟨w3.heap.size, 0, none⟩ 1 1 [Value.int .i64 x] rfl rfl (one_int w3 x) (by simp [Value.oneCell']) (by unfold maxLen; omega) (by omega) (by simp; omega) ?_; refine Hid.out ?_)
            refine Lib.hid ?_
            intro v' w4 own4 gr4 _
            have hal : w3.grownBy (w3.alloc (.cells #[.int .i64 x] 3)) none := World.grownBy_alloc _ _ _
            have hrow : ∀ j, Value.ownBlock _ = some j → w.heap.size ≤ j := fun j ej => (World.ownsRow.lt HO3.out j ej).1
            have HG4 := Lib.hid (grown_own (grown_own HG3.out hal (fun j e => by cases e)) gr4 hrow)
            have R4 := Lib.hid ((R3.out.keep hal (fun j e => by cases e)).keep gr4 (fun j e => Nat.lt_of_lt_of_le hgl (hrow j e)))
            have HO4 : Hid (OwnI w.heap.size w4 v' (zs ++ [x])) := by
              show w4.ownsRow _ _ _ _ _ _
              rw [intCells_append, List.length_append, hzk]
              exact own4
            clear own4 gr4 hal hrow
            go_wp2_with fail
            go_roundw
            case rel => exact ⟨k + 1, n - r2.length, zs ++ [x], by omega, by go_num, by simp; omega, by omega, HO4.out, (by rw [show N - (k + 1) = N' by have := HNN.out; omega]; exact HE2.out), HG4.out, R4.out⟩
            case measure => simp [intOf]; omega
        · obtain rfl : k = N := by omega
          have HN : Hid (readL (bs.drop at_) = some (zs, bs.drop at2)) := by
            show _ = _
            rw [HL.out, HE.out, Nat.sub_self]
            simp [readM]
          clear hRow
          go_wp2_with fail
          go_ret
          rw [HN.out]
          refine ⟨HG.out, _, rfl, HOw.out, ?_, ?_⟩
          · rw [List.length_drop, hbl, show n - (n - at2) = at2 by omega]; exact HRd.out
          · rw [List.length_drop]; omega
/-- The list that is all there is; or the panic with ErrForm. -/
def WholeEnd (g : Nat) (o : Option (List Int)) (w : World) (e : Ending) (w' : World) : Prop :=
  w.grownBy w' (some g) ∧ match o with
    | some l => ∃ v, e = .returned v ∧ OwnI w.heap.size w' v l
    | none => e = .panicked form
theorem drewN_eq (w : World) : ∀ x, w.grownBy x none → w.grownBy x.drew none := fun x h => ⟨h.os, h.tape, h.output, h.size, h.block⟩
theorem grown_drew {w x : World} {row : Option Nat} (h : w.grownBy x row) : w.grownBy x.drew row := ⟨h.os, h.tape, h.output, h.size, h.block⟩
set_option maxHeartbeats 1000000 in
theorem whole_any (g : Nat) (A : Option Addr) (n cap at_ : Nat) (bs : List UInt8) (w : World) (h : Rd w g A n cap at_) (hr : Row8 w.heap.size w A n bs) (hp : 0 < n → ∀ p, A = some p → p.block ≠ g) (hn : n ≤ 1000000000) (hc : n ≤ cap) (ha : at_ ≤ n) :
    Calls Try.prog 53 #[.pointer (some ⟨g, 0, none⟩)] w (WholeEnd g (getR (bs.drop at_)) w) := by
  have T := list_any g A n cap at_ bs w h hr hp hn hc ha
  clear h hr hp
  cases hq : readL (bs.drop at_) with
  | none =>
    have HN : Hid (getR (bs.drop at_) = none) := by show getR _ = none; rw [getR, hq]
    rw [hq] at T
    have T := Lib.hid T
    clear hq
    go_enter Try.func53, Try.ntmps53
    go_wp2_with (go_at_call 56; refine T.out.mono ?_; rintro e w1 ⟨b1, rfl⟩)
    rw [HN.out]
    exact ⟨rfl, b1, rfl⟩
  | some p =>
    obtain ⟨l, r⟩ := p
    rw [hq] at T
    have T := Lib.hid T
    cases r with
    | nil =>
      have HN : Hid (getR (bs.drop at_) = some l) := by show getR _ = _; rw [getR, hq]
      clear hq
      go_enter Try.func53, Try.ntmps53
      go_wp2_with (go_at_call 56; refine T.out.mono ?_; rintro e w1 ⟨b1, v, rfl, o1, r1, hl1⟩; refine Hid.out ?_)
      refine Lib.hid ?_
      rw [List.length_nil, Nat.sub_zero] at r1
      have c0 := r1.c0
      have c1 := r1.c1
      have B1 := Lib.hid b1
      have O1 := Lib.hid o1
      clear b1 o1 r1 hl1
      go_wp2_with fail
      go_region
      go_wp2_with fail
      go_ret
      rw [HN.out]
      exact ⟨grown_drew B1.out, _, rfl, own_below O1.out ((Below.refl _ _).drew)⟩
    | cons c r =>
      have HN : Hid (getR (bs.drop at_) = none) := by show getR _ = _; rw [getR, hq]
      clear hq
      go_enter Try.func53, Try.ntmps53
      go_wp2_with (go_at_call 56; refine T.out.mono ?_; rintro e w1 ⟨b1, v, rfl, o1, r1, hl1⟩; refine Hid.out ?_)
      refine Lib.hid ?_
      have e1 : decide (n - (c :: r).length < n) = true := by rw [decide_eq_true_eq]; rw [List.length_cons] at hl1 ⊢; omega
      generalize n - (c :: r).length = m at r1 e1
      have c0 := r1.c0
      have c1 := r1.c1
      have B1 := Lib.hid b1
      clear b1 o1 r1 hl1
      go_wp2_with fail
      go_region
      go_wp2_with fail
      rw [HN.out]
      exact ⟨rfl, grown_drew B1.out, rfl⟩
theorem Rd.new (w : World) (A : Option Addr) (n cap : Nat) : Rd (w.alloc (.cells #[.slice A n cap, .int .i64 0] 85)) w.heap.size A n cap 0 := by
  exact heap_alloc_new w _
theorem ownI_base {w : World} {B B' : Nat} {v : Value} {zs : List Int} (h : OwnI B w v zs) (hb : B' ≤ B) : OwnI B' w v zs := by
  refine ⟨h.1, ?_⟩
  rcases h.2 with h2 | ⟨g, cap, cur, hv, hg, rest⟩
  · exact .inl h2
  · exact .inr ⟨g, cap, cur, hv, Nat.le_trans hb hg, rest⟩
theorem catch_form (p q : Addr) (x y : Value) (w : World) (hx : w.cell? p = some x) (hx1 : ∃ A n c, x = .slice A n c) (hy : w.cell? q = some y) (hy1 : ∃ n : Int, y = .int .i64 n) (fp : w.frozen? p = false) (fq : w.frozen? q = false) (hpq : p.block ≠ q.block) :
    CallsD Try.prog 55 #[.pointer (some p), .pointer (some q)] (.panicking form) w fun e u' w' =>
      e = .returned (.tuple #[]) ∧ u' = .panicking [{ v := .iface 33 (.int .i64 7), recovered := true }] ∧ w' = (w.setCell p (.slice none 0 0)).setCell q (.int .i64 7) := by
  obtain ⟨A, n, c, rfl⟩ := hx1
  obtain ⟨m, rfl⟩ := hy1
  have hq2 : (w.setCell p (.slice none 0 0)).cell? q = some (.int .i64 m) := by rw [World.cell?_setCell_other _ _ _ _ (fun e => hpq (by rw [e]))]; exact hy
  have fq2 : (w.setCell p (.slice none 0 0)).frozen? q = false := by rw [World.frozen?_setCell]; exact fq
  refine callsD_of_wpS Try.func55 rfl fun c₀ cs hu => ?_
  apply wpS_seq
  apply wpS_region
  simp [wpOpsS, go_sem, recoverD, hu, form, Try.ntmps55, Exit.thenS]
  refine wpS_cond (t := true) (by simp [Act.eval, Array.replicate]) ?_
  simp only [if_true]
  apply wpS_region
  simp [wpOpsS, go_sem, hx, fp, hq2, fq2, bodyPostS, results, Try.results55]
theorem catch_idle (p q : Addr) (w : World) :
    CallsD Try.prog 55 #[.pointer (some p), .pointer (some q)] .returning w fun e u' w' => e = .returned (.tuple #[]) ∧ u' = .returning ∧ w' = w := by
  refine callsD_of_wpS Try.func55 rfl fun c₀ cs hu => ?_
  apply wpS_seq
  apply wpS_region
  simp [wpOpsS, go_sem, recoverD, hu, Try.ntmps55, Exit.thenS]
  refine wpS_cond (t := false) (by simp [Act.eval, Array.replicate]) ?_
  simp only [Bool.false_eq_true, if_false]
  refine wpS_of_wp (wp_skip ?_)
  cases c₀
  simp_all [bodyPostS, results, Try.results55]
/-- The two named results. -/
noncomputable def two (w : World) : World := (w.alloc (.cells #[.slice none 0 0] 62)).alloc (.cells #[.int .i64 0] 33)
theorem two_cells (w w1 : World) (g : Nat) (hg : g < w.heap.size) (h : (two w).grownBy w1 (some g)) :
    w1.cell? ⟨w.heap.size, 0, none⟩ = some (.slice none 0 0) ∧ w1.cell? ⟨w.heap.size + 1, 0, none⟩ = some (.int .i64 0) ∧ w1.frozen? ⟨w.heap.size, 0, none⟩ = false ∧ w1.frozen? ⟨w.heap.size + 1, 0, none⟩ = false ∧ w.heap.size + 2 ≤ w1.heap.size ∧ w.grownBy w1 (some g) := by
  have hz : (two w).heap.size = w.heap.size + 2 := by simp [two]
  have b0 : (two w).heap[w.heap.size]? = some (.cells #[.slice none 0 0] 62 (0, 0)) := by
    unfold two
    rw [Below.heap_alloc _ _ _ (by simp)]
    exact heap_alloc_new w _
  have b1 : (two w).heap[w.heap.size + 1]? = some (.cells #[.int .i64 0] 33 (0, 0)) := by
    have := heap_alloc_new (w.alloc (.cells #[.slice none 0 0] 62)) (.cells #[.int .i64 0] 33)
    rw [World.size_alloc] at this
    exact this
  have c0 := (h.block w.heap.size (by omega) (fun e => by injection e with e; omega)).trans b0
  have c1 := (h.block (w.heap.size + 1) (by omega) (fun e => by injection e with e; omega)).trans b1
  refine ⟨by simp [World.cell?, c0], by simp [World.cell?, c1], by simp [World.frozen?, c0], by simp [World.frozen?, c1], by have := h.size; omega, ?_⟩
  have k0 : w.grownBy (two w) none := by
    have h1 := World.grownBy_alloc w (.cells #[.slice none 0 0] 62) none
    have h2 := World.grownBy_alloc (w.alloc (.cells #[.slice none 0 0] 62)) (.cells #[.int .i64 0] 33) none
    exact grown_trans h1 h2
  exact grown_trans (grown_none k0 g) h
theorem grown_set_new {a b : World} {g : Nat} (h : a.grownBy b (some g)) (p : Addr) (hp : a.heap.size ≤ p.block) (v : Value) : a.grownBy (b.setCell p v) (some g) :=
  ⟨h.os, h.tape, h.output, by simp [World.setCell]; exact h.size, fun k hk hne => (Below.heap_setCell _ _ _ _ (by omega)).trans (h.block k hk hne)⟩
theorem attempt_no (N g : Nat) (w : World) (hN : ∀ args w, (callFunc N args).run Try.prog w = .ok (.enter N args) w) (hg : g < w.heap.size) (T : Calls Try.prog N #[.pointer (some ⟨g, 0, none⟩)] (two w) fun e w' => e = .panicked form ∧ (two w).grownBy w' (some g)) :
    Calls Try.prog 52 #[.func (.func N) #[.pointer (some ⟨g, 0, none⟩)] #[]] w fun e w' => e = .returned (.tuple #[.slice none 0 0, .int .i64 7]) ∧ w.grownBy w' (some g) := by
  have hmf : ∀ (fn : Fn) (first cap : Array Value) (w : World), (Instr.makeFunc fn first cap).run Try.prog w = .ok (.func fn first cap) w := fun _ _ _ _ => rfl
  have HT := Lib.hid T
  clear T
  go_enter_defers Try.func52, Try.ntmps52
  go_wp2_with fail
  refine HT.out.mono ?_
  rintro e w1 ⟨rfl, b1⟩
  obtain ⟨c0, c1, f0, f1, hz, b2⟩ := two_cells w w1 g hg b1
  have B2 := Lib.hid b2
  clear b1 b2
  go_wp2_with fail
  refine leaves_cons (f := 55) (args := #[.pointer (some ⟨w.heap.size, 0, none⟩), .pointer (some ⟨w.heap.size + 1, 0, none⟩)]) (by simp) (by simp [go_sem]) ?_
  refine (catch_form ⟨w.heap.size, 0, none⟩ ⟨w.heap.size + 1, 0, none⟩ _ _ _ c0 ⟨_, _, _, rfl⟩ c1 ⟨_, rfl⟩ f0 f1 (by simp)).mono ?_
  rintro e u' w'' ⟨rfl, rfl, rfl⟩
  have g0 : (w1.setCell ⟨w.heap.size, 0, none⟩ (.slice none 0 0)).cell? ⟨w.heap.size + 1, 0, none⟩ = some (.int .i64 0) := by rw [World.cell?_setCell_other _ _ _ _ (by simp)]; exact c1
  have e0 : ((w1.setCell ⟨w.heap.size, 0, none⟩ (.slice none 0 0)).setCell ⟨w.heap.size + 1, 0, none⟩ (.int .i64 7)).cell? ⟨w.heap.size, 0, none⟩ = some (.slice none 0 0) := by
    rw [World.cell?_setCell_other _ _ _ _ (by simp)]
    exact World.cell?_setCell_same' _ _ _ (by rw [c0]; rfl)
  have e1 : ((w1.setCell ⟨w.heap.size, 0, none⟩ (.slice none 0 0)).setCell ⟨w.heap.size + 1, 0, none⟩ (.int .i64 7)).cell? ⟨w.heap.size + 1, 0, none⟩ = some (.int .i64 7) := World.cell?_setCell_same' _ _ _ (by rw [g0]; rfl)
  simp [Leaves, settle, results, Try.results52, go_sem, e0, e1]
  exact grown_set_new (grown_set_new B2.out _ (Nat.le_refl _) _) _ (Nat.le_succ _) _
/-- What the two named results hold at the end. -/
theorem attempt_ok (N g : Nat) (w : World) (R : World → Option Addr → Nat → Nat → Prop) (hN : ∀ args w, (callFunc N args).run Try.prog w = .ok (.enter N args) w) (hg : g < w.heap.size)
    (T : Calls Try.prog N #[.pointer (some ⟨g, 0, none⟩)] (two w) fun e w' => ∃ A n c, e = .returned (.slice A n c) ∧ (two w).grownBy w' (some g) ∧ R w' A n c) :
    Calls Try.prog 52 #[.func (.func N) #[.pointer (some ⟨g, 0, none⟩)] #[]] w fun e w' => ∃ A n c w1, e = .returned (.tuple #[.slice A n c, .int .i64 0]) ∧ w.grownBy w' (some g) ∧ (two w).grownBy w1 (some g) ∧ R w1 A n c ∧ w' = (w1.setCell ⟨w.heap.size, 0, none⟩ (.slice A n c)).setCell ⟨w.heap.size + 1, 0, none⟩ (.int .i64 0) := by
  have hmf : ∀ (fn : Fn) (first cap : Array Value) (w : World), (Instr.makeFunc fn first cap).run Try.prog w = .ok (.func fn first cap) w := fun _ _ _ _ => rfl
  have HT := Lib.hid T
  clear T
  go_enter_defers Try.func52, Try.ntmps52
  go_wp2_with fail
  refine HT.out.mono ?_
  rintro e w1 ⟨A, n, c, rfl, b1, hR⟩
  obtain ⟨c0, c1, f0, f1, hz, b2⟩ := two_cells w w1 g hg b1
  have B2 := Lib.hid b2
  have B1 := Lib.hid b1
  have HR := Lib.hid hR
  clear b1 b2 hR
  have g0 : (w1.setCell ⟨w.heap.size, 0, none⟩ (.slice A n c)).cell? ⟨w.heap.size + 1, 0, none⟩ = some (.int .i64 0) := by rw [World.cell?_setCell_other _ _ _ _ (by simp)]; exact c1
  have g1 : (w1.setCell ⟨w.heap.size, 0, none⟩ (.slice A n c)).frozen? ⟨w.heap.size + 1, 0, none⟩ = false := by rw [World.frozen?_setCell]; exact f1
  go_wp2_with fail
  refine leaves_cons (f := 55) (args := #[.pointer (some ⟨w.heap.size, 0, none⟩), .pointer (some ⟨w.heap.size + 1, 0, none⟩)]) (by simp) (by simp [go_sem]) ?_
  refine (catch_idle ⟨w.heap.size, 0, none⟩ ⟨w.heap.size + 1, 0, none⟩ _).mono ?_
  rintro e u' w'' ⟨rfl, rfl, rfl⟩
  have e0 : ((w1.setCell ⟨w.heap.size, 0, none⟩ (.slice A n c)).setCell ⟨w.heap.size + 1, 0, none⟩ (.int .i64 0)).cell? ⟨w.heap.size, 0, none⟩ = some (.slice A n c) := by
    rw [World.cell?_setCell_other _ _ _ _ (by simp)]
    exact World.cell?_setCell_same' _ _ _ (by rw [c0]; rfl)
  have e1 : ((w1.setCell ⟨w.heap.size, 0, none⟩ (.slice A n c)).setCell ⟨w.heap.size + 1, 0, none⟩ (.int .i64 0)).cell? ⟨w.heap.size + 1, 0, none⟩ = some (.int .i64 0) := World.cell?_setCell_same' _ _ _ (by rw [g0]; rfl)
  have fin : w.grownBy ((w1.setCell ⟨w.heap.size, 0, none⟩ (.slice A n c)).setCell ⟨w.heap.size + 1, 0, none⟩ (.int .i64 0)) (some g) := grown_set_new (grown_set_new B2.out _ (Nat.le_refl _) _) _ (Nat.le_succ _) _
  have B1 := B1.out
  have HR := HR.out
  refine ⟨_, ?_, A, n, c, w1, rfl, fin, B1, HR, rfl⟩
  simp [results, Try.results52, go_sem, e0, e1]
theorem two_none (w : World) : w.grownBy (two w) none := by
  have h1 := World.grownBy_alloc w (.cells #[.slice none 0 0] 62) none
  have h2 := World.grownBy_alloc (w.alloc (.cells #[.slice none 0 0] 62)) (.cells #[.int .i64 0] 33) none
  exact grown_trans h1 h2
theorem two_size (w : World) : (two w).heap.size = w.heap.size + 2 := by simp [two]
theorem below_none {a b : World} (h : a.grownBy b none) : Below a.heap.size a b := ⟨h.os, h.tape, h.output, h.size, fun k hk => h.block k hk (by simp)⟩
theorem below_new {a b : World} {g : Nat} (h : a.grownBy b (some g)) (B : Nat) (hB : B ≤ g) (hB2 : B ≤ a.heap.size) : Below B a b := ⟨h.os, h.tape, h.output, h.size, fun k hk => h.block k (by omega) (fun e => by injection e with e; omega)⟩
theorem own_i_slice {w : World} {B : Nat} {v : Value} {zs : List Int} (h : OwnI B w v zs) : ∃ A n c, v = .slice A n c := by
  rcases h.2 with ⟨e, _⟩ | ⟨g, cap, cur, e, _⟩
  · exact ⟨_, _, _, e⟩
  · exact ⟨_, _, _, e⟩
theorem row8_below {w w' : World} {B : Nat} {A : Option Addr} {n : Nat} {bs : List UInt8} (h : Row8 B w A n bs) (b : Below B w w') (hB : B ≤ w.heap.size) : Row8 w'.heap.size w' A n bs :=
  ⟨h.1, (h.2.below b).more (Nat.le_trans hB b.size)⟩
theorem row8_old {w : World} {B g : Nat} {A : Option Addr} {n : Nat} {bs : List UInt8} (h : Row8 B w A n bs) (hg : B ≤ g) : 0 < n → ∀ p, A = some p → p.block ≠ g := fun hn p e => by
  obtain ⟨q, e2, hq, _⟩ := h.2 hn
  rw [e] at e2
  injection e2 with e2
  subst e2
  omega
theorem get_any (A : Option Addr) (n cap : Nat) (bs : List UInt8) (w : World) (hr : Row8 w.heap.size w A n bs) (hn : n ≤ 1000000000) (hc : n ≤ cap) :
    Calls Try.prog 44 #[.slice A n cap] w (GetEnd (getR bs) w) := by
  have hmf : ∀ (fn : Fn) (first cap : Array Value) (w : World), (Instr.makeFunc fn first cap).run Try.prog w = .ok (.func fn first cap) w := fun _ _ _ _ => rfl
  obtain ⟨W, hW, hz, hb, hrd⟩ : ∃ W, w.alloc (.cells #[.slice A n cap, .int .i64 0] 85) = W ∧ W.heap.size = w.heap.size + 1 ∧ w.grownBy W none ∧ Rd W w.heap.size A n cap 0 := ⟨_, rfl, by simp, World.grownBy_alloc _ _ _, Rd.new w A n cap⟩
  have hgW : w.heap.size < W.heap.size := by omega
  have hbw : Below w.heap.size w (two W) := below_none (grown_trans hb (two_none W))
  have hr2 : Row8 (two W).heap.size (two W) A n bs := row8_below hr hbw (Nat.le_refl _)
  have hrd2 : Rd (two W) w.heap.size A n cap 0 := hrd.keep (two_none W) (fun j e => by cases e)
  have T := whole_any w.heap.size A n cap 0 bs (two W) hrd2 hr2 (row8_old hr (Nat.le_refl _)) hn hc (by omega)
  rw [List.drop_zero] at T
  cases hq : getR bs with
  | none =>
    rw [hq] at T
    have T := Lib.hid (attempt_no 53 w.heap.size W (fun _ _ => by simp [go_sem]) hgW (T.mono fun e w' h => ⟨h.2, h.1⟩))
    have HB := Lib.hid hb
    have HW := Lib.hid hW
    clear hbw hr2 hrd2 hrd hb hr hW hq
    go_enter Try.func44, Try.ntmps44
    go_wp2_with fail
    rw [HW.out]
    refine T.out.mono ?_
    rintro e w1 ⟨rfl, b1⟩
    have B1 := Lib.hid b1
    clear b1
    go_wp2_with fail
    go_ret2
    exact ⟨below_new (grown_trans (grown_none HB.out w.heap.size) B1.out) _ (Nat.le_refl _) (Nat.le_refl _), rfl⟩
  | some l =>
    rw [hq] at T
    have T := Lib.hid (attempt_ok 53 w.heap.size W (fun w' A n c => OwnI (two W).heap.size w' (.slice A n c) l) (fun _ _ => by simp [go_sem]) hgW (T.mono fun e w' h => by
      obtain ⟨h1, v, rfl, h2⟩ := h
      obtain ⟨A', n', c', rfl⟩ := own_i_slice h2
      exact ⟨A', n', c', rfl, h1, h2⟩))
    have HB := Lib.hid hb
    have HW := Lib.hid hW
    have HZ := Lib.hid hz
    clear hbw hr2 hrd2 hrd hb hr hW hq hz
    go_enter Try.func44, Try.ntmps44
    go_wp2_with fail
    rw [HW.out]
    refine T.out.mono ?_
    rintro e w1 ⟨A', n', c', w3, rfl, b1, b3, o3, e1⟩
    have B1 := Lib.hid b1
    have O1 : Hid (OwnI w.heap.size w1 (.slice A' n' c') l) := by
      have h2 := two_size W
      have h3 := HZ.out
      rw [e1]
      exact ownI_base (ownsRow_setCell_below (ownsRow_setCell_below o3 (by simp only; omega) _) (by simp only; omega) _) (by omega)
    clear b1 b3 o3 e1
    go_wp2_with fail
    go_ret2
    exact ⟨below_new (grown_trans (grown_none HB.out w.heap.size) B1.out) _ (Nat.le_refl _) (Nat.le_refl _), _, rfl, O1.out⟩
end Go.Proofs.Ytmfbnajaocaikaa
