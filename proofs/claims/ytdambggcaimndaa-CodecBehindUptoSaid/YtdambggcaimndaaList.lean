/- Layer 4: the reader: list. -/
import Derived.OwnWalk
import Derived.Test.YtdambggcaimndaaInteger
namespace Go.Proofs.Ytdambggcaimndaa
open Go.RowKit Go.Sort Go
set_option linter.unusedVariables false

/-- A list has been read, and the reader stands behind it; or the panic with ErrForm. -/
def ListEnd (g : Nat) (A : Option Addr) (n cap : Nat) (o : Option (List Int × List UInt8)) (w : World) (e : Ending) (w' : World) : Prop :=
  w.grownBy w' (some g) ∧ match o with
    | some (l, r) => ∃ v, e = .returned v ∧ OwnI w.heap.size w' v l ∧ Rd w' g A n cap (n - r.length) ∧ r.length ≤ n
    | none => e = .panicked form

theorem grown_own {a b c : World} {g : Nat} {row : Option Nat} (h : a.grownBy b (some g)) (k : b.grownBy c row) (hr : ∀ j, row = some j → a.heap.size ≤ j) : a.grownBy c (some g) :=
  ⟨k.os.trans h.os, k.tape.trans h.tape, k.output.trans h.output, Nat.le_trans h.size k.size, fun i hi hne => (k.block i (Nat.lt_of_lt_of_le hi h.size) (fun e => by have := hr i e.symm; omega)).trans (h.block i hi hne)⟩
theorem Rd.keep {a b : World} {g : Nat} {A : Option Addr} {n cap at_ : Nat} {row : Option Nat} (h : Rd a g A n cap at_) (k : a.grownBy b row) (hr : ∀ j, row = some j → g < j) : Rd b g A n cap at_ :=
  (k.block g h.lt (fun e => by have := hr g e.symm; omega)).trans h
theorem OwnI.keep {a b : World} {B g : Nat} {v : Value} {zs : List Int} (h : OwnI B a v zs) (k : a.grownBy b (some g)) (hg : g < B) : OwnI B b v zs := by
  refine World.ownsRow.kept h k (.inr fun e => ?_)
  have := (World.ownsRow.lt h g e).1
  omega

theorem readI_drop {bs r : List UInt8} {at_ : Nat} {x : Int} (h : readI (bs.drop at_) = some (x, r)) : r = bs.drop (bs.length - r.length) ∧ r.length ≤ bs.length ∧ InI x := by
  obtain ⟨e, hx⟩ := readI_some h
  have hs : r <:+ bs := by
    refine List.IsSuffix.trans ⟨intB x, e.symm⟩ (List.drop_suffix _ _)
  exact ⟨(List.suffix_iff_eq_drop.1 hs), hs.length_le, hx⟩

theorem readM_none {k : Nat} {b : List UInt8} (h : readI b = none) : readM (k + 1) b = none := by rw [readM, h]
theorem readM_step {k : Nat} {b r : List UInt8} {x : Int} (h : readI b = some (x, r)) : readM (k + 1) b = (readM k r).map fun p => (x :: p.1, p.2) := by
  rw [readM, h]
  simp only
  cases readM k r with
  | none => rfl
  | some p => rfl

theorem one_int (W : World) (x : Int) : ∀ j u, ([Value.int .i64 x] : List Value)[j]? = some u → (W.alloc (.cells #[.int .i64 x] 3)).cell? ((⟨W.heap.size, 0, none⟩ : Addr).add j) = some u := by
  intro j u' hj
  match j, hj with
  | 0, hj => simp at hj; subst hj; simp [Addr.add]
  | j + 1, hj => simp at hj

set_option maxHeartbeats 2000000 in
theorem list_any (g : Nat) (A : Option Addr) (n cap at_ : Nat) (bs : List UInt8) (w : World) (h : Rd w g A n cap at_) (hr : Row8 w.heap.size w A n bs) (hp : 0 < n → ∀ p, A = some p → p.block ≠ g) (hn : n ≤ 1000000000) (hc : n ≤ cap) (ha : at_ ≤ n) :
    Calls Try.prog 39 #[.pointer (some ⟨g, 0, none⟩)] w (ListEnd g A n cap (readL (bs.drop at_)) w) := by
  obtain ⟨i0, hi, hz0, hz1, hz2⟩ := info_parts info_int
  have hgl := h.lt
  have hbl := hr.1
  have T := integer_any g A n cap at_ bs w h hr hp hn hc ha
  have HR := Lib.hid hr
  have HP := Lib.hid hp
  clear h hr hp
  cases hq : readI (bs.drop at_) with
  | none =>
    have HN : Hid (readL (bs.drop at_) = none) := by show readL _ = none; rw [readL, hq]
    rw [hq] at T
    have T := Lib.hid T
    clear hq
    go_enter Try.func39, Try.ntmps39
    go_wp2_with (go_at_call 44; refine T.out.mono ?_; rintro e w1 ⟨b1, rfl⟩)
    rw [HN.out]
    exact ⟨rfl, b1, rfl⟩
  | some p =>
    obtain ⟨c, r⟩ := p
    obtain ⟨er, hrl, hci⟩ := readI_drop hq
    rw [hbl] at er hrl
    rw [hq] at T
    have T := Lib.hid T
    by_cases hcc : c < 0 ∨ 1000 < c
    · have HN : Hid (readL (bs.drop at_) = none) := by show readL _ = none; rw [readL, hq]; simp only; rw [if_pos hcc]
      clear hq er hci
      by_cases hc0 : c < 0
      · have f1 : decide (c < 0) = true := by simpa using hc0
        clear hcc
        go_enter Try.func39, Try.ntmps39
        go_wp2_with (go_at_call 44; refine T.out.mono ?_; rintro e w1 ⟨b1, rfl, r1, hl1⟩)
        rw [HN.out]
        exact ⟨rfl, b1, rfl⟩
      · have f1 : decide (c < 0) = false := by simpa using hc0
        have f2 : decide (1000 < c) = true := by rw [decide_eq_true_eq]; omega
        clear hcc hc0
        go_enter Try.func39, Try.ntmps39
        go_wp2_with (go_at_call 44; refine T.out.mono ?_; rintro e w1 ⟨b1, rfl, r1, hl1⟩)
        rw [HN.out]
        exact ⟨rfl, b1, rfl⟩
    · have HL : Hid (readL (bs.drop at_) = readM c.toNat r) := by show readL _ = _; rw [readL, hq]; simp only; rw [if_neg hcc]
      obtain ⟨N, rfl⟩ : ∃ N : Nat, c = (N : Int) := ⟨c.toNat, by omega⟩
      rw [Int.toNat_natCast] at HL
      have f1 : decide ((N : Int) < 0) = false := by rw [decide_eq_false_iff_not]; omega
      have f2 : decide ((1000 : Int) < (N : Int)) = false := by rw [decide_eq_false_iff_not]; omega
      have hN : N ≤ 1000 := by omega
      have HER := Lib.hid er
      clear hq hci hcc er
      go_enter Try.func39, Try.ntmps39
      go_wp2_with (go_at_call 44; refine T.out.mono ?_; rintro e w1 ⟨b1, rfl, r1, hl1⟩; refine Hid.out ?_)
      refine Lib.hid ?_
      have B1 := Lib.hid b1
      have R1 := Lib.hid r1
      have hsz1 := b1.size
      clear b1 r1 hl1
      go_wp2_with (at_make; refine wpList_make_own _ rfl _ _ 22 rfl w.heap.size 3 i0 (.int .i64 0) 1 Try.underlying22 hi hz0 hz1 .i64 .i64 _ N rfl rfl rfl (by rw [hz2]; omega) (by unfold maxLen; omega) hsz1 ?_; refine Hid.out ?_)
      refine Lib.hid ?_
      intro w2 own2 gr2
      have HO : Hid (OwnI w.heap.size w2 (.slice (some ⟨w1.heap.size, 0, none⟩) 0 N) []) := own2
      have HB : Hid (w.grownBy w2 (some g)) := grown_own B1.out gr2 (fun j e => by cases e)
      have R2 : Hid (Rd w2 g A n cap (n - r.length)) := R1.out.keep gr2 (fun j e => by cases e)
      clear own2 gr2
      go_wp2_with fail
      go_loopw [4, 17] (fun v i wr => ∃ (k at2 : Nat) (zs : List Int), k ≤ N ∧ i = .int .i64 k ∧ zs.length = k ∧ at2 ≤ n ∧ Hid (OwnI w.heap.size wr v zs) ∧ Hid (readM N r = (readM (N - k) (bs.drop at2)).map fun p => (zs ++ p.1, p.2)) ∧ Hid (w.grownBy wr (some g)) ∧ Hid (Rd wr g A n cap at2)) (fun _ i _ => N - (intOf i).toNat)
      case atStart =>
        refine ⟨0, n - r.length, [], by omega, rfl, rfl, by omega, HO.out, ?_, HB.out, R2.out⟩
        show _ = _
        rw [← HER.out, Nat.sub_zero]; simp
      case round =>
        obtain ⟨k, at2, zs, hk, rfl, hzk, ha2, HOw, HE, HG, HRd⟩ := hrel
        have hszr := HG.out.size
        have hRow : Row8 wr.heap.size wr A n bs := Row8.grown HR.out (Nat.le_refl _) HG.out HP.out
        by_cases hlt : k < N
        · have T2 := integer_any g A n cap at2 bs wr HRd.out hRow HP.out hn hc ha2
          obtain ⟨N', hN'⟩ : ∃ N', N - k = N' + 1 := ⟨N - k - 1, by omega⟩
          rw [hN'] at HE
          have HNN := Lib.hid hN'
          clear hN'
          cases hq : readI (bs.drop at2) with
          | none =>
            have HN : Hid (readL (bs.drop at_) = none) := by
              show _ = _
              rw [HL.out, HE.out, readM_none hq]; rfl
            rw [hq] at T2
            have T2 := Lib.hid T2
            clear hq hRow
            go_wp2_with (go_at_call 44; refine T2.out.mono ?_; rintro e w3 ⟨b3, rfl⟩)
            rw [HN.out]
            exact ⟨rfl, grown_trans HG.out b3, rfl⟩
          | some p =>
            obtain ⟨x, r2⟩ := p
            obtain ⟨er2, hrl2, hxi⟩ := readI_drop hq
            rw [hbl] at er2 hrl2
            have HE2 : Hid (readM N r = (readM N' (bs.drop (n - r2.length))).map fun p => ((zs ++ [x]) ++ p.1, p.2)) := by
              show _ = _
              rw [HE.out, readM_step hq, ← er2, Option.map_map]
              congr 1
              funext p
              simp
            rw [hq] at T2
            have T2 := Lib.hid T2
            have HX := Lib.hid hxi
            clear hq hRow er2 hxi
            go_wp2_with (go_at_call 44; refine T2.out.mono ?_; rintro e w3 ⟨b3, rfl, r3, hl3⟩; refine Hid.out ?_)
            refine Lib.hid ?_
            have HO3 := Lib.hid (HOw.out.keep b3 hgl)
            have HG3 := Lib.hid (grown_trans HG.out b3)
            have R3 := Lib.hid r3
            have hsz3 := HG3.out.size
            clear b3 r3 hl3
            go_wp2_with (at_builtin; refine wpList_append_own _ rfl _ _ 22 rfl w.heap.size 3 i0 (.int .i64 0) 1 8 Try.underlying22 hi hz0 hz1 hz2 rfl (by decide) _ _ _ rfl (HO3.out.alloc _) ⟨w3.heap.size, 0, none⟩ 1 1 [Value.int .i64 x] rfl rfl (one_int w3 x) (by simp [Value.oneCell']) (by unfold maxLen; omega) (by omega) (by simp; omega) ?_; refine Hid.out ?_)
            refine Lib.hid ?_
            intro v' w4 own4 gr4 _
            have hal : w3.grownBy (w3.alloc (.cells #[.int .i64 x] 3)) none := World.grownBy_alloc _ _ _
            have hrow : ∀ j, Value.ownBlock _ = some j → w.heap.size ≤ j := fun j ej => (World.ownsRow.lt HO3.out j ej).1
            have HG4 := Lib.hid (grown_own (grown_own HG3.out hal (fun j e => by cases e)) gr4 hrow)
            have R4 := Lib.hid ((R3.out.keep hal (fun j e => by cases e)).keep gr4 (fun j e => Nat.lt_of_lt_of_le hgl (hrow j e)))
            have HO4 : Hid (OwnI w.heap.size w4 v' (zs ++ [x])) := by
              show w4.ownsRow _ _ _ _ _ _
              rw [intCells_append, List.length_append, hzk]
              exact own4
            clear own4 gr4 hal hrow
            go_wp2_with fail
            go_roundw
            case rel => exact ⟨k + 1, n - r2.length, zs ++ [x], by omega, by go_num, by simp; omega, by omega, HO4.out, (by rw [show N - (k + 1) = N' by have := HNN.out; omega]; exact HE2.out), HG4.out, R4.out⟩
            case measure => simp [intOf]; omega
        · obtain rfl : k = N := by omega
          have HN : Hid (readL (bs.drop at_) = some (zs, bs.drop at2)) := by
            show _ = _
            rw [HL.out, HE.out, Nat.sub_self]
            simp [readM]
          clear hRow
          go_wp2_with fail
          go_ret
          rw [HN.out]
          refine ⟨HG.out, _, rfl, HOw.out, ?_, ?_⟩
          · rw [List.length_drop, hbl, show n - (n - at2) = at2 by omega]; exact HRd.out
          · rw [List.length_drop]; omega
end Go.Proofs.Ytdambggcaimndaa
