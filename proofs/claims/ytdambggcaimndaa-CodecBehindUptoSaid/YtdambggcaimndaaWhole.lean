/- Layer 4: the reader: whole. -/
import Derived.Test.YtdambggcaimndaaList
namespace Go.Proofs.Ytdambggcaimndaa
open Go.RowKit Go.Sort Go
set_option linter.unusedVariables false

/-- The list that is all there is; or the panic with ErrForm. -/
def WholeEnd (g : Nat) (o : Option (List Int)) (w : World) (e : Ending) (w' : World) : Prop :=
  w.grownBy w' (some g) ∧ match o with
    | some l => ∃ v, e = .returned v ∧ OwnI w.heap.size w' v l
    | none => e = .panicked form

theorem drewN_eq (w : World) : ∀ x, w.grownBy x none → w.grownBy x.drew none := fun x h => ⟨h.os, h.tape, h.output, h.size, h.block⟩
theorem grown_drew {w x : World} {row : Option Nat} (h : w.grownBy x row) : w.grownBy x.drew row := ⟨h.os, h.tape, h.output, h.size, h.block⟩

set_option maxHeartbeats 1000000 in
theorem whole_any (g : Nat) (A : Option Addr) (n cap at_ : Nat) (bs : List UInt8) (w : World) (h : Rd w g A n cap at_) (hr : Row8 w.heap.size w A n bs) (hp : 0 < n → ∀ p, A = some p → p.block ≠ g) (hn : n ≤ 1000000000) (hc : n ≤ cap) (ha : at_ ≤ n) :
    Calls Try.prog 31 #[.pointer (some ⟨g, 0, none⟩)] w (WholeEnd g (getR (bs.drop at_)) w) := by
  have T := list_any g A n cap at_ bs w h hr hp hn hc ha
  clear h hr hp
  cases hq : readL (bs.drop at_) with
  | none =>
    have HN : Hid (getR (bs.drop at_) = none) := by show getR _ = none; rw [getR, hq]
    rw [hq] at T
    have T := Lib.hid T
    clear hq
    go_enter Try.func31, Try.ntmps31
    go_wp2_with (go_at_call 39; refine T.out.mono ?_; rintro e w1 ⟨b1, rfl⟩)
    rw [HN.out]
    exact ⟨rfl, b1, rfl⟩
  | some p =>
    obtain ⟨l, r⟩ := p
    rw [hq] at T
    have T := Lib.hid T
    cases r with
    | nil =>
      have HN : Hid (getR (bs.drop at_) = some l) := by show getR _ = _; rw [getR, hq]
      clear hq
      go_enter Try.func31, Try.ntmps31
      go_wp2_with (go_at_call 39; refine T.out.mono ?_; rintro e w1 ⟨b1, v, rfl, o1, r1, hl1⟩; refine Hid.out ?_)
      refine Lib.hid ?_
      rw [List.length_nil, Nat.sub_zero] at r1
      have c0 := r1.c0
      have c1 := r1.c1
      have B1 := Lib.hid b1
      have O1 := Lib.hid o1
      clear b1 o1 r1 hl1
      go_wp2_with fail
      go_region
      go_wp2_with fail
      go_ret
      rw [HN.out]
      exact ⟨grown_drew B1.out, _, rfl, own_below O1.out ((Below.refl _ _).drew)⟩
    | cons c r =>
      have HN : Hid (getR (bs.drop at_) = none) := by show getR _ = _; rw [getR, hq]
      clear hq
      go_enter Try.func31, Try.ntmps31
      go_wp2_with (go_at_call 39; refine T.out.mono ?_; rintro e w1 ⟨b1, v, rfl, o1, r1, hl1⟩; refine Hid.out ?_)
      refine Lib.hid ?_
      have e1 : decide (n - (c :: r).length < n) = true := by rw [decide_eq_true_eq]; rw [List.length_cons] at hl1 ⊢; omega
      generalize n - (c :: r).length = m at r1 e1
      have c0 := r1.c0
      have c1 := r1.c1
      have B1 := Lib.hid b1
      clear b1 o1 r1 hl1
      go_wp2_with fail
      go_region
      go_wp2_with fail
      rw [HN.out]
      exact ⟨rfl, grown_drew B1.out, rfl⟩
end Go.Proofs.Ytdambggcaimndaa
