/- Layer 4: begins. -/
import Derived.Test.YtdambggcaimndaaFew
namespace Go.Proofs.Ytdambggcaimndaa
open Go.RowKit Go.Sort Go
set_option linter.unusedVariables false

def beginsB (b x : List UInt8) : Bool := decide (x.length ≤ b.length ∧ b.take x.length = x)
theorem begins_short {b x : List UInt8} (h : ¬ x.length ≤ b.length) : beginsB b x = false := by
  unfold beginsB; rw [decide_eq_false_iff_not]; exact fun k => h k.1
theorem begins_long {b x : List UInt8} (h : x.length ≤ b.length) : beginsB b x = decide (b.take x.length = x) := by
  unfold beginsB; simp [h]
theorem begins_true {b x : List UInt8} (h : beginsB b x = true) : b = x ++ b.drop x.length := by
  unfold beginsB at h
  rw [decide_eq_true_eq] at h
  conv => lhs; rw [← List.take_append_drop x.length b, h.2]

theorem begins_any (A A' : Option Addr) (n n' cap cap' : Nat) (b x : List UInt8) (w : World) (hr : Row8 w.heap.size w A n b) (hr' : Row8 w.heap.size w A' n' x) (h1 : n ≤ cap) (h3 : n' ≤ 9223372036854775807) :
    Calls Try.prog 22 #[.slice A n cap, .slice A' n' cap'] w (Gives (.bool (beginsB b x)) w) := by
  by_cases hl : n' ≤ n
  · have hb := begins_long (b := b) (x := x) (by rw [hr.1, hr'.1]; exact hl)
    rw [hr'.1] at hb
    have S := rsame_any A A' n' n' cap cap' _ _ w (hr.take hl) hr' h3 h3
    rw [← hb] at S
    have S := Lib.hid S
    generalize beginsB b x = o at S
    have f1 : decide ((n' : Int) ≤ (n : Int)) = true := by rw [decide_eq_true_eq]; omega
    clear hr hr' hb
    go_enter Try.func22, Try.ntmps22
    go_wp2_with (go_at_call 13; refine S.out.mono ?_; rintro e W ⟨rfl, d⟩; have B := Lib.hid (d.below w.heap.size); clear d)
    go_ret
    exact ⟨rfl, B.out⟩
  · have hb := begins_short (b := b) (x := x) (by rw [hr.1, hr'.1]; exact hl)
    rw [hb]
    have f1 : decide ((n' : Int) ≤ (n : Int)) = false := by rw [decide_eq_false_iff_not]; omega
    clear hr hr' hb
    go_enter Try.func22, Try.ntmps22
    go_wp2_with fail
    go_ret
    exact ⟨rfl, Below.refl _ _⟩
end Go.Proofs.Ytdambggcaimndaa
