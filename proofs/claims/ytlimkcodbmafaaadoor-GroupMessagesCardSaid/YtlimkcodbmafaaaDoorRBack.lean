/- Layer 6: the reference's Back. -/
import Derived.Deep.QuietTactic
import Derived.BigQuiet
import Derived.Test.YtlimkcodbmafaaaDoorRSign2
namespace Go.Proofs.YtlimkcodbmafaaaDoor
open Go.RowKit Go.Sort Go
set_option linter.unusedVariables false
set_option linter.unusedSimpArgs false

theorem below_draws {B : Nat} {a w : World} (h : Below B a w) (n : Nat) : Below B a (w.drewN n) := h.trans ⟨rfl, rfl, rfl, Nat.le_refl _, fun _ _ => rfl⟩
/-- G ^ S * pub ^ (Q - C). -/
def backN (pub c s : Nat) : Nat := pw 2147483579 4 s * pw 2147483579 pub ((1073741789 - c) % 1073741789) % 2147483579
theorem back_lt (pub c s : Nat) : backN pub c s < 2147483579 := Nat.mod_lt _ (by omega)

set_option maxHeartbeats 1000000 in
theorem rback_any (pub c s : Nat) (hp : pub < 2147483579) (hc : c < 1073741789) (hs : s < 1073741789) (w : World) :
    Calls Tryd.prog 26 #[.int .i64 pub, sgV c s] w (Gives (.int .i64 (backN pub c s : Int)) w) := by
  unfold sgV
  obtain ⟨x, hx⟩ : ∃ x, (1073741789 - c) % 1073741789 = x := ⟨_, rfl⟩
  have e0 : Int.tmod (1073741789 - (c : Int)) 1073741789 = (x : Int) := by rw [Int.tmod_eq_emod_of_nonneg (by omega)]; omega
  have xl : x < 1073741789 := by omega
  have P1 := Lib.hid (rpower_p 4 s (by omega) (by omega) (by omega))
  rw [show (4 : Int).toNat = 4 from rfl] at P1
  have P2 := Lib.hid (rpower_p pub x (by omega) (by omega) (by omega))
  rw [Int.toNat_natCast] at P2
  have eB : backN pub c s = pw 2147483579 4 s * pw 2147483579 pub x % 2147483579 := by unfold backN; rw [hx]
  have l1 := pw_lt (m := 2147483579) 4 s (by omega)
  have l2 := pw_lt (m := 2147483579) pub x (by omega)
  rw [eB]
  clear eB hx
  generalize pw 2147483579 4 s = r1 at P1 l1 ⊢
  generalize pw 2147483579 pub x = r2 at P2 l2 ⊢
  have e1 := mul_small (m := 2147483579) (a := r1) (b := r2) (by omega) (by omega)
  have e2 := mod_nat (r1 * r2) 2147483579
  obtain ⟨p, hp⟩ : ∃ p, r1 * r2 = p := ⟨_, rfl⟩
  rw [hp] at e1 e2 ⊢
  obtain ⟨q, hq⟩ : ∃ q, p % 2147483579 = q := ⟨_, rfl⟩
  rw [hq] at e2 ⊢
  have e3 : Int.tmod (p : Int) 2147483579 = (q : Int) := e2
  clear hp hq e2
  obtain ⟨W, hW⟩ : ∃ W, w.alloc (.cells #[.int .i64 c, .int .i64 s] 23) = W := ⟨_, rfl⟩
  have T0 : Two W w.heap.size 23 (.int .i64 c) (.int .i64 s) := by rw [← hW]; exact Two.new w _ _ _
  have hb : Hid (Below w.heap.size w W) := by rw [← hW]; exact below_alloc w _
  have t0 := T0.c0
  have t1 := T0.c1
  have t4 := T0.lt
  clear T0
  have Q1 := Lib.hid (fun w => (P1.out w).mono fun e w' (h : e = .returned (.int .i64 (r1 : Int)) ∧ w = w') => (⟨h.1, h.2.symm⟩ : e = .returned (.int .i64 (r1 : Int)) ∧ w' = w))
  have Q2 := Lib.hid (fun w => (P2.out w).mono fun e w' (h : e = .returned (.int .i64 (r2 : Int)) ∧ w = w') => (⟨h.1, h.2.symm⟩ : e = .returned (.int .i64 (r2 : Int)) ∧ w' = w))
  clear P1 P2
  go_enter Tryd.func26, Tryd.ntmps26
  go_wp2_with fail
  go_quiet (first
    | (go_at_call 31; with_reducible refine Calls.quiet_of_same (Q1.out _))
    | (go_at_call 31; with_reducible refine Calls.quiet_of_same (Q2.out _)))
  go_wp2_with fail
  go_ret
  exact ⟨rfl, below_draws hb.out _⟩
end Go.Proofs.YtlimkcodbmafaaaDoor
