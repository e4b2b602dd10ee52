/- Layer 6: the reference's Verify. -/
import Derived.Deep.RegionHeld3
import Derived.Deep.RegionWith
import Derived.Test.YtlimkcodbmafaaaDoorRBack
namespace Go.Proofs.YtlimkcodbmafaaaDoor
open Go.RowKit Go.Sort Go
set_option linter.unusedVariables false
set_option linter.unusedSimpArgs false

theorem beq_cast (x c : Nat) : ((x : Int) == (c : Int)) = decide (x = c) := by rw [Bool.eq_iff_iff]; simp; omega
/-- What Verify returns. -/
def rightB (pub c s : Nat) (zs : List Int) : Bool := decide (chalN (backN pub c s : Int) (pub : Int) zs = c)
def verR (pub c s : Int) (zs : List Int) : Bool × Int := if ElI pub ∧ ExI c ∧ ExI s then (rightB pub.toNat c.toNat s.toNat zs, 0) else (false, 1)

theorem rver_no (q1 q2 q3 : Bool) (hq : q1 = false ∨ q2 = false ∨ q3 = false) (pub c s : Int) (A : Option Addr) (n cap : Nat) (w : World)
    (K1 : Hid (∀ w, Calls Tryd.prog 14 #[.int .i64 pub] w fun e w' => e = .returned (.bool q1) ∧ w = w'))
    (K2 : Hid (∀ w, Calls Tryd.prog 27 #[.int .i64 c] w fun e w' => e = .returned (.bool q2) ∧ w = w'))
    (K3 : Hid (∀ w, Calls Tryd.prog 27 #[.int .i64 s] w fun e w' => e = .returned (.bool q3) ∧ w = w')) :
    Calls Tryd.prog 20 #[.int .i64 pub, sgV c s, .slice A n cap] w (Gives (.tuple #[.bool false, .int .i64 1]) w) := by
  unfold sgV
  obtain ⟨W, hW⟩ : ∃ W, w.alloc (.cells #[.int .i64 c, .int .i64 s] 23) = W := ⟨_, rfl⟩
  have T0 : Two W w.heap.size 23 (.int .i64 c) (.int .i64 s) := by rw [← hW]; exact Two.new w _ _ _
  have hb : Hid (Below w.heap.size w W) := by rw [← hW]; exact below_alloc w _
  have t0 := T0.c0
  have t1 := T0.c1
  have t4 := T0.lt
  clear T0
  rcases (by cases q1 <;> cases q2 <;> simp_all : q1 = false ∨ (q1 = true ∧ q2 = false) ∨ (q1 = true ∧ q2 = true ∧ q3 = false)) with rfl | ⟨rfl, rfl⟩ | ⟨rfl, rfl, rfl⟩
  all_goals
    clear hq
    go_enter Tryd.func20, Tryd.ntmps20
    go_wp2_with (first
      | (go_at_call 14; refine (K1.out _).mono ?_; rintro e w' ⟨rfl, rfl⟩; clear K1)
      | (go_at_call 27; refine (K2.out _).mono ?_; rintro e w' ⟨rfl, rfl⟩; clear K2)
      | (go_at_call 27; refine (K3.out _).mono ?_; rintro e w' ⟨rfl, rfl⟩; clear K3))
    go_ret2
    exact ⟨rfl, hb.out⟩

set_option maxHeartbeats 2000000 in
theorem rver_yes (pub c s : Nat) (hp : El pub) (hc : c < 1073741789) (hs : s < 1073741789) (A : Option Addr) (n cap : Nat) (zs : List Int) (w : World) (hr : RowI w.heap.size w A n zs) (hl : n ≤ 100) (hn : A = none → cap = 0) :
    Calls Tryd.prog 20 #[.int .i64 pub, sgV c s, .slice A n cap] w (Gives (.tuple #[.bool (rightB pub c s zs), .int .i64 0]) w) := by
  have K1 := Lib.hid (rmember_any pub true (by simp [elI_nat hp]) (by omega) (by have := hp.2.1; omega))
  have K2 := Lib.hid (rexponent_any c true (by simp [ExI]; omega) (by omega) (by omega))
  have K3 := Lib.hid (rexponent_any s true (by simp [ExI]; omega) (by omega) (by omega))
  have BK := Lib.hid (rback_any pub c s hp.2.1 hc hs)
  have bl := back_lt pub c s
  have eR : rightB pub c s zs = decide (chalN (backN pub c s : Int) (pub : Int) zs = c) := rfl
  rw [eR]
  clear eR
  have pl := hp.2.1
  generalize backN pub c s = b at BK bl ⊢
  have CH := Lib.hid (fun w' (h : RowI w'.heap.size w' A n zs) => rchal_any (b : Int) (pub : Int) (by omega) (by omega) A n cap zs w' h hl hn)
  have cl := chal_lt (b : Int) (pub : Int) zs
  generalize chalN (b : Int) (pub : Int) zs = x at CH cl ⊢
  have HR := Lib.hid hr
  clear hr hn hp
  unfold sgV at BK ⊢
  obtain ⟨W, hW⟩ : ∃ W, w.alloc (.cells #[.int .i64 c, .int .i64 s] 23) = W := ⟨_, rfl⟩
  have T0 : Two W w.heap.size 23 (.int .i64 c) (.int .i64 s) := by rw [← hW]; exact Two.new w _ _ _
  have hb : Hid (Below w.heap.size w W) := by rw [← hW]; exact below_alloc w _
  have HT := Lib.hid T0
  have t0 := T0.c0
  have t1 := T0.c1
  have t4 := T0.lt
  clear T0
  go_enter Tryd.func20, Tryd.ntmps20
  go_wp2_with (first
    | (go_at_call 14; refine (K1.out _).mono ?_; rintro e w' ⟨rfl, rfl⟩; clear K1)
    | (go_at_call 27; refine (K2.out _).mono ?_; rintro e w' ⟨rfl, rfl⟩; clear K2)
    | (go_at_call 27; refine (K3.out _).mono ?_; rintro e w' ⟨rfl, rfl⟩; clear K3))
  have TD : Hid (Two W.drew w.heap.size 23 (.int .i64 c) (.int .i64 s)) := HT.out
  have BD : Hid (Below w.heap.size w W.drew) := hb.out.drew
  have LD : Hid (w.heap.size < W.drew.heap.size) := t4
  have BKD := Lib.hid (BK.out W.drew)
  clear hW BK
  go_region_held3 (fun w' => w'.cell? ⟨w.heap.size, 0, none⟩ = some (.int .i64 c) ∧ w'.cell? ⟨w.heap.size, 1, none⟩ = some (.int .i64 s)) (go_keep)
    (first
      | (go_at_call 26; refine BKD.out.mono ?_; rintro e w5 ⟨rfl, b5⟩; have T5 := Lib.hid (TD.out.below b5 LD.out); have B5 := Lib.hid (below_more BD.out b5); have s0 := T5.out.c0; have s1 := T5.out.c1; have CW := Lib.hid (CH.out w5 (HR.out.step B5.out)); clear b5)
      | (go_at_call 25; refine CW.out.mono ?_; rintro e w6 ⟨rfl, b6⟩; have T6 := Lib.hid (T5.out.below b6 T5.out.lt); have B6 := Lib.hid (below_more B5.out b6); have s0 := T6.out.c0; have s1 := T6.out.c1; clear b6))
  all_goals
    go_wp2_with fail
    go_ret2
    exact ⟨by rw [← beq_cast]; rfl, B6.out⟩
end Go.Proofs.YtlimkcodbmafaaaDoor
