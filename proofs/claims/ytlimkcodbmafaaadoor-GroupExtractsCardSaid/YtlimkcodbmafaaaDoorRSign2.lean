/- Layer 6: the reference's Sign, Back, Verify. -/
import Derived.Test.YtlimkcodbmafaaaDoorRSign
namespace Go.Proofs.YtlimkcodbmafaaaDoor
open Go.RowKit Go.Sort Go
set_option linter.unusedVariables false
set_option linter.unusedSimpArgs false

/-- S, as Go computes it. -/
theorem sum_small {o c k : Nat} (ho : o < 1073741789) (hc : c < 1073741789) (hk : k < 1073741789) :
    wrap64 ((c : Int) * (k : Int)) = ((c * k : Nat) : Int) ∧ wrap64 ((o : Int) + ((c * k : Nat) : Int)) = ((o + c * k : Nat) : Int) ∧ Int.tmod ((o + c * k : Nat) : Int) 1073741789 = (((o + c * k) % 1073741789 : Nat) : Int) := by
  refine ⟨mul_small (m := 1073741789) (by omega) (by omega), ?_, mod_nat _ 1073741789⟩
  have h : c * k ≤ 1073741788 * 1073741788 := Nat.mul_le_mul (by omega) (by omega)
  generalize c * k = s at h ⊢
  unfold wrap64; omega

set_option maxHeartbeats 1000000 in
theorem rsign_yes (k o : Nat) (hk : 1 ≤ k) (hk2 : k < 1073741789) (ho : 1 ≤ o) (ho2 : o < 1073741789) (A : Option Addr) (n cap : Nat) (zs : List Int) (w : World) (hr : RowI w.heap.size w A n zs) (hl : n ≤ 100) (hn : A = none → cap = 0) :
    Calls Tryd.prog 18 #[.int .i64 k, .int .i64 o, .slice A n cap] w (Gives (.tuple #[sgV (sigC k o zs) (sigS k o zs), .int .i64 0]) w) := by
  have K1 := Lib.hid (rkey_any k true (by simp [SeI]; omega) (by omega) (by omega))
  have K2 := Lib.hid (rkey_any o true (by simp [SeI]; omega) (by omega) (by omega))
  have P1 := Lib.hid (rpower_p 4 o (by omega) (by omega) (by omega))
  have P2 := Lib.hid (rpower_p 4 k (by omega) (by omega) (by omega))
  rw [show (4 : Int).toNat = 4 from rfl] at P1 P2
  have eC : sigC k o zs = chalN (pw 2147483579 4 o : Int) (pw 2147483579 4 k : Int) zs := by unfold sigC; rw [Int.toNat_natCast, Int.toNat_natCast]
  have eS : sigS k o zs = (o + sigC k o zs * k) % 1073741789 := by unfold sigS; rw [Int.toNat_natCast, Int.toNat_natCast]
  have cl := chal_lt (pw 2147483579 4 o : Int) (pw 2147483579 4 k : Int) zs
  have l1 := pw_lt (m := 2147483579) 4 o (by omega)
  have l2 := pw_lt (m := 2147483579) 4 k (by omega)
  obtain ⟨W, hW⟩ : ∃ W, w.alloc (.cells #[.int .i64 0, .int .i64 0] 23) = W := ⟨_, rfl⟩
  have T0 : Hid (Two W w.heap.size 23 (.int .i64 0) (.int .i64 0)) := by rw [← hW]; exact Two.new w _ _ _
  have hb : Hid (Below w.heap.size w W) := by rw [← hW]; exact below_alloc w _
  have C := Lib.hid (rchal_any (pw 2147483579 4 o : Int) (pw 2147483579 4 k : Int) (by omega) (by omega) A n cap zs W (hr.step hb.out) hl hn)
  rw [eS, eC]
  clear eS eC
  generalize pw 2147483579 4 o = r1 at P1 l1 C cl ⊢
  generalize pw 2147483579 4 k = r2 at P2 l2 C cl ⊢
  generalize chalN (r1 : Int) (r2 : Int) zs = c at C cl ⊢
  obtain ⟨e1, e2, e3⟩ := sum_small ho2 cl hk2
  obtain ⟨p, hp⟩ : ∃ p, c * k = p := ⟨_, rfl⟩
  rw [hp] at e1 e2 e3 ⊢
  obtain ⟨q, hq⟩ : ∃ q, o + p = q := ⟨_, rfl⟩
  rw [hq] at e2 e3 ⊢
  obtain ⟨s, hs⟩ : ∃ s, q % 1073741789 = s := ⟨_, rfl⟩
  rw [hs] at e3 ⊢
  clear hp hq hs hr hn
  have t4 := T0.out.lt
  go_enter Tryd.func18, Tryd.ntmps18
  go_wp2_with (first
    | (go_at_call 35; refine (K1.out _).mono ?_; rintro e w' ⟨rfl, rfl⟩; clear K1)
    | (go_at_call 35; refine (K2.out _).mono ?_; rintro e w' ⟨rfl, rfl⟩; clear K2)
    | (go_at_call 31; refine (P1.out _).mono ?_; rintro e w' ⟨rfl, rfl⟩; clear P1)
    | (go_at_call 31; refine (P2.out _).mono ?_; rintro e w' ⟨rfl, rfl⟩; clear P2)
    | (go_at_call 25; refine C.out.mono ?_; rintro e w1 ⟨rfl, b1⟩; refine Hid.out ?_))
  refine Lib.hid ?_
  have T1 : Two w1 w.heap.size 23 (.int .i64 0) (.int .i64 0) := T0.out.below b1 t4
  have B1 := Lib.hid (below_more hb.out b1)
  have t0 := T1.c0
  have t1 := T1.c1
  have t2 := T1.free 0
  have t3 := T1.free 1
  have t5 := T1.lt
  clear T1 b1 hW
  go_wp2_with fail
  refine bodyPost_ret (v := .tuple #[.agg #[.int .i64 c, .int .i64 s], .int .i64 0]) (by simp [results, Tryd.results18, go_sem, t0, t1, t5]) rfl ⟨rfl, ?_⟩
  exact (B1.out.setCell (p := ⟨w.heap.size, 0, none⟩) (by simp) _).setCell (p := ⟨w.heap.size, 1, none⟩) (by simp) _
end Go.Proofs.YtlimkcodbmafaaaDoor
