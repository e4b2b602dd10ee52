/- Layer 4's own functions (gen/from_s04g.py): digits. -/
import Derived.RangeFuncNested
import Derived.RangeFuncBound
import Derived.RangeFuncCalls
import Derived.RangeFuncLeaves
import Derived.RangeFuncBox
import Derived.Shelf.Abstract
import Derived.Shelf.RegionOpen
import Derived.WalkKit
import Derived.OwnWalkIn
import Derived.TacticsInMore
import Derived.LoopNIn
import Derived.LoopIn
import Derived.Sort.QuietTacIn
import Derived.IntWalk
import Derived.Deep.DeepMust
import Derived.Test.YtmfbnajaocaikaaGInt
namespace Go.Proofs.Ytmfbnajaocaikaa
open Go.RowKit Go.Sort Go Go.Shelf
set_option linter.unusedVariables false
set_option linter.unusedSimpArgs false
attribute [local go_sem] Oper.semAt_some
def encB (c : UInt8) : Array Value := #[.int .u8 (c.toNat : Int)]
theorem digits_any (x : Int) (w : World) : Calls Try.prog 54 #[.int .i64 x] w fun e w' => e = .returned (.func (.func 57) #[] #[.pointer (some ⟨w.heap.size, 0, none⟩)]) ∧ w' = w.alloc (.cells #[.int .i64 x] 3) := by
  have hmf : ∀ (fn : Fn) (first cap : Array Value) (w : World), (Instr.makeFunc fn first cap).run Try.prog w = .ok (.func fn first cap) w := fun _ _ _ _ => rfl
  go_enter Try.func54, Try.ntmps54
  go_wp2_with fail
  go_ret
  exact ⟨rfl, rfl⟩
theorem digs_split (m : Nat) (h : ¬ m < 128) : ∃ c : UInt8, ((c.toNat : Nat) : Int) = (m : Int) % 128 + 128 ∧ digs m = c :: digs (m / 128) :=
  ⟨UInt8.ofNat (m % 128 + 128), by rw [ofNat_toNat (by omega)]; omega, digs_big h⟩
theorem digs_end (m : Nat) (h : m < 128) : ∃ c : UInt8, ((c.toNat : Nat) : Int) = (m : Int) ∧ digs m = [c] :=
  ⟨UInt8.ofNat m, by rw [ofNat_toNat (by omega)], digs_small h⟩
set_option maxRecDepth 100000 in
set_option maxHeartbeats 2000000 in
theorem digits_in (F : Fence) (n : Nat) (h42 : F.fn 57) (h43 : F.fn 58) (hro : F.round = none) (hn : 1 ≤ n) (l bx : Nat) (x : Int) (hx : InI x)
    (J Jx : List UInt8 → World → Prop) (W : World)
    (hY : ∀ pre c W, J pre W → pre.length < (intB x).length → YieldAt F (n - 1) Try.prog l (encB c) W fun e W' =>
      (e = .returned (.bool true) ∧ J (pre ++ [c]) W' ∧ True) ∨ (e = .returned (.bool false) ∧ Jx (pre ++ [c]) W'))
    (hbx : W.cell? ⟨bx, 0, none⟩ = some (.int .i64 x)) (h0 : J [] W)
    (hN : CallsIn F (n - 1) Try.prog 58 #[.int .i64 x] W fun e w' => e = .returned (.int .u64 (num x : Int)) ∧ W = w') :
    CallsIn F n Try.prog 57 #[.func (.yield l) #[] #[], .pointer (some ⟨bx, 0, none⟩)] W fun e W' => (∃ v, e = .returned v) ∧
      ((∃ ys : List UInt8, ys = intB x ∧ J ys W') ∨ (∃ pre, True ∧ Jx pre W')) := by
  refine callsIn_of_wp Try.func57 rfl h42 ?_ hro
  have hlt := num_lt hx
  have hib : Hid ([] ++ digs (num x) = intB x) := rfl
  have HY := Lib.hid hY
  have HN := Lib.hid hN
  clear hY hN
  generalize num x = m0 at HN hlt hib
  simp only [Try.ntmps57, List.size_toArray, List.length_cons, List.length_nil, Nat.reduceAdd, Nat.reduceSub, Array.replicate_succ, Array.replicate_zero, List.push_toArray, List.append_toArray, List.nil_append, List.cons_append]
  gi_wp2_with (gi_at_call 58; go_must (refine HN.out.mono ?_); rintro e w' ⟨rfl, rfl⟩)
  gi_loopw [3] (fun s wr => ∃ (m : Nat) (pre : List UInt8), s = .int .u64 m ∧ m < 18446744073709551616 ∧ Hid (pre ++ digs m = intB x) ∧ Hid (J pre wr)) (fun s _ => (intOf s).toNat)
  case atStart => exact ⟨m0, [], rfl, hlt, hib, h0⟩
  case round =>
    obtain ⟨m, pre, rfl, hm, HI, HJ⟩ := hrel
    by_cases hl : m < 128
    · have f1 : decide ((128 : Int) ≤ (m : Int)) = false := by rw [decide_eq_false_iff_not]; omega
      have f2 : decide (128 ≤ m) = false := by rw [decide_eq_false_iff_not]; omega
      have e1 : IntKind.u8.wrap (m : Int) = (m : Int) := by rw [IntKind.wrap_u8']; omega
      obtain ⟨c, hc, hd⟩ := digs_end m hl
      have hlen : pre.length < (intB x).length := by rw [← HI.out, hd]; simp
      have hpc : Hid (pre ++ [c] = intB x) := by rw [hd] at HI; exact HI
      obtain ⟨fn, tmps, assign, body, hy, hR⟩ := HY.out pre c _ HJ.out hlen
      dsimp only [encB] at hy
      rw [hc] at hy
      clear hlen hd hc
      gi_wp2
      refine hR.mono ?_
      rintro e W3 (⟨rfl, hJ3, -⟩ | ⟨rfl, hJx3⟩)
      · have HK := Lib.hid hJ3
        clear hJ3 hR hy
        gi_wp2
        go_end0
        exact ⟨⟨_, rfl⟩, .inl ⟨pre ++ [c], hpc.out, HK.out⟩⟩
      · have HK := Lib.hid hJx3
        clear hJx3 hR hy
        gi_wp2
        go_end0
        exact ⟨⟨_, rfl⟩, .inr ⟨_, trivial, HK.out⟩⟩
    · have f1 : decide ((128 : Int) ≤ (m : Int)) = true := by rw [decide_eq_true_eq]; omega
      have f2 : decide (128 ≤ m) = true := by rw [decide_eq_true_eq]; omega
      obtain ⟨c, hc, hd⟩ := digs_split m hl
      have hlen : pre.length < (intB x).length := by rw [← HI.out, hd]; simp
      have hpc : Hid ((pre ++ [c]) ++ digs (m / 128) = intB x) := by rw [hd] at HI; simpa using HI
      have e1 : IntKind.u8.wrap ((m : Int) % 128 + 128) = (m : Int) % 128 + 128 := by rw [IntKind.wrap_u8']; omega
      have e0 : IntKind.u64.wrap ((m : Int) % 128 + 128) = (m : Int) % 128 + 128 := by exact IntWalk.u64_in _ (by omega)
      obtain ⟨fn, tmps, assign, body, hy, hR⟩ := HY.out pre c _ HJ.out hlen
      dsimp only [encB] at hy
      rw [hc] at hy
      clear hlen hd hc
      gi_wp2
      refine hR.mono ?_
      rintro e W3 (⟨rfl, hJ3, -⟩ | ⟨rfl, hJx3⟩)
      · have HK := Lib.hid hJ3
        clear hJ3 hR hy
        gi_wp2
        go_roundw
        case rel => exact ⟨m / 128, pre ++ [c], by go_num, by omega, hpc, HK⟩
        case measure => simp [intOf]; omega
      · have HK := Lib.hid hJx3
        clear hJx3 hR hy
        gi_wp2
        refine bodyPost_ret (results_none rfl _ _ _) rfl ?_
        exact ⟨⟨_, rfl⟩, .inr ⟨_, trivial, HK.out⟩⟩
end Go.Proofs.Ytmfbnajaocaikaa
