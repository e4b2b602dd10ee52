/- Layer 2: the function value that ends returns: it hands the ends on, those at the same time as one. -/
import Derived.RangeFuncNested
import Derived.RangeFuncBound
import Derived.RangeFuncCalls
import Derived.RangeFuncLeaves
import Derived.Shelf.Abstract
import Derived.Shelf.RegionOpen
import Derived.WalkKit
import Derived.OwnWalkIn
import Derived.TacticsInMore
import Derived.LoopNIn
import Derived.LoopIn
import Derived.Sort.QuietTacIn
import Derived.IntWalk
import Derived.Test.YtpooifjieoijjaaEnds2
namespace Go.Proofs.Ytpooifjieoijjaa
open Go.RowKit Go Go.Shelf
set_option linter.unusedVariables false
attribute [local go_sem] Oper.semAt_some

/-- The ends at the same time as one: each time with the sum of its steps. -/
def grp : List (Int × Int) → Int → List (Int × Int)
  | [], _ => []
  | [e], s => [(e.1, s + e.2)]
  | e :: f :: r, s => if f.1 = e.1 then grp (f :: r) (s + e.2) else (e.1, s + e.2) :: grp (f :: r) 0

abbrev Ev := { x : Int × Int // 0 ≤ x.1 ∧ x.1 ≤ 3000000000000001 ∧ -128 ≤ x.2 ∧ x.2 ≤ 128 }
def evV (x : Ev) : Array Value := #[.int .i64 x.1.1, .int .i64 x.1.2]

/-- The blocks from n1 to n2 lie as they lay. -/
def KeepIn (n1 n2 : Nat) (W W' : World) : Prop := W.heap.size ≤ W'.heap.size ∧ ∀ b, n1 ≤ b → b < n2 → W'.heap[b]? = W.heap[b]?
theorem KeepIn.refl (n1 n2 : Nat) (W : World) : KeepIn n1 n2 W W := ⟨Nat.le_refl _, fun _ _ _ => rfl⟩
theorem KeepIn.trans {n1 n2 : Nat} {A B C : World} (h : KeepIn n1 n2 A B) (k : KeepIn n1 n2 B C) : KeepIn n1 n2 A C := ⟨Nat.le_trans h.1 k.1, fun b h1 h2 => (k.2 b h1 h2).trans (h.2 b h1 h2)⟩
theorem KeepIn.grown {n1 n2 : Nat} {A B : World} {row : Option Nat} (hg : A.grownBy B row) (hn : n2 ≤ A.heap.size) (hr : ∀ r, row = some r → r < n1 ∨ n2 ≤ r) : KeepIn n1 n2 A B :=
  ⟨hg.size, fun b h1 h2 => hg.block b (by omega) (fun e => by have := hr b e.symm; omega)⟩
theorem KeepIn.alloc {n1 n2 : Nat} (W : World) (o : Obj) (hn : n2 ≤ W.heap.size) : KeepIn n1 n2 W (W.alloc o) := KeepIn.grown (World.grownBy_alloc W o none) hn (fun r e => by cases e)
theorem KeepIn.drewN {n1 n2 : Nat} {A B : World} (h : KeepIn n1 n2 A B) (k : Nat) : KeepIn n1 n2 A (B.drewN k) := h
theorem KeepIn.setCell {n1 n2 : Nat} (W : World) (p : Addr) (v : Value) (h : p.block < n1 ∨ n2 ≤ p.block) : KeepIn n1 n2 W (W.setCell p v) :=
  ⟨by simp [World.setCell], fun b h1 h2 => Below.heap_setCell W p v b (fun e => by subst e; omega)⟩
theorem EndsAt.keep {n1 n2 : Nat} {A B : World} {bx blk cap : Nat} {E : List (Int × Int)} (h : EndsAt A bx blk cap E) (k : KeepIn n1 n2 A B) (h1 : n1 ≤ bx) (h2 : bx < n2) (h3 : n1 ≤ blk) (h4 : blk < n2) : EndsAt B bx blk cap E :=
  ⟨(k.2 bx h1 h2).trans h.1, Nat.lt_of_lt_of_le h.2.1 k.1, fun i hi => ⟨(World.cell?_of_block (k.2 blk h3 h4)).trans (h.2.2 i hi).1, (World.cell?_of_block (k.2 blk h3 h4)).trans (h.2.2 i hi).2⟩⟩

def EndOk (e : Int × Int) : Prop := 0 ≤ e.1 ∧ e.1 ≤ 3000000000000001 ∧ -1 ≤ e.2 ∧ e.2 ≤ 1

theorem drop_at (E : List (Int × Int)) (k : Nat) (h : k < E.length) : E.drop k = E.getD k (0, 0) :: E.drop (k + 1) := by
  rw [List.drop_eq_getElem_cons h]; simp [List.getD, h]
theorem grp_last (E : List (Int × Int)) (k : Nat) (s : Int) (h : k + 1 = E.length) : grp (E.drop k) s = [((E.getD k (0, 0)).1, s + (E.getD k (0, 0)).2)] := by
  rw [drop_at E k (by omega), List.drop_of_length_le (by omega)]; rfl
theorem grp_same (E : List (Int × Int)) (k : Nat) (s : Int) (h : k + 1 < E.length) (he : (E.getD (k + 1) (0, 0)).1 = (E.getD k (0, 0)).1) : grp (E.drop k) s = grp (E.drop (k + 1)) (s + (E.getD k (0, 0)).2) := by
  rw [drop_at E k (by omega), drop_at E (k + 1) h, grp, if_pos he]
theorem grp_next (E : List (Int × Int)) (k : Nat) (s : Int) (h : k + 1 < E.length) (he : ¬ (E.getD (k + 1) (0, 0)).1 = (E.getD k (0, 0)).1) : grp (E.drop k) s = ((E.getD k (0, 0)).1, s + (E.getD k (0, 0)).2) :: grp (E.drop (k + 1)) 0 := by
  rw [drop_at E k (by omega), drop_at E (k + 1) h, grp, if_neg he]

set_option maxRecDepth 100000 in
set_option maxHeartbeats 4000000 in
theorem iter_in (F : Fence) (n : Nat) (h38 : F.fn 38) (hro : F.round = none) (hn : 1 ≤ n) (l n1 n2 bx blk cap : Nat) (E : List (Int × Int)) (hE : E.length ≤ 128) (hok : ∀ k, k < E.length → EndOk (E.getD k (0, 0))) (h1 : n1 ≤ bx) (h2 : bx < n2) (h3 : n1 ≤ blk) (h4 : blk < n2)
    (J Jx : List Ev → World → Prop) (W : World) (hJ : AbidesFrom W.heap.size J) (hJx : AbidesFrom W.heap.size Jx)
    (hY : ∀ pre x W, J pre W → pre.length < E.length → YieldAt F (n - 1) Try.prog l (evV x) W fun e W' =>
      (e = .returned (.bool true) ∧ J (pre ++ [x]) W' ∧ KeepIn n1 n2 W W') ∨ (e = .returned (.bool false) ∧ Jx (pre ++ [x]) W'))
    (hn2 : n2 ≤ W.heap.size) (hEA : EndsAt W bx blk cap E) (h0 : J [] W) :
    CallsIn F n Try.prog 38 #[.func (.yield l) #[] #[], .pointer (some ⟨bx, 0, none⟩)] W fun e W' => (∃ v, e = .returned v) ∧
      ((∃ ys : List Ev, ys.map (·.1) = grp E 0 ∧ J ys W') ∨ (∃ pre, True ∧ Jx pre W')) := by
  refine callsIn_of_wp Try.func38 rfl h38 ?_ hro
  have HEA := Lib.hid hEA
  have HY := Lib.hid hY
  have HOK := Lib.hid hok
  have bc := hEA.1.cell
  clear hEA hY hok
  simp only [Try.ntmps38, List.size_toArray, List.length_cons, List.length_nil, Nat.reduceAdd, Nat.reduceSub, Array.replicate_succ, Array.replicate_zero, List.push_toArray, List.append_toArray, List.nil_append, List.cons_append]
  gi_wp2
  clear bc
  gi_loopw [3, 8] (fun s i wr => ∃ (k : Nat) (x : Int) (pre : List Ev), k ≤ E.length ∧ i = .int .i64 k ∧ s = .int .i64 x ∧ -(k : Int) ≤ x ∧ x ≤ k ∧ Hid (pre.length ≤ k ∧ pre.map (·.1) ++ grp (E.drop k) x = grp E 0 ∧ J pre wr ∧ KeepIn n1 n2 W wr)) (fun _ i _ => E.length - (intOf i).toNat)
  case atStart => exact ⟨0, 0, [], Nat.zero_le _, rfl, rfl, by omega, by omega, Nat.le_refl _, rfl, h0, KeepIn.refl _ _ _⟩
  case round =>
    obtain ⟨k, x, pre, hk, rfl, rfl, hx1, hx2, HI⟩ := hrel
    have EA := HEA.out.keep HI.out.2.2.2 h1 h2 h3 h4
    by_cases hlt : k < E.length
    · obtain ⟨c1, c2⟩ := EA.2.2 k hlt
      have bc := EA.1.cell
      have bl := EA.1.lt
      have bk := EA.2.1
      obtain ⟨o1, o2, o3, o4⟩ := HOK.out k hlt
      by_cases hk1 : k + 1 < E.length
      · obtain ⟨d1, d2⟩ := EA.2.2 (k + 1) hk1
        by_cases hs : (E.getD (k + 1) (0, 0)).1 = (E.getD k (0, 0)).1
        · have hg := grp_same E k x hk1 hs
          rw [hs] at d1
          generalize E.getD k (0, 0) = y at c1 c2 o1 o2 o3 o4 d1 hg
          have HGR := Lib.hid hg
          clear d2 hg hs EA
          gi_wp2
          have hw1 : IntKind.i64.wrap ((k : Int) + 1) = (k : Int) + 1 := IntWalk.i64_in _ (by omega)
          have hd1 : decide ((k : Int) + 1 < (E.length : Int)) = true := by rw [decide_eq_true_eq]; omega
          have hd2 : ((k : Int) + 1).toNat = k + 1 := by omega
          have hd3 : 0 ≤ (k : Int) + 1 := by omega
          have hd4 : (k : Int) + 1 < (E.length : Int) := by omega
          refine wpIn_region_quiet_lit hro (by kernel_rfl) (by kernel_rfl) ?_
          repeat (quiet_step_in (fail))
          refine wpQuietIn_nil ?_
          intro _ hw'
          obtain ⟨nq, hw''⟩ := hw'
          subst hw''
          clear hw1 hd1 hd2 hd3 hd4
          have gr : wr.grownBy ((wr.alloc (.cells #[.int .i64 y.1, .int .i64 y.2] 59)).drewN nq) none := by
            have h := World.grownBy_alloc wr (.cells #[.int .i64 y.1, .int .i64 y.2] 59) none
            exact ⟨h.os, h.tape, h.output, h.size, h.block⟩
          have kr : KeepIn n1 n2 W ((wr.alloc (.cells #[.int .i64 y.1, .int .i64 y.2] 59)).drewN nq) := HI.out.2.2.2.trans (KeepIn.grown gr (Nat.le_trans hn2 HI.out.2.2.2.1) (fun r e => by cases e))
          have jr : J pre ((wr.alloc (.cells #[.int .i64 y.1, .int .i64 y.2] 59)).drewN nq) := hJ pre wr _ none HI.out.2.2.1 gr (fun r e => by cases e)
          have HG : Hid (pre.length ≤ k + 1 ∧ pre.map (·.1) ++ grp (E.drop (k + 1)) (x + y.2) = grp E 0 ∧ J pre ((wr.alloc (.cells #[.int .i64 y.1, .int .i64 y.2] 59)).drewN nq) ∧ KeepIn n1 n2 W ((wr.alloc (.cells #[.int .i64 y.1, .int .i64 y.2] 59)).drewN nq)) := by
            refine ⟨Nat.le_succ_of_le HI.out.1, ?_, jr, kr⟩
            have := HI.out.2.1
            rwa [HGR.out] at this
          clear jr kr gr
          gi_wp2
          go_roundw
          case rel => exact ⟨k + 1, x + y.2, pre, by omega, by go_num, rfl, by omega, by omega, HG.out⟩
          case measure => simp [intOf]; omega
        · have hg := grp_next E k x hk1 hs
          generalize hf : (E.getD (k + 1) (0, 0)).1 = f at d1 hs
          generalize E.getD k (0, 0) = y at c1 c2 o1 o2 o3 o4 hg hs
          have HGR := Lib.hid hg
          have hs1 : (f == y.1) = false := by simpa using hs
          clear d2 hg hs EA hf
          gi_wp2
          have hw1 : IntKind.i64.wrap ((k : Int) + 1) = (k : Int) + 1 := IntWalk.i64_in _ (by omega)
          have hd1 : decide ((k : Int) + 1 < (E.length : Int)) = true := by rw [decide_eq_true_eq]; omega
          have hd2 : ((k : Int) + 1).toNat = k + 1 := by omega
          have hd3 : 0 ≤ (k : Int) + 1 := by omega
          have hd4 : (k : Int) + 1 < (E.length : Int) := by omega
          refine wpIn_region_quiet_lit hro (by kernel_rfl) (by kernel_rfl) ?_
          repeat (quiet_step_in (fail))
          refine wpQuietIn_nil ?_
          intro _ hw'
          obtain ⟨nq, hw''⟩ := hw'
          subst hw''
          clear hw1 hd1 hd2 hd3 hd4
          have gr : wr.grownBy ((wr.alloc (.cells #[.int .i64 y.1, .int .i64 y.2] 59)).drewN nq) none := by
            have h := World.grownBy_alloc wr (.cells #[.int .i64 y.1, .int .i64 y.2] 59) none
            exact ⟨h.os, h.tape, h.output, h.size, h.block⟩
          have kr : KeepIn n1 n2 W ((wr.alloc (.cells #[.int .i64 y.1, .int .i64 y.2] 59)).drewN nq) := HI.out.2.2.2.trans (KeepIn.grown gr (Nat.le_trans hn2 HI.out.2.2.2.1) (fun r e => by cases e))
          have jr : J pre ((wr.alloc (.cells #[.int .i64 y.1, .int .i64 y.2] 59)).drewN nq) := hJ pre wr _ none HI.out.2.2.1 gr (fun r e => by cases e)
          obtain ⟨fn, tmps, assign, body, hy, hR⟩ := HY.out pre ⟨(y.1, x + y.2), o1, o2, by simp only; omega, by simp only; omega⟩ _ jr (by have := HI.out.1; omega)
          dsimp only [evV] at hy
          gi_wp2
          refine hR.mono ?_
          rintro e W3 (⟨rfl, hJ3, hk3⟩ | ⟨rfl, hJx3⟩)
          · have HG : Hid ((pre ++ [(⟨(y.1, x + y.2), o1, o2, by simp only; omega, by simp only; omega⟩ : Ev)]).length ≤ k + 1 ∧ (pre ++ [(⟨(y.1, x + y.2), o1, o2, by simp only; omega, by simp only; omega⟩ : Ev)]).map (·.1) ++ grp (E.drop (k + 1)) 0 = grp E 0 ∧ J (pre ++ [⟨(y.1, x + y.2), o1, o2, by simp only; omega, by simp only; omega⟩]) W3 ∧ KeepIn n1 n2 W W3) := by
              refine ⟨by simp; exact HI.out.1, ?_, hJ3, kr.trans hk3⟩
              have := HI.out.2.1
              rw [HGR.out] at this
              rw [← this]
              simp
            clear hJ3 hk3 jr kr gr hy hR
            gi_wp2
            go_roundw
            case rel => exact ⟨k + 1, 0, _, by omega, by go_num, rfl, by omega, by omega, HG.out⟩
            case measure => simp [intOf]; omega
          · gi_wp2
            refine bodyPost_ret (results_none rfl _ _ _) rfl ?_
            exact ⟨⟨_, rfl⟩, .inr ⟨_, trivial, hJx3⟩⟩
      · have hg := grp_last E k x (by omega)
        generalize E.getD k (0, 0) = y at c1 c2 o1 o2 o3 o4 hg
        have HGR := Lib.hid hg
        clear hg EA
        gi_wp2
        have hw1 : IntKind.i64.wrap ((k : Int) + 1) = (k : Int) + 1 := IntWalk.i64_in _ (by omega)
        have hd1 : decide ((k : Int) + 1 < (E.length : Int)) = false := by rw [decide_eq_false_iff_not]; omega
        refine wpIn_region_quiet_lit hro (by kernel_rfl) (by kernel_rfl) ?_
        repeat (quiet_step_in (fail))
        refine wpQuietIn_nil ?_
        intro _ hw'
        obtain ⟨nq, hw''⟩ := hw'
        subst hw''
        clear hw1 hd1
        have gr : wr.grownBy ((wr.alloc (.cells #[.int .i64 y.1, .int .i64 y.2] 59)).drewN nq) none := by
          have h := World.grownBy_alloc wr (.cells #[.int .i64 y.1, .int .i64 y.2] 59) none
          exact ⟨h.os, h.tape, h.output, h.size, h.block⟩
        have kr : KeepIn n1 n2 W ((wr.alloc (.cells #[.int .i64 y.1, .int .i64 y.2] 59)).drewN nq) := HI.out.2.2.2.trans (KeepIn.grown gr (Nat.le_trans hn2 HI.out.2.2.2.1) (fun r e => by cases e))
        have jr : J pre ((wr.alloc (.cells #[.int .i64 y.1, .int .i64 y.2] 59)).drewN nq) := hJ pre wr _ none HI.out.2.2.1 gr (fun r e => by cases e)
        obtain ⟨fn, tmps, assign, body, hy, hR⟩ := HY.out pre ⟨(y.1, x + y.2), o1, o2, by simp only; omega, by simp only; omega⟩ _ jr (by have := HI.out.1; omega)
        dsimp only [evV] at hy
        gi_wp2
        refine hR.mono ?_
        rintro e W3 (⟨rfl, hJ3, hk3⟩ | ⟨rfl, hJx3⟩)
        · have HG : Hid ((pre ++ [(⟨(y.1, x + y.2), o1, o2, by simp only; omega, by simp only; omega⟩ : Ev)]).length ≤ k + 1 ∧ (pre ++ [(⟨(y.1, x + y.2), o1, o2, by simp only; omega, by simp only; omega⟩ : Ev)]).map (·.1) ++ grp (E.drop (k + 1)) 0 = grp E 0 ∧ J (pre ++ [⟨(y.1, x + y.2), o1, o2, by simp only; omega, by simp only; omega⟩]) W3 ∧ KeepIn n1 n2 W W3) := by
            refine ⟨by simp; exact HI.out.1, ?_, hJ3, kr.trans hk3⟩
            have := HI.out.2.1
            rw [HGR.out] at this
            rw [← this]
            simp [List.drop_of_length_le (show E.length ≤ k + 1 by omega), grp]
          clear hJ3 hk3 jr kr gr hy hR
          gi_wp2
          go_roundw
          case rel => exact ⟨k + 1, 0, _, by omega, by go_num, rfl, by omega, by omega, HG.out⟩
          case measure => simp [intOf]; omega
        · gi_wp2
          refine bodyPost_ret (results_none rfl _ _ _) rfl ?_
          exact ⟨⟨_, rfl⟩, .inr ⟨_, trivial, hJx3⟩⟩
    · obtain rfl : k = E.length := by omega
      gi_wp2
      go_end0
      refine ⟨⟨_, rfl⟩, .inl ⟨pre, ?_, HI.out.2.2.1⟩⟩
      have := HI.out.2.1
      rwa [List.drop_length, show grp [] x = [] from rfl, List.append_nil] at this
end Go.Proofs.Ytpooifjieoijjaa
