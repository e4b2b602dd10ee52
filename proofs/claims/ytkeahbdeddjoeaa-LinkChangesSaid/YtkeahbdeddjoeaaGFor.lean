/- Layer 10: package link's inForce, and the function value that goes through the delays in force (gen/gen_for.py writes this). -/
import Derived.RangeFuncNested
import Derived.RangeFuncBound
import Derived.RangeFuncCalls
import Derived.RangeFuncLeaves
import Derived.RangeFuncBox
import Derived.Shelf.Abstract
import Derived.Shelf.RegionOpen
import Derived.WalkKit
import Derived.OwnWalkIn
import Derived.TacticsInMore
import Derived.LoopNIn
import Derived.LoopIn
import Derived.Sort.QuietTacIn
import Derived.IntWalk
import Derived.Test.YtkeahbdeddjoeaaGVal
import Derived.Test.YtkeahbdeddjoeaaGMath
namespace Go.Proofs.Ytkeahbdeddjoeaa
open Go.RowKit Go Go.Shelf
set_option linter.unusedVariables false
set_option linter.unusedSimpArgs false
attribute [local go_sem] Oper.semAt_some

theorem grown_drew (w : World) (q : Nat) : w.grownBy (w.drewN q) none := ⟨rfl, rfl, rfl, Nat.le_refl _, fun _ _ _ => rfl⟩
def encC (x : Ch) : Array Value := #[chV x]

/-- The blocks below n2 lie as they lay, but for C. -/
def KeepX (C n2 : Nat) (W W' : World) : Prop := W.heap.size ≤ W'.heap.size ∧ ∀ b, b ≠ C → b < n2 → W'.heap[b]? = W.heap[b]?
theorem KeepX.refl (C n2 : Nat) (W : World) : KeepX C n2 W W := ⟨Nat.le_refl _, fun _ _ _ => rfl⟩
theorem KeepX.trans {C n2 : Nat} {A B D : World} (h : KeepX C n2 A B) (k : KeepX C n2 B D) : KeepX C n2 A D := ⟨Nat.le_trans h.1 k.1, fun b h1 h2 => (k.2 b h1 h2).trans (h.2 b h1 h2)⟩
theorem KeepX.grown {C n2 : Nat} {A B : World} {row : Option Nat} (hg : A.grownBy B row) (hn : n2 ≤ A.heap.size) (hr : ∀ r, row = some r → r = C ∨ n2 ≤ r) : KeepX C n2 A B :=
  ⟨hg.size, fun b h1 h2 => hg.block b (by omega) (fun e => by have := hr b e.symm; omega)⟩
theorem KeepX.alloc {C n2 : Nat} (W : World) (o : Obj) (hn : n2 ≤ W.heap.size) : KeepX C n2 W (W.alloc o) := KeepX.grown (World.grownBy_alloc W o none) hn (fun r e => by cases e)
theorem KeepX.setCell {C n2 : Nat} (W : World) (p : Addr) (v : Value) (h : p.block = C ∨ n2 ≤ p.block) : KeepX C n2 W (W.setCell p v) :=
  ⟨by simp [World.setCell], fun b h1 h2 => Below.heap_setCell W p v b (fun e => by subst e; omega)⟩
theorem KeepX.cell {C n2 : Nat} {W W' : World} (h : KeepX C n2 W W') {p : Addr} (h1 : p.block ≠ C) (h2 : p.block < n2) : W'.cell? p = W.cell? p := World.cell?_of_block (h.2 p.block h1 h2)
theorem RowC.keep {C n2 B : Nat} {W W' : World} {A : Option Addr} {len : Nat} {l : List Ch} (h : RowC B W A len l) (k : KeepX C n2 W W') (h1 : B ≤ C) (h2 : B ≤ n2) : RowC B W' A len l :=
  ⟨h.1, fun hn => by
    obtain ⟨p, e, hp, hc⟩ := h.2.1 hn
    refine ⟨p, e, hp, fun i hi => ?_⟩
    obtain ⟨c0, c1, c2, c3, c4⟩ := hc i hi
    have hb : (p.add (i * 5)).block = p.block := block_of_add _ _
    exact ⟨(k.cell (by omega) (by omega)).trans c0, (k.cell (p := ⟨(p.add (i * 5)).block, (p.add (i * 5)).off + 1, none⟩) (by simp only; omega) (by simp only; omega)).trans c1,
      (k.cell (p := ⟨(p.add (i * 5)).block, (p.add (i * 5)).off + 2, none⟩) (by simp only; omega) (by simp only; omega)).trans c2,
      (k.cell (p := ⟨(p.add (i * 5)).block, (p.add (i * 5)).off + 3, none⟩) (by simp only; omega) (by simp only; omega)).trans c3,
      (k.cell (p := ⟨(p.add (i * 5)).block, (p.add (i * 5)).off + 4, none⟩) (by simp only; omega) (by simp only; omega)).trans c4⟩, h.2.2⟩

theorem ginforce_any (A : Option Addr) (len cap : Nat) (lo hi : Int) (w : World) : Calls Try.prog 29 #[.slice A len cap, rgV lo hi] w fun e w' =>
    e = .returned (.func (.func 41) #[] #[.pointer (some ⟨w.heap.size, 0, none⟩), .pointer (some ⟨w.heap.size + 1, 0, none⟩)]) ∧ (w.alloc (.cells #[.slice A len cap] 22)).alloc (.cells #[.int .i64 lo, .int .i64 hi] 26) = w' := by
  have hmf : ∀ (fn : Fn) (first cap : Array Value) (w : World), (Instr.makeFunc fn first cap).run Try.prog w = .ok (.func fn first cap) w := fun _ _ _ _ => rfl
  unfold rgV
  go_enter Try.func29, Try.ntmps29
  go_wp2_with fail
  go_ret
  exact ⟨rfl, rfl⟩

set_option maxRecDepth 100000 in
set_option maxHeartbeats 8000000 in
theorem gfor_in (F : Fence) (n : Nat) (h41 : F.fn 41) (hro : F.round = none) (hn : 1 ≤ n) (yl C n2 B gl gi : Nat) (A : Option Addr) (len cap : Nat) (l : List Ch) (lo hi : Int) (h20 : len ≤ 20) (ilo : I64 lo) (ihi : I64 hi)
    (hB1 : B ≤ C) (hB2 : B ≤ n2) (hgl1 : gl ≠ C) (hgl2 : gl < n2) (hgi1 : gi ≠ C) (hgi2 : gi < n2)
    (J Jx : List Ch → World → Prop) (W : World) (hJ : AbidesFrom W.heap.size J) (hJx : AbidesFrom W.heap.size Jx)
    (hY : ∀ pre x W, J pre W → pre.length < len → YieldAt F (n - 1) Try.prog yl (encC x) W fun e W' =>
      (e = .returned (.bool true) ∧ J (pre ++ [x]) W' ∧ KeepX C n2 W W') ∨ (e = .returned (.bool false) ∧ Jx (pre ++ [x]) W'))
    (hn2 : n2 ≤ W.heap.size) (hrow : RowC B W A len l) (hcl : W.cell? ⟨gl, 0, none⟩ = some (.slice A len cap)) (hc0 : W.cell? ⟨gi, 0, none⟩ = some (.int .i64 lo)) (hc1 : W.cell? ⟨gi, 1, none⟩ = some (.int .i64 hi)) (h0 : J [] W) :
    CallsIn F n Try.prog 41 #[.func (.yield yl) #[] #[], .pointer (some ⟨gl, 0, none⟩), .pointer (some ⟨gi, 0, none⟩)] W fun e W' => (∃ v, e = .returned v) ∧
      ((∃ ys : List Ch, ys = forL lo hi l ∧ J ys W') ∨ (∃ pre, True ∧ Jx pre W')) := by
  refine callsIn_of_wp Try.func41 rfl h41 ?_ hro
  have HY := Lib.hid hY
  have HROW := Lib.hid hrow
  have LH := Lib.hid hrow.1
  have CL := Lib.hid hcl
  have C0 := Lib.hid hc0
  have C1 := Lib.hid hc1
  obtain ⟨l0, l1⟩ := ilo
  obtain ⟨u0, u1⟩ := ihi
  clear hY hrow hc0 hc1
  simp only [Try.ntmps41, List.size_toArray, List.length_cons, List.length_nil, Nat.reduceAdd, Nat.reduceSub, Array.replicate_succ, Array.replicate_zero, List.push_toArray, List.append_toArray, List.nil_append, List.cons_append]
  gi_wp2
  clear hcl
  gi_loopw [4, 5, 8] (fun _ _ i wr => ∃ (k : Nat) (pre : List Ch), k ≤ len ∧ i = .int .i64 k ∧ Hid (pre.length ≤ k ∧ pre ++ forL lo hi (l.drop k) = forL lo hi l ∧ J pre wr ∧ KeepX C n2 W wr)) (fun _ _ i _ => len - (intOf i).toNat)
  case atStart => exact ⟨0, [], Nat.zero_le _, rfl, Nat.le_refl _, rfl, h0, KeepX.refl _ _ _⟩
  case round =>
    obtain ⟨k, pre, hk, rfl, HI⟩ := hrel
    by_cases hlt : k < len
    · have ROW := Lib.hid (HROW.out.keep HI.out.2.2.2 hB1 hB2)
      obtain ⟨p, hA, hp, hx, hI⟩ := ROW.out.at_ k hlt
      have cl : wr.cell? ⟨gl, 0, none⟩ = some (.slice A len cap) := (HI.out.2.2.2.cell (p := ⟨gl, 0, none⟩) hgl1 hgl2).trans CL.out
      have c0 : wr.cell? ⟨gi, 0, none⟩ = some (.int .i64 lo) := (HI.out.2.2.2.cell (p := ⟨gi, 0, none⟩) hgi1 hgi2).trans C0.out
      have c1 : wr.cell? ⟨gi, 1, none⟩ = some (.int .i64 hi) := (HI.out.2.2.2.cell (p := ⟨gi, 1, none⟩) hgi1 hgi2).trans C1.out
      have wn : n2 ≤ wr.heap.size := Nat.le_trans hn2 HI.out.2.2.2.1
      have hgl : gl < wr.heap.size := Nat.lt_of_lt_of_le hgl2 wn
      have hgi : gi < wr.heap.size := Nat.lt_of_lt_of_le hgi2 wn
      have HEND := Lib.hid (fun (h : hi < (l.getD k Ch.nil).t) => forL_end (lo := lo) (by rw [LH.out]; exact hlt) h)
      have HSKIP := Lib.hid (fun (hk : k + 1 < len) => forL_skip (lo := lo) (hi := hi) (l := l) (k := k) (by rw [LH.out]; exact hk))
      have HTAKE := Lib.hid (fun (h : ¬ hi < (l.getD k Ch.nil).t) (h2 : k + 1 < len → ¬ (l.getD (k + 1) Ch.nil).t ≤ lo) => forL_take (lo := lo) (by rw [LH.out]; exact hlt) h (by rw [LH.out]; exact h2))
      have hpb : (p.add (k * 5)).block < wr.heap.size := by rw [block_of_add]; omega
      have NXT : Hid (∀ h : k + 1 < len, wr.cell? (p.add ((k + 1) * 5)) = some (.int .i64 (l.getD (k + 1) Ch.nil).t) ∧ I64 (l.getD (k + 1) Ch.nil).t ∧ (p.add ((k + 1) * 5)).block < wr.heap.size) := fun h => by
        obtain ⟨p', hA', hp', hx', hI'⟩ := ROW.out.at_ (k + 1) h
        rw [hA] at hA'
        obtain rfl := Option.some.inj hA'
        exact ⟨hx'.1, hI'.1, by rw [block_of_add]; omega⟩
      subst hA
      generalize hg : l.getD k Ch.nil = x at hx hI HEND HSKIP HTAKE
      clear hg
      obtain ⟨t, a, b, c, d⟩ := x
      obtain ⟨x0, x1, x2, x3, x4⟩ := hx
      obtain ⟨⟨t0, t1⟩, _⟩ := hI
      dsimp only at x0 x1 x2 x3 x4 t0 t1 HEND HSKIP HTAKE
      have gr : wr.grownBy (wr.alloc (.cells #[.int .i64 t, .int .i64 a, .int .i64 b, .int .i64 c, .int .i64 d] 24)) none := World.grownBy_alloc _ _ _
      have jr : Hid (J pre (wr.alloc (.cells #[.int .i64 t, .int .i64 a, .int .i64 b, .int .i64 c, .int .i64 d] 24))) := hJ pre wr _ none HI.out.2.2.1 gr (fun r e => by cases e)
      have kr : Hid (KeepX C n2 W (wr.alloc (.cells #[.int .i64 t, .int .i64 a, .int .i64 b, .int .i64 c, .int .i64 d] 24))) := HI.out.2.2.2.trans (KeepX.grown gr wn (fun r e => by cases e))
      clear gr
      by_cases hc : hi < t
      · have d1 : decide (hi < t) = true := by simp; omega
        have HG : Hid (pre = forL lo hi l) := by
          have h := HI.out.2.1
          rwa [HEND.out hc, List.append_nil] at h
        clear HEND HSKIP HTAKE hc
        gi_wp2
        refine bodyPost_ret (results_none rfl _ _ _) rfl ?_
        exact ⟨⟨_, rfl⟩, .inl (HG.out ▸ jr.out)⟩
      · have d1 : decide (hi < t) = false := by simp; omega
        have e0 : IntKind.i64.wrap ((k : Int) + 1) = (k : Int) + 1 := IntWalk.i64_in _ (by omega)
        have e2 : ((k : Int) + 1).toNat = k + 1 := by omega
        have e3 : 0 ≤ (k : Int) + 1 := by omega
        by_cases hk1 : k + 1 < len
        · obtain ⟨y0, ⟨y1, y2⟩, y3⟩ := NXT.out hk1
          have d2 : decide ((k : Int) + 1 < (len : Int)) = true := by simp; omega
          have e4 : (k : Int) + 1 < (len : Int) := by omega
          have HSK := Lib.hid (HSKIP.out hk1 hc)
          have HTK := Lib.hid (fun h => HTAKE.out hc (fun _ => h))
          clear HEND HSKIP HTAKE
          generalize (l.getD (k + 1) Ch.nil).t = z at y0 y1 y2 HSK HTK
          by_cases hz : z ≤ lo
          · have d3 : decide (z ≤ lo) = true := by simp; omega
            have HG : Hid (pre ++ forL lo hi (l.drop (k + 1)) = forL lo hi l) := by
              have h := HI.out.2.1
              rwa [HSK.out hz] at h
            clear HSK HTK hz NXT hc
            gi_wp2
            refine wpIn_region_quiet_lit hro (by kernel_rfl) (by kernel_rfl) ?_
            repeat (quiet_step_in (fail))
            refine wpQuietIn_nil ?_
            intro _ hw'
            obtain ⟨nq, hw''⟩ := hw'
            subst hw''
            have HH : Hid (pre.length ≤ k + 1 ∧ pre ++ forL lo hi (l.drop (k + 1)) = forL lo hi l ∧ J pre ((wr.alloc (.cells #[.int .i64 t, .int .i64 a, .int .i64 b, .int .i64 c, .int .i64 d] 24)).drewN nq) ∧ KeepX C n2 W ((wr.alloc (.cells #[.int .i64 t, .int .i64 a, .int .i64 b, .int .i64 c, .int .i64 d] 24)).drewN nq)) :=
              ⟨Nat.le_succ_of_le HI.out.1, HG.out, (show J pre ((wr.alloc (.cells #[.int .i64 t, .int .i64 a, .int .i64 b, .int .i64 c, .int .i64 d] 24)).drewN nq) from hJ pre (wr.alloc (.cells #[.int .i64 t, .int .i64 a, .int .i64 b, .int .i64 c, .int .i64 d] 24)) _ none jr.out (grown_drew _ nq) (fun r e => by cases e)), (show KeepX C n2 W ((wr.alloc (.cells #[.int .i64 t, .int .i64 a, .int .i64 b, .int .i64 c, .int .i64 d] 24)).drewN nq) from ⟨kr.out.1, kr.out.2⟩)⟩
            gi_wp2
            go_roundw
            case rel => exact ⟨k + 1, pre, by omega, by go_num, HH⟩
            case measure => simp [intOf]; omega
          · have d3 : decide (z ≤ lo) = false := by simp; omega
            have HG : Hid ((pre ++ [Ch.mk t a b c d]) ++ forL lo hi (l.drop (k + 1)) = forL lo hi l) := by
              have h := HI.out.2.1
              rw [HTK.out hz] at h
              rw [List.append_assoc]; exact h
            clear HSK HTK hz NXT hc
            gi_wp2
            refine wpIn_region_quiet_lit hro (by kernel_rfl) (by kernel_rfl) ?_
            repeat (quiet_step_in (fail))
            refine wpQuietIn_nil ?_
            intro _ hw'
            obtain ⟨nq, hw''⟩ := hw'
            subst hw''
            have jd : Hid (J pre ((wr.alloc (.cells #[.int .i64 t, .int .i64 a, .int .i64 b, .int .i64 c, .int .i64 d] 24)).drewN nq)) := (show J pre ((wr.alloc (.cells #[.int .i64 t, .int .i64 a, .int .i64 b, .int .i64 c, .int .i64 d] 24)).drewN nq) from hJ pre (wr.alloc (.cells #[.int .i64 t, .int .i64 a, .int .i64 b, .int .i64 c, .int .i64 d] 24)) _ none jr.out (grown_drew _ nq) (fun r e => by cases e))
            have kd : Hid (KeepX C n2 W ((wr.alloc (.cells #[.int .i64 t, .int .i64 a, .int .i64 b, .int .i64 c, .int .i64 d] 24)).drewN nq)) := (show KeepX C n2 W ((wr.alloc (.cells #[.int .i64 t, .int .i64 a, .int .i64 b, .int .i64 c, .int .i64 d] 24)).drewN nq) from ⟨kr.out.1, kr.out.2⟩)
            obtain ⟨fn, tmps, assign, body, hy, hR⟩ := HY.out pre ⟨t, a, b, c, d⟩ _ jd.out (by have := HI.out.1; omega)
            dsimp only [encC, chV] at hy
            gi_wp2
            refine hR.mono ?_
            rintro e W3 (⟨rfl, hJ3, hk3⟩ | ⟨rfl, hJx3⟩)
            · have HH : Hid ((pre ++ [Ch.mk t a b c d]).length ≤ k + 1 ∧ (pre ++ [Ch.mk t a b c d]) ++ forL lo hi (l.drop (k + 1)) = forL lo hi l ∧ J (pre ++ [Ch.mk t a b c d]) W3 ∧ KeepX C n2 W W3) :=
                ⟨by simp; exact HI.out.1, HG.out, hJ3, kd.out.trans hk3⟩
              clear hJ3 hk3 hR hy jd kd
              gi_wp2
              go_roundw
              case rel => exact ⟨k + 1, _, by omega, by go_num, HH⟩
              case measure => simp [intOf]; omega
            · have HK := Lib.hid hJx3
              clear hJx3 hR hy
              gi_wp2
              refine bodyPost_ret (results_none rfl _ _ _) rfl ?_
              exact ⟨⟨_, rfl⟩, .inr ⟨_, trivial, HK.out⟩⟩
        · have d2 : decide ((k : Int) + 1 < (len : Int)) = false := by simp; omega
          have HG : Hid ((pre ++ [Ch.mk t a b c d]) ++ forL lo hi (l.drop (k + 1)) = forL lo hi l) := by
            have h := HI.out.2.1
            rw [HTAKE.out hc (fun h => absurd h hk1)] at h
            rw [List.append_assoc]; exact h
          clear HEND HSKIP HTAKE NXT hc
          gi_wp2
          refine wpIn_region_quiet_lit hro (by kernel_rfl) (by kernel_rfl) ?_
          repeat (quiet_step_in (fail))
          refine wpQuietIn_nil ?_
          intro _ hw'
          obtain ⟨nq, hw''⟩ := hw'
          subst hw''
          have jd : Hid (J pre ((wr.alloc (.cells #[.int .i64 t, .int .i64 a, .int .i64 b, .int .i64 c, .int .i64 d] 24)).drewN nq)) := (show J pre ((wr.alloc (.cells #[.int .i64 t, .int .i64 a, .int .i64 b, .int .i64 c, .int .i64 d] 24)).drewN nq) from hJ pre (wr.alloc (.cells #[.int .i64 t, .int .i64 a, .int .i64 b, .int .i64 c, .int .i64 d] 24)) _ none jr.out (grown_drew _ nq) (fun r e => by cases e))
          have kd : Hid (KeepX C n2 W ((wr.alloc (.cells #[.int .i64 t, .int .i64 a, .int .i64 b, .int .i64 c, .int .i64 d] 24)).drewN nq)) := (show KeepX C n2 W ((wr.alloc (.cells #[.int .i64 t, .int .i64 a, .int .i64 b, .int .i64 c, .int .i64 d] 24)).drewN nq) from ⟨kr.out.1, kr.out.2⟩)
          obtain ⟨fn, tmps, assign, body, hy, hR⟩ := HY.out pre ⟨t, a, b, c, d⟩ _ jd.out (by have := HI.out.1; omega)
          dsimp only [encC, chV] at hy
          gi_wp2
          refine hR.mono ?_
          rintro e W3 (⟨rfl, hJ3, hk3⟩ | ⟨rfl, hJx3⟩)
          · have HH : Hid ((pre ++ [Ch.mk t a b c d]).length ≤ k + 1 ∧ (pre ++ [Ch.mk t a b c d]) ++ forL lo hi (l.drop (k + 1)) = forL lo hi l ∧ J (pre ++ [Ch.mk t a b c d]) W3 ∧ KeepX C n2 W W3) :=
              ⟨by simp; exact HI.out.1, HG.out, hJ3, kd.out.trans hk3⟩
            clear hJ3 hk3 hR hy jd kd
            gi_wp2
            go_roundw
            case rel => exact ⟨k + 1, _, by omega, by go_num, HH⟩
            case measure => simp [intOf]; omega
          · have HK := Lib.hid hJx3
            clear hJx3 hR hy
            gi_wp2
            refine bodyPost_ret (results_none rfl _ _ _) rfl ?_
            exact ⟨⟨_, rfl⟩, .inr ⟨_, trivial, HK.out⟩⟩
    · obtain rfl : k = len := by omega
      gi_wp2
      go_end0
      refine ⟨⟨_, rfl⟩, .inl ⟨pre, ?_, HI.out.2.2.1⟩⟩
      have h := HI.out.2.1
      rwa [List.drop_of_length_le (by rw [LH.out]; exact Nat.le_refl _), forL_nil, List.append_nil] at h
end Go.Proofs.Ytkeahbdeddjoeaa
