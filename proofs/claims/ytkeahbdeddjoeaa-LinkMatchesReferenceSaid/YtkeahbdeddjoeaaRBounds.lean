/- Layer 10: the reference's Bounds. -/
import Derived.LoopTactic
import Derived.Deep.RegionWith
import Derived.Test.YtkeahbdeddjoeaaRBnd
namespace Go.Proofs.Ytkeahbdeddjoeaa
open Go.RowKit Go
set_option linter.unusedVariables false
set_option linter.unusedSimpArgs false

set_option maxRecDepth 100000 in
set_option maxHeartbeats 8000000 in
theorem rbounds_bad (A : Option Addr) (len cap : Nat) (l : List Ch) (lo hi : Int) (q1 q2 : Bool) (h1 : q1 = true ↔ LkOk l) (h2 : q2 = true ↔ IvOk lo hi) (hq : (q1 && q2) = false) (w : World) (hr : RowC w.heap.size w A len l) (hl : len ≤ 9223372036854775807) :
    Calls Try.prog 12 #[.slice A len cap, rgV lo hi] w (Gives (.tuple #[chV Ch.nil, .int .i64 1]) w) := by
  have HR := Lib.hid hr
  have K1 := Lib.hid (fun w hr => rlink_any A len cap l q1 h1 w hr hl)
  have K2 := Lib.hid (rvalid_any lo hi q2 h2)
  clear h1 h2 hr
  unfold rgV at K2
  unfold chV rgV Ch.nil
  dsimp only
  obtain ⟨W, hW⟩ : ∃ W, (w.alloc (.cells #[.int .i64 lo, .int .i64 hi] 26)).alloc (.cells #[.int .i64 0, .int .i64 0, .int .i64 0, .int .i64 0, .int .i64 0] 24) = W := ⟨_, rfl⟩
  have T0 : Hid (Two W w.heap.size 26 (.int .i64 lo) (.int .i64 hi)) := by rw [← hW]; exact (Two.new w _ _ _).alloc _
  have T1 : Hid (Five W (w.heap.size + 1) 24 (.int .i64 0) (.int .i64 0) (.int .i64 0) (.int .i64 0) (.int .i64 0)) := by
    rw [← hW]
    have k := Five.new (w.alloc (.cells #[.int .i64 lo, .int .i64 hi] 26)) 24 (.int .i64 0) (.int .i64 0) (.int .i64 0) (.int .i64 0) (.int .i64 0)
    rwa [show (w.alloc (.cells #[.int .i64 lo, .int .i64 hi] 26)).heap.size = w.heap.size + 1 by simp] at k
  have BW : Hid (Below w.heap.size w W) := by rw [← hW]; exact ((below_alloc w _).alloc (by simp) _)
  have RW := Lib.hid (HR.out.step BW.out)
  have i0 := T0.out.c0
  have i1 := T0.out.c1
  have i2 := T0.out.lt
  have z0 := T1.out.c0
  have z1 := T1.out.c1
  have z2 := T1.out.c2
  have z3 := T1.out.c3
  have z4 := T1.out.c4
  have z5 := T1.out.lt
  have zf0 := T1.out.free 0
  have zf1 := T1.out.free 1
  have zf2 := T1.out.free 2
  have zf3 := T1.out.free 3
  have zf4 := T1.out.free 4
  go_enter Try.func12, Try.ntmps12
  cases q1 with
  | false =>
    clear hq
    go_wp2_with (first
      | (go_at_call 14; (with_reducible refine (K1.out _ RW.out).mono ?_); rintro e w1 ⟨rfl, b1⟩; replace T0 := Lib.hid (T0.out.below b1 T0.out.lt); replace T1 := Lib.hid (T1.out.below b1 T1.out.lt); replace BW := Lib.hid (below_more BW.out b1); replace i0 := T0.out.c0; replace i1 := T0.out.c1; replace i2 := T0.out.lt; replace z0 := T1.out.c0; replace z1 := T1.out.c1; replace z2 := T1.out.c2; replace z3 := T1.out.c3; replace z4 := T1.out.c4; replace z5 := T1.out.lt; replace zf0 := T1.out.free 0; replace zf1 := T1.out.free 1; replace zf2 := T1.out.free 2; replace zf3 := T1.out.free 3; replace zf4 := T1.out.free 4; clear b1 K1)
      | (go_at_call 25; (with_reducible refine (K2.out _).mono ?_); rintro e w2 ⟨rfl, b1⟩; replace T0 := Lib.hid (T0.out.below b1 T0.out.lt); replace T1 := Lib.hid (T1.out.below b1 T1.out.lt); replace BW := Lib.hid (below_more BW.out b1); replace i0 := T0.out.c0; replace i1 := T0.out.c1; replace i2 := T0.out.lt; replace z0 := T1.out.c0; replace z1 := T1.out.c1; replace z2 := T1.out.c2; replace z3 := T1.out.c3; replace z4 := T1.out.c4; replace z5 := T1.out.lt; replace zf0 := T1.out.free 0; replace zf1 := T1.out.free 1; replace zf2 := T1.out.free 2; replace zf3 := T1.out.free 3; replace zf4 := T1.out.free 4; clear b1 K2))
    refine bodyPost_ret (v := .tuple #[.agg #[.int .i64 0, .int .i64 0, .int .i64 0, .int .i64 0, .int .i64 0], .int .i64 1]) (by simp [results, Try.results12, go_sem, z0, z1, z2, z3, z4, z5]) rfl ⟨rfl, ?_⟩
    exact below_put BW.out (w.heap.size + 1) (by omega) Ch.nil
  | true =>
    obtain rfl : q2 = false := by simpa using hq
    clear hq
    go_wp2_with (first
      | (go_at_call 14; (with_reducible refine (K1.out _ RW.out).mono ?_); rintro e w1 ⟨rfl, b1⟩; replace T0 := Lib.hid (T0.out.below b1 T0.out.lt); replace T1 := Lib.hid (T1.out.below b1 T1.out.lt); replace BW := Lib.hid (below_more BW.out b1); replace i0 := T0.out.c0; replace i1 := T0.out.c1; replace i2 := T0.out.lt; replace z0 := T1.out.c0; replace z1 := T1.out.c1; replace z2 := T1.out.c2; replace z3 := T1.out.c3; replace z4 := T1.out.c4; replace z5 := T1.out.lt; replace zf0 := T1.out.free 0; replace zf1 := T1.out.free 1; replace zf2 := T1.out.free 2; replace zf3 := T1.out.free 3; replace zf4 := T1.out.free 4; clear b1 K1)
      | (go_at_call 25; (with_reducible refine (K2.out _).mono ?_); rintro e w2 ⟨rfl, b1⟩; replace T0 := Lib.hid (T0.out.below b1 T0.out.lt); replace T1 := Lib.hid (T1.out.below b1 T1.out.lt); replace BW := Lib.hid (below_more BW.out b1); replace i0 := T0.out.c0; replace i1 := T0.out.c1; replace i2 := T0.out.lt; replace z0 := T1.out.c0; replace z1 := T1.out.c1; replace z2 := T1.out.c2; replace z3 := T1.out.c3; replace z4 := T1.out.c4; replace z5 := T1.out.lt; replace zf0 := T1.out.free 0; replace zf1 := T1.out.free 1; replace zf2 := T1.out.free 2; replace zf3 := T1.out.free 3; replace zf4 := T1.out.free 4; clear b1 K2))
    refine bodyPost_ret (v := .tuple #[.agg #[.int .i64 0, .int .i64 0, .int .i64 0, .int .i64 0, .int .i64 0], .int .i64 1]) (by simp [results, Try.results12, go_sem, z0, z1, z2, z3, z4, z5]) rfl ⟨rfl, ?_⟩
    exact below_put BW.out (w.heap.size + 1) (by omega) Ch.nil

set_option maxRecDepth 100000 in
set_option maxHeartbeats 8000000 in
theorem rbounds_ok (A : Option Addr) (len cap : Nat) (l : List Ch) (lo hi : Int) (hk : LkOk l) (hi' : IvOk lo hi) (F : Ch) (hF : foldR lo hi { forceR l lo with t := lo } l = F) (w : World) (hr : RowC w.heap.size w A len l) (hl : len ≤ 9223372036854775807) :
    Calls Try.prog 12 #[.slice A len cap, rgV lo hi] w (Gives (.tuple #[chV F, .int .i64 0]) w) := by
  have HR := Lib.hid hr
  have hL := Lib.hid hr.1
  have K1 := Lib.hid (fun w hr => rlink_any A len cap l true ⟨fun _ => hk, fun _ => rfl⟩ w hr hl)
  have K2 := Lib.hid (rvalid_any lo hi true ⟨fun _ => hi', fun _ => rfl⟩)
  obtain ⟨j1, j2, j3⟩ := hi'
  have K3 := Lib.hid (fun w hr => rat_any A len cap l lo ⟨by omega, by omega⟩ w hr (by have := hk.1; have := hr.1; omega) hl)
  have HF := Lib.hid hF
  obtain ⟨s, hs⟩ : ∃ s, forceR l lo = s := ⟨_, rfl⟩
  rw [hs] at K3 HF
  clear hr hF hs hk
  unfold rgV at K2
  unfold chV at K3
  unfold rgV
  obtain ⟨W, hW⟩ : ∃ W, (w.alloc (.cells #[.int .i64 lo, .int .i64 hi] 26)).alloc (.cells #[.int .i64 0, .int .i64 0, .int .i64 0, .int .i64 0, .int .i64 0] 24) = W := ⟨_, rfl⟩
  have T0 : Hid (Two W w.heap.size 26 (.int .i64 lo) (.int .i64 hi)) := by rw [← hW]; exact (Two.new w _ _ _).alloc _
  have T1 : Hid (Five W (w.heap.size + 1) 24 (.int .i64 0) (.int .i64 0) (.int .i64 0) (.int .i64 0) (.int .i64 0)) := by
    rw [← hW]
    have k := Five.new (w.alloc (.cells #[.int .i64 lo, .int .i64 hi] 26)) 24 (.int .i64 0) (.int .i64 0) (.int .i64 0) (.int .i64 0) (.int .i64 0)
    rwa [show (w.alloc (.cells #[.int .i64 lo, .int .i64 hi] 26)).heap.size = w.heap.size + 1 by simp] at k
  have BW : Hid (Below w.heap.size w W) := by rw [← hW]; exact ((below_alloc w _).alloc (by simp) _)
  have RW := Lib.hid (HR.out.step BW.out)
  have i0 := T0.out.c0
  have i1 := T0.out.c1
  have i2 := T0.out.lt
  go_enter Try.func12, Try.ntmps12
  go_wp2_with (first
      | (go_at_call 14; (with_reducible refine (K1.out _ RW.out).mono ?_); rintro e w1 ⟨rfl, b1⟩; replace T0 := Lib.hid (T0.out.below b1 T0.out.lt); replace T1 := Lib.hid (T1.out.below b1 T1.out.lt); replace BW := Lib.hid (below_more BW.out b1); replace i0 := T0.out.c0; replace i1 := T0.out.c1; replace i2 := T0.out.lt; clear b1 K1)
      | (go_at_call 25; (with_reducible refine (K2.out _).mono ?_); rintro e w2 ⟨rfl, b1⟩; replace T0 := Lib.hid (T0.out.below b1 T0.out.lt); replace T1 := Lib.hid (T1.out.below b1 T1.out.lt); replace BW := Lib.hid (below_more BW.out b1); replace i0 := T0.out.c0; replace i1 := T0.out.c1; replace i2 := T0.out.lt; replace RW := Lib.hid (HR.out.step BW.out); clear b1 K2)
      | (go_at_call 32; (with_reducible refine (K3.out _ RW.out).mono ?_); rintro e w3 ⟨rfl, b1⟩; replace T0 := Lib.hid (T0.out.below b1 T0.out.lt); replace T1 := Lib.hid (T1.out.below b1 T1.out.lt); replace BW := Lib.hid (below_more BW.out b1);
          have N3 := Lib.hid (show w.heap.size + 1 < w3.heap.size from T1.out.lt);
          have U0 := Lib.hid (T0.out.alloc (.cells #[.int .i64 s.t, .int .i64 s.a, .int .i64 s.b, .int .i64 s.c, .int .i64 s.d] 24)); have u0 := U0.out.c0; have u1 := U0.out.c1; have u2 := U0.out.lt;
          replace T0 := Lib.hid (T0.out.alloc (.cells #[.int .i64 lo, .int .i64 s.a, .int .i64 s.b, .int .i64 s.c, .int .i64 s.d] 24)); replace T1 := Lib.hid (T1.out.alloc (.cells #[.int .i64 lo, .int .i64 s.a, .int .i64 s.b, .int .i64 s.c, .int .i64 s.d] 24));
          have T2 := Lib.hid (Five.new w3 24 (.int .i64 lo) (.int .i64 s.a) (.int .i64 s.b) (.int .i64 s.c) (.int .i64 s.d)); have G3 := Lib.hid BW.out.size;
          replace BW := Lib.hid (BW.out.alloc BW.out.size (.cells #[.int .i64 lo, .int .i64 s.a, .int .i64 s.b, .int .i64 s.c, .int .i64 s.d] 24)); replace i0 := T0.out.c0; replace i1 := T0.out.c1; replace i2 := T0.out.lt; clear b1 K3 RW U0))
  have N1 : w.heap.size + 1 < w3.heap.size := N3.out
  generalize hq : w3.heap.size = q at T2 N1
  go_loopw [9] (fun i wr => ∃ k : Nat, ∃ o : Ch, k ≤ len ∧ i = .int .i64 k ∧ Hid (o.t = lo) ∧ Hid (foldR lo hi o (l.drop k) = F) ∧ Hid (Below w.heap.size w wr) ∧ Hid (Two wr w.heap.size 26 (.int .i64 lo) (.int .i64 hi)) ∧
    Hid (Five wr (w.heap.size + 1) 24 (.int .i64 0) (.int .i64 0) (.int .i64 0) (.int .i64 0) (.int .i64 0)) ∧
    Hid (Five wr q 24 (.int .i64 o.t) (.int .i64 o.a) (.int .i64 o.b) (.int .i64 o.c) (.int .i64 o.d))) (fun i _ => len - (intOf i).toNat)
  case atStart => exact ⟨0, { s with t := lo }, Nat.zero_le _, rfl, rfl, HF.out, BW, T0, T1, T2⟩
  case round =>
    rename_i wr
    clear HF T0 T1 T2 BW
    obtain ⟨k, o, hk, rfl, OT, E, BB, T0, T1, T2⟩ := hrel
    by_cases hlt : k < len
    · obtain ⟨p, rfl, hp, hx, hI⟩ := HR.out.at_ k hlt
      have E1 := Lib.hid (show foldR lo hi (if lo < (l.getD k Ch.nil).t ∧ (l.getD k Ch.nil).t ≤ hi then joinR o (l.getD k Ch.nil) else o) (l.drop (k + 1)) = F by
        have h := E.out
        rw [drop_at l k (by rw [hL.out]; exact hlt)] at h
        exact h)
      have hX := Lib.hid (hx.below BB.out (by rw [block_of_add]; exact hp))
      have hP := Lib.hid (show (p.add (k * 5)).block < wr.heap.size by rw [block_of_add]; exact Nat.lt_of_lt_of_le hp BB.out.size)
      clear E hx
      generalize l.getD k Ch.nil = x at hX E1 hI
      obtain ⟨x0, x1, x2, x3, x4⟩ := hX.out
      have i0 := T0.out.c0
      have i1 := T0.out.c1
      have i2 := T0.out.lt
      obtain ⟨⟨_, _⟩, _⟩ := hI
      rcases (by omega : x.t ≤ lo ∨ (lo < x.t ∧ hi < x.t) ∨ (lo < x.t ∧ x.t ≤ hi)) with c | ⟨c, c'⟩ | ⟨c, c'⟩
      · have d : decide (lo < x.t) = false := by simp; omega
        have E2 := Lib.hid (show foldR lo hi o (l.drop (k + 1)) = F by have := E1.out; rwa [if_neg (by omega)] at this)
        clear E1 c
        go_wp2_with fail
        go_quiet (fail)
        replace BB := Lib.hid (below_draws BB.out nq)
        replace T0 := Lib.hid (T0.out.below (below_draws (Below.refl _ _) nq) T0.out.lt)
        replace T1 := Lib.hid (T1.out.below (below_draws (Below.refl _ _) nq) T1.out.lt)
        replace T2 := Lib.hid (T2.out.below (below_draws (Below.refl _ _) nq) T2.out.lt)
        go_wp2_with fail
        go_roundw
        case rel => exact ⟨k + 1, o, by omega, by go_num, OT, E2, BB, T0, T1, T2⟩
        case measure => simp [intOf]; omega
      · have d : decide (lo < x.t) = true := by simp; omega
        have d2 : decide (x.t ≤ hi) = false := by simp; omega
        have E2 := Lib.hid (show foldR lo hi o (l.drop (k + 1)) = F by have := E1.out; rwa [if_neg (by omega)] at this)
        clear E1 c
        go_wp2_with fail
        go_quiet (fail)
        replace BB := Lib.hid (below_draws BB.out nq)
        replace T0 := Lib.hid (T0.out.below (below_draws (Below.refl _ _) nq) T0.out.lt)
        replace T1 := Lib.hid (T1.out.below (below_draws (Below.refl _ _) nq) T1.out.lt)
        replace T2 := Lib.hid (T2.out.below (below_draws (Below.refl _ _) nq) T2.out.lt)
        go_wp2_with fail
        go_roundw
        case rel => exact ⟨k + 1, o, by omega, by go_num, OT, E2, BB, T0, T1, T2⟩
        case measure => simp [intOf]; omega
      · have d : decide (lo < x.t) = true := by simp; omega
        have d2 : decide (x.t ≤ hi) = true := by simp; omega
        have E2 := Lib.hid (show foldR lo hi (joinR o x) (l.drop (k + 1)) = F by have := E1.out; rwa [if_pos ⟨c, c'⟩] at this)
        have OT2 := Lib.hid (show (joinR o x).t = lo from OT.out)
        have JN := Lib.hid (rjoin_any o x)
        obtain ⟨j, hj⟩ : ∃ j, joinR o x = j := ⟨_, rfl⟩
        rw [hj] at E2 OT2 JN
        unfold chV at JN
        clear E1 c c' hj
        have v0 := T2.out.c0
        have v1 := T2.out.c1
        have v2 := T2.out.c2
        have v3 := T2.out.c3
        have v4 := T2.out.c4
        have v5 := T2.out.lt
        go_wp2_with fail
        go_quiet (fail)
        replace BB := Lib.hid (below_draws (below_draws BB.out nq) 1)
        replace T0 : Hid (Two (wr.drewN nq).drew w.heap.size 26 (.int .i64 lo) (.int .i64 hi)) := T0.out
        replace T1 := Lib.hid ((T1.out.below (below_draws (Below.refl _ _) nq) T1.out.lt).drew (Drew.one _))
        replace T2 := Lib.hid ((T2.out.below (below_draws (Below.refl _ _) nq) T2.out.lt).drew (Drew.one _))
        replace hX : Hid (ChAt (wr.drewN nq).drew (p.add (k * 5)) x) := hX.out
        obtain ⟨x0, x1, x2, x3, x4⟩ := hX.out
        have y0 : (wr.drewN nq).cell? ⟨q, 0, none⟩ = some (.int .i64 o.t) := v0
        have y1 : (wr.drewN nq).cell? ⟨q, 1, none⟩ = some (.int .i64 o.a) := v1
        have y2 : (wr.drewN nq).cell? ⟨q, 2, none⟩ = some (.int .i64 o.b) := v2
        have y3 : (wr.drewN nq).cell? ⟨q, 3, none⟩ = some (.int .i64 o.c) := v3
        have y4 : (wr.drewN nq).cell? ⟨q, 4, none⟩ = some (.int .i64 o.d) := v4
        have o0 := T2.out.c0
        have o1 := T2.out.c1
        have o2 := T2.out.c2
        have o3 := T2.out.c3
        have o4 := T2.out.c4
        have o5 := T2.out.lt
        have of0 := T2.out.free 0
        have of1 := T2.out.free 1
        have of2 := T2.out.free 2
        have of3 := T2.out.free 3
        have of4 := T2.out.free 4
        go_wp2_with fail
        go_region_with (go_at_call 33; (with_reducible refine (JN.out _).mono ?_); rintro e w4 ⟨rfl, b4⟩; have BB2 := Lib.hid (below_put (below_more BB.out b4) q (by omega) j); have TT0 := Lib.hid (two_other (T0.out.below b4 T0.out.lt) q (by omega) j); have TT1 := Lib.hid (five_other (T1.out.below b4 T1.out.lt) q (by omega) j); have K2 := Lib.hid (T2.out.below b4 T2.out.lt); have TT2 := Lib.hid (five_put K2.out j); have k0 := K2.out.c0; have k1 := K2.out.c1; have k2 := K2.out.c2; have k3 := K2.out.c3; have k4 := K2.out.c4; have k5 := K2.out.lt; have kf0 := K2.out.free 0; have kf1 := K2.out.free 1; have kf2 := K2.out.free 2; have kf3 := K2.out.free 3; have kf4 := K2.out.free 4; clear b4)
        all_goals
          go_wp2_with fail
          go_roundw
          case rel => exact ⟨k + 1, j, by omega, by go_num, OT2, E2, BB2, TT0, TT1, TT2⟩
          case measure => simp [intOf]; omega
    · obtain rfl : k = len := by omega
      have e : o = F := by
        have h := E.out
        rw [List.drop_eq_nil_of_le (by rw [hL.out]; exact Nat.le_refl _)] at h
        exact h
      subst e
      have o0 := T2.out.lt
      have oc0 := T2.out.c0
      have oc1 := T2.out.c1
      have oc2 := T2.out.c2
      have oc3 := T2.out.c3
      have oc4 := T2.out.c4
      have z5 := T1.out.lt
      have z0 := T1.out.c0
      have z1 := T1.out.c1
      have z2 := T1.out.c2
      have z3 := T1.out.c3
      have z4 := T1.out.c4
      have zf0 := T1.out.free 0
      have zf1 := T1.out.free 1
      have zf2 := T1.out.free 2
      have zf3 := T1.out.free 3
      have zf4 := T1.out.free 4
      have B2 := Lib.hid (below_put BB.out (w.heap.size + 1) (by omega) o)
      clear E HR
      unfold chV
      go_wp2_with fail
      refine bodyPost_ret (v := .tuple #[.agg #[.int .i64 o.t, .int .i64 o.a, .int .i64 o.b, .int .i64 o.c, .int .i64 o.d], .int .i64 0]) (by simp [results, Try.results12, go_sem, z0, z1, z2, z3, z4, z5]) rfl ⟨rfl, ?_⟩
      exact B2.out

theorem rbounds_any (A : Option Addr) (len cap : Nat) (l : List Ch) (lo hi : Int) (w : World) (hr : RowC w.heap.size w A len l) (hl : len ≤ 9223372036854775807) :
    Calls Try.prog 12 #[.slice A len cap, rgV lo hi] w (Gives (.tuple #[chV (boundsR l lo hi).1, .int .i64 (boundsR l lo hi).2]) w) := by
  by_cases k : LkOk l ∧ IvOk lo hi
  · rw [show boundsR l lo hi = (foldR lo hi { forceR l lo with t := lo } l, 0) from if_pos k]
    exact rbounds_ok A len cap l lo hi k.1 k.2 _ rfl w hr hl
  · rw [show boundsR l lo hi = (Ch.nil, 1) from if_neg k]
    refine rbounds_bad A len cap l lo hi (decide (LkOk l)) (decide (IvOk lo hi)) (by simp) (by simp) ?_ w hr hl
    rw [Bool.and_eq_false_iff, decide_eq_false_iff_not, decide_eq_false_iff_not]
    by_cases a : LkOk l
    · exact .inr (fun b => k ⟨a, b⟩)
    · exact .inl a
end Go.Proofs.Ytkeahbdeddjoeaa
