/- Layer 10: the reference's At, Join and Bounds. -/
import Derived.LoopTactic
import Derived.StillTailTactics
import Derived.Test.YtkeahbdeddjoeaaRLink
namespace Go.Proofs.Ytkeahbdeddjoeaa
open Go.RowKit Go
set_option linter.unusedVariables false
set_option linter.unusedSimpArgs false

theorem addr_add0 (p : Addr) : p.add 0 = p := by
  obtain ⟨b, o, s⟩ := p
  cases s <;> simp [Addr.add]
theorem drop_at (l : List Ch) (k : Nat) (hk : k < l.length) : l.drop k = l.getD k Ch.nil :: l.drop (k + 1) := by
  rw [List.drop_eq_getElem_cons hk]
  simp [List.getD, hk]
theorem five_put {w : World} {g : Nat} {T : TypeId} {v0 v1 v2 v3 v4 : Value} (h : Five w g T v0 v1 v2 v3 v4) (x : Ch) :
    Five (((((w.setCell ⟨g, 0, none⟩ (.int .i64 x.t)).setCell ⟨g, 1, none⟩ (.int .i64 x.a)).setCell ⟨g, 2, none⟩ (.int .i64 x.b)).setCell ⟨g, 3, none⟩ (.int .i64 x.c)).setCell ⟨g, 4, none⟩ (.int .i64 x.d)) g T
      (.int .i64 x.t) (.int .i64 x.a) (.int .i64 x.b) (.int .i64 x.c) (.int .i64 x.d) := ((((h.set0 _).set1 _).set2 _).set3 _).set4 _
theorem five_other {w : World} {g : Nat} {T : TypeId} {v0 v1 v2 v3 v4 : Value} (h : Five w g T v0 v1 v2 v3 v4) (q : Nat) (hq : g ≠ q) (x : Ch) :
    Five (((((w.setCell ⟨q, 0, none⟩ (.int .i64 x.t)).setCell ⟨q, 1, none⟩ (.int .i64 x.a)).setCell ⟨q, 2, none⟩ (.int .i64 x.b)).setCell ⟨q, 3, none⟩ (.int .i64 x.c)).setCell ⟨q, 4, none⟩ (.int .i64 x.d)) g T
      v0 v1 v2 v3 v4 := ((((h.other (p := ⟨q, 0, none⟩) hq _).other (p := ⟨q, 1, none⟩) hq _).other (p := ⟨q, 2, none⟩) hq _).other (p := ⟨q, 3, none⟩) hq _).other (p := ⟨q, 4, none⟩) hq _
theorem two_other {w : World} {g : Nat} {T : TypeId} {v0 v1 : Value} (h : Two w g T v0 v1) (q : Nat) (hq : g ≠ q) (x : Ch) :
    Two (((((w.setCell ⟨q, 0, none⟩ (.int .i64 x.t)).setCell ⟨q, 1, none⟩ (.int .i64 x.a)).setCell ⟨q, 2, none⟩ (.int .i64 x.b)).setCell ⟨q, 3, none⟩ (.int .i64 x.c)).setCell ⟨q, 4, none⟩ (.int .i64 x.d)) g T
      v0 v1 := ((((h.other (p := ⟨q, 0, none⟩) hq _).other (p := ⟨q, 1, none⟩) hq _).other (p := ⟨q, 2, none⟩) hq _).other (p := ⟨q, 3, none⟩) hq _).other (p := ⟨q, 4, none⟩) hq _
theorem below_put {B : Nat} {w0 w : World} (h : Below B w0 w) (q : Nat) (hq : B ≤ q) (x : Ch) :
    Below B w0 (((((w.setCell ⟨q, 0, none⟩ (.int .i64 x.t)).setCell ⟨q, 1, none⟩ (.int .i64 x.a)).setCell ⟨q, 2, none⟩ (.int .i64 x.b)).setCell ⟨q, 3, none⟩ (.int .i64 x.c)).setCell ⟨q, 4, none⟩ (.int .i64 x.d)) :=
  ((((h.setCell (p := ⟨q, 0, none⟩) hq _).setCell (p := ⟨q, 1, none⟩) hq _).setCell (p := ⟨q, 2, none⟩) hq _).setCell (p := ⟨q, 3, none⟩) hq _).setCell (p := ⟨q, 4, none⟩) hq _

set_option maxHeartbeats 4000000 in
theorem rat_any (A : Option Addr) (len cap : Nat) (l : List Ch) (t : Int) (ht : I64 t) (w : World) (hr : RowC w.heap.size w A len l) (h0 : 0 < len) (hl : len ≤ 9223372036854775807) :
    Calls Try.prog 32 #[.slice A len cap, .int .i64 t] w (Gives (chV (forceR l t)) w) := by
  have HR := Lib.hid hr
  have hL := Lib.hid hr.1
  clear hr
  obtain ⟨p, rfl, hp, hx, _⟩ := HR.out.at_ 0 h0
  obtain ⟨F, hF⟩ : ∃ F, forceR l t = F := ⟨_, rfl⟩
  have E0 : Hid (inR t (l.getD 0 Ch.nil) l = F) := hF
  rw [hF]
  clear hF
  generalize l.getD 0 Ch.nil = s at hx E0
  rw [show 0 * 5 = 0 by rfl, addr_add0] at hx
  obtain ⟨v0, v1, v2, v3, v4⟩ := hx
  have hx : ChAt w p s := ⟨v0, v1, v2, v3, v4⟩
  have hX := Lib.hid (hx.below (below_alloc w (.cells #[.int .i64 0, .int .i64 0, .int .i64 0, .int .i64 0, .int .i64 0] 24)) hp)
  obtain ⟨x0, x1, x2, x3, x4⟩ := hX.out
  clear hx
  obtain ⟨W, hW⟩ : ∃ W, (w.alloc (.cells #[.int .i64 0, .int .i64 0, .int .i64 0, .int .i64 0, .int .i64 0] 24)).alloc (.cells #[.int .i64 s.t, .int .i64 s.a, .int .i64 s.b, .int .i64 s.c, .int .i64 s.d] 24) = W := ⟨_, rfl⟩
  have T0 : Hid (Five W w.heap.size 24 (.int .i64 0) (.int .i64 0) (.int .i64 0) (.int .i64 0) (.int .i64 0)) := by rw [← hW]; exact (Five.new w _ _ _ _ _ _).alloc _
  have T1 : Hid (Five W (w.heap.size + 1) 24 (.int .i64 s.t) (.int .i64 s.a) (.int .i64 s.b) (.int .i64 s.c) (.int .i64 s.d)) := by
    rw [← hW]
    have k := Five.new (w.alloc (.cells #[.int .i64 0, .int .i64 0, .int .i64 0, .int .i64 0, .int .i64 0] 24)) 24 (.int .i64 s.t) (.int .i64 s.a) (.int .i64 s.b) (.int .i64 s.c) (.int .i64 s.d)
    rwa [show (w.alloc (.cells #[.int .i64 0, .int .i64 0, .int .i64 0, .int .i64 0, .int .i64 0] 24)).heap.size = w.heap.size + 1 by simp] at k
  have BW : Hid (Below w.heap.size w W) := by rw [← hW]; exact ((below_alloc w _).alloc (by simp) _)
  clear hX
  go_enter Try.func32, Try.ntmps32
  go_wp2_with fail
  go_loopw [6] (fun i wr => ∃ k : Nat, ∃ o : Ch, k ≤ len ∧ i = .int .i64 k ∧ Hid (inR t o (l.drop k) = F) ∧ Hid (Below w.heap.size w wr) ∧ Hid (Five wr w.heap.size 24 (.int .i64 0) (.int .i64 0) (.int .i64 0) (.int .i64 0) (.int .i64 0)) ∧
    Hid (Five wr (w.heap.size + 1) 24 (.int .i64 o.t) (.int .i64 o.a) (.int .i64 o.b) (.int .i64 o.c) (.int .i64 o.d))) (fun i _ => len - (intOf i).toNat)
  case atStart => exact ⟨0, s, Nat.zero_le _, rfl, E0.out, BW, T0, T1⟩
  case round =>
    rename_i wr
    clear v0 v1 v2 v3 v4 x0 x1 x2 x3 x4 T0 T1 BW E0 hW
    obtain ⟨k, o, hk, rfl, E, BB, Z, O⟩ := hrel
    by_cases hlt : k < len
    · obtain ⟨p', e', hp', hx, hI⟩ := HR.out.at_ k hlt
      injection e' with e'
      subst e'
      have E1 := Lib.hid (show inR t (if (l.getD k Ch.nil).t ≤ t then l.getD k Ch.nil else o) (l.drop (k + 1)) = F by
        have h := E.out
        rw [drop_at l k (by rw [hL.out]; exact hlt)] at h
        exact h)
      have hX := Lib.hid (hx.below BB.out (by rw [block_of_add]; exact hp'))
      clear E hx
      generalize l.getD k Ch.nil = x at hX E1 hI
      obtain ⟨x0, x1, x2, x3, x4⟩ := hX.out
      have o0 := O.out.lt
      have of0 := O.out.free 0
      have of1 := O.out.free 1
      have of2 := O.out.free 2
      have of3 := O.out.free 3
      have of4 := O.out.free 4
      have oc0 := O.out.c0
      have oc1 := O.out.c1
      have oc2 := O.out.c2
      have oc3 := O.out.c3
      have oc4 := O.out.c4
      obtain ⟨⟨_, _⟩, _⟩ := hI
      by_cases c : x.t ≤ t
      · have d : decide (x.t ≤ t) = true := by simp; omega
        have E2 := Lib.hid (show inR t x (l.drop (k + 1)) = F by have := E1.out; rwa [if_pos c] at this)
        clear E1 c
        have O2 := Lib.hid (five_put O.out x)
        have Z2 := Lib.hid (five_other Z.out (w.heap.size + 1) (by omega) x)
        have B2 := Lib.hid (below_put BB.out (w.heap.size + 1) (by omega) x)
        go_wp2_with fail
        go_roundw
        case rel => exact ⟨k + 1, x, by omega, by go_num, E2, B2, Z2, O2⟩
        case measure => simp [intOf]; omega
      · have d : decide (x.t ≤ t) = false := by simp; omega
        have E2 := Lib.hid (show inR t o (l.drop (k + 1)) = F by have := E1.out; rwa [if_neg c] at this)
        clear E1 c
        go_wp2_with fail
        go_roundw
        case rel => exact ⟨k + 1, o, by omega, by go_num, E2, BB, Z, O⟩
        case measure => simp [intOf]; omega
    · obtain rfl : k = len := by omega
      have e : o = F := by
        have h := E.out
        rw [List.drop_eq_nil_of_le (by rw [hL.out]; exact Nat.le_refl _)] at h
        exact h
      subst e
      have o0 := O.out.lt
      have oc0 := O.out.c0
      have oc1 := O.out.c1
      have oc2 := O.out.c2
      have oc3 := O.out.c3
      have oc4 := O.out.c4
      have z5 := Z.out.lt
      have z0 := Z.out.c0
      have z1 := Z.out.c1
      have z2 := Z.out.c2
      have z3 := Z.out.c3
      have z4 := Z.out.c4
      have zf0 := Z.out.free 0
      have zf1 := Z.out.free 1
      have zf2 := Z.out.free 2
      have zf3 := Z.out.free 3
      have zf4 := Z.out.free 4
      have B2 := Lib.hid (below_put BB.out w.heap.size (Nat.le_refl _) o)
      clear E HR
      unfold chV
      go_wp2_with fail
      refine bodyPost_ret (v := .agg #[.int .i64 o.t, .int .i64 o.a, .int .i64 o.b, .int .i64 o.c, .int .i64 o.d]) (by simp [results, Try.results32, go_sem, z0, z1, z2, z3, z4, z5]) rfl ⟨rfl, ?_⟩
      exact B2.out

set_option maxHeartbeats 4000000 in
theorem rjoin_any (o x : Ch) (w : World) : Calls Try.prog 33 #[chV o, chV x] w (Gives (chV (joinR o x)) w) := by
  obtain ⟨t, a, b, c, d⟩ := o
  obtain ⟨t', a', b', c', d'⟩ := x
  unfold chV joinR
  dsimp only
  obtain ⟨W, hW⟩ : ∃ W, ((w.alloc (.cells #[.int .i64 t, .int .i64 a, .int .i64 b, .int .i64 c, .int .i64 d] 24)).alloc (.cells #[.int .i64 t', .int .i64 a', .int .i64 b', .int .i64 c', .int .i64 d'] 24)).alloc (.cells #[.int .i64 0, .int .i64 0, .int .i64 0, .int .i64 0, .int .i64 0] 24) = W := ⟨_, rfl⟩
  have T0 : Five W w.heap.size 24 (.int .i64 t) (.int .i64 a) (.int .i64 b) (.int .i64 c) (.int .i64 d) := by rw [← hW]; exact ((Five.new w _ _ _ _ _ _).alloc _).alloc _
  have T1 : Five W (w.heap.size + 1) 24 (.int .i64 t') (.int .i64 a') (.int .i64 b') (.int .i64 c') (.int .i64 d') := by
    rw [← hW]
    have k := Five.new (w.alloc (.cells #[.int .i64 t, .int .i64 a, .int .i64 b, .int .i64 c, .int .i64 d] 24)) 24 (.int .i64 t') (.int .i64 a') (.int .i64 b') (.int .i64 c') (.int .i64 d')
    rw [show (w.alloc (.cells #[.int .i64 t, .int .i64 a, .int .i64 b, .int .i64 c, .int .i64 d] 24)).heap.size = w.heap.size + 1 by simp] at k
    exact k.alloc _
  have T2 : Five W (w.heap.size + 1 + 1) 24 (.int .i64 0) (.int .i64 0) (.int .i64 0) (.int .i64 0) (.int .i64 0) := by
    rw [← hW]
    have k := Five.new ((w.alloc (.cells #[.int .i64 t, .int .i64 a, .int .i64 b, .int .i64 c, .int .i64 d] 24)).alloc (.cells #[.int .i64 t', .int .i64 a', .int .i64 b', .int .i64 c', .int .i64 d'] 24)) 24 (.int .i64 0) (.int .i64 0) (.int .i64 0) (.int .i64 0) (.int .i64 0)
    rwa [show ((w.alloc (.cells #[.int .i64 t, .int .i64 a, .int .i64 b, .int .i64 c, .int .i64 d] 24)).alloc (.cells #[.int .i64 t', .int .i64 a', .int .i64 b', .int .i64 c', .int .i64 d'] 24)).heap.size = w.heap.size + 1 + 1 by simp] at k
  have BW : Hid (Below w.heap.size w W) := by rw [← hW]; exact (((below_alloc w _).alloc (by simp) _).alloc (by simp; omega) _)
  have B2 := Lib.hid (below_put BW.out (w.heap.size + 1 + 1) (by omega) ⟨t, min a a', max b b', min c c', max d d'⟩)
  have t0 := T0.c0
  have t1 := T0.c1
  have t2 := T0.c2
  have t3 := T0.c3
  have t4 := T0.c4
  have t5 := T0.lt
  have s0 := T1.c0
  have s1 := T1.c1
  have s2 := T1.c2
  have s3 := T1.c3
  have s4 := T1.c4
  have s5 := T1.lt
  have r0 := T2.c0
  have r1 := T2.c1
  have r2 := T2.c2
  have r3 := T2.c3
  have r4 := T2.c4
  have r5 := T2.lt
  have f0 := T2.free 0
  have f1 := T2.free 1
  have f2 := T2.free 2
  have f3 := T2.free 3
  have f4 := T2.free 4
  clear T0 T1 T2
  go_enter Try.func33, Try.ntmps33
  go_wp2_with fail
  refine bodyPost_ret (v := .agg #[.int .i64 t, .int .i64 (min a a'), .int .i64 (max b b'), .int .i64 (min c c'), .int .i64 (max d d')]) (by simp [results, Try.results33, go_sem, r0, r1, r2, r3, r4, r5]) rfl ⟨rfl, ?_⟩
  exact B2.out
end Go.Proofs.Ytkeahbdeddjoeaa
