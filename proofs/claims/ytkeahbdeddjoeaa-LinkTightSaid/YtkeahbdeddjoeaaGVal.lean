/- Layer 10: package link's Valid (gen/gen_val.py writes this). -/
import Derived.LoopTactic
import Derived.Test.YtkeahbdeddjoeaaCls
import Derived.Test.YtkeahbdeddjoeaaGSm
namespace Go.Proofs.Ytkeahbdeddjoeaa
open Go.RowKit Go
set_option linter.unusedVariables false
set_option linter.unusedSimpArgs false

theorem gaddr0 (p : Addr) : p.add 0 = p := by
  obtain ⟨b, o, s⟩ := p
  cases s <;> simp [Addr.add]

set_option maxRecDepth 100000 in
set_option maxHeartbeats 8000000 in
theorem glink_any (A : Option Addr) (len cap : Nat) (l : List Ch) (q : Bool) (hq : q = true ↔ LkOk l) (w : World) (hr : RowC w.heap.size w A len l) (hl : len ≤ 9223372036854775807) :
    Calls Try.prog 13 #[.slice A len cap] w (Gives (.bool q) w) := by
  have HR := Lib.hid hr
  have HQ := Lib.hid hq
  have hL := Lib.hid hr.1
  clear hr hq
  by_cases h1 : len < 1
  · have Q := Lib.hid (show q = false by
      cases hqq : q with
      | false => rfl
      | true => have k := (HQ.out.1 hqq).1; rw [hL.out] at k; omega)
    obtain rfl : len = 0 := by omega
    go_enter Try.func13, Try.ntmps13
    go_wp2_with fail
    go_ret
    exact ⟨by rw [Q.out]; rfl, Below.refl _ _⟩
  have d1 : decide ((len : Int) < 1) = false := by simp; omega
  by_cases h2 : 20 < len
  · have Q := Lib.hid (show q = false by
      cases hqq : q with
      | false => rfl
      | true => have k := (HQ.out.1 hqq).2.1; rw [hL.out] at k; omega)
    have d2 : decide ((20 : Int) < (len : Int)) = true := by simp; omega
    go_enter Try.func13, Try.ntmps13
    go_wp2_with fail
    go_ret
    exact ⟨by rw [Q.out]; rfl, Below.refl _ _⟩
  have d2 : decide ((20 : Int) < (len : Int)) = false := by simp; omega
  obtain ⟨p, rfl, hp, hx, hI⟩ := HR.out.at_ 0 (by omega)
  rw [show 0 * 5 = 0 by rfl, gaddr0] at hx
  have x0 := hx.1
  clear hx hI
  have hpl := hp
  by_cases z : (l.getD 0 Ch.nil).t = 0
  case neg =>
    have Q := Lib.hid (show q = false by
      cases hqq : q with
      | false => rfl
      | true =>
        have k := ((HQ.out.1 hqq).2.2 0 (by rw [hL.out]; omega)).2.1
        rw [if_pos rfl] at k
        exact absurd k z)
    generalize (l.getD 0 Ch.nil).t = t0 at x0 z
    have d3 : (t0 != 0) = true := by simpa using z
    have d4 : (t0 == 0) = false := by simpa using z
    go_enter Try.func13, Try.ntmps13
    go_wp2_with fail
    go_ret
    exact ⟨by rw [Q.out]; rfl, Below.refl _ _⟩
  have HZ := Lib.hid z
  rw [z] at x0
  clear z
  have h3 : 1 ≤ len := by omega
  have h4 : len ≤ 20 := by omega
  go_enter Try.func13, Try.ntmps13
  go_wp2_with fail
  go_loopw [3, 4, 22] (fun _ _ i wr => ∃ k : Nat, k ≤ len ∧ i = .int .i64 k ∧ Hid (∀ i, i < k → ElOk l i) ∧ Hid (Below w.heap.size w wr)) (fun _ _ i _ => len - (intOf i).toNat)
  case atStart => exact ⟨0, Nat.zero_le _, rfl, fun i hi => absurd hi (by omega), Below.refl _ _⟩
  case round =>
    rename_i wr
    clear x0
    obtain ⟨k, hk, rfl, S, BB⟩ := hrel
    by_cases hlt : k < len
    · obtain ⟨p', e', hp', hx, hI⟩ := HR.out.at_ k hlt
      injection e' with e'
      subst e'
      have HB := Lib.hid BB.out.size
      have hX := Lib.hid (hx.below BB.out (by rw [block_of_add]; exact hp))
      have NO : ¬ ElOk l k → q = false := fun h => by
        cases hqq : q with
        | false => rfl
        | true => exact absurd ((HQ.out.1 hqq).2.2 k (by rw [hL.out]; exact hlt)) h
      have YES : ElOk l k → Hid (∀ i, i < k + 1 → ElOk l i) := fun h i hi => by
        by_cases e : i = k
        · subst e; exact h
        · exact S.out i (by omega)
      have HZk : k = 0 → (l.getD k Ch.nil).t = 0 := fun e => by subst e; exact HZ.out
      unfold ElOk at NO YES
      clear hx
      generalize hg : l.getD k Ch.nil = s at hX NO YES hI HZk
      clear hg
      obtain ⟨t, a, b, c, d⟩ := s
      obtain ⟨x0, x1, x2, x3, x4⟩ := hX.out
      obtain ⟨⟨t0, t1⟩, _⟩ := hI
      dsimp only at x0 x1 x2 x3 x4 t0 t1 HZk
      obtain ⟨W2, hW2⟩ : ∃ W2, wr.alloc (.cells #[.int .i64 t, .int .i64 a, .int .i64 b, .int .i64 c, .int .i64 d] 24) = W2 := ⟨_, rfl⟩
      have X : Hid (Five W2 wr.heap.size 24 (.int .i64 t) (.int .i64 a) (.int .i64 b) (.int .i64 c) (.int .i64 d)) := by rw [← hW2]; exact Five.new _ _ _ _ _ _ _
      have b2 : Below wr.heap.size wr W2 := by rw [← hW2]; exact below_alloc _ _
      have BW : Hid (Below wr.heap.size wr W2) := b2
      replace BB := Lib.hid (below_more BB.out b2)
      have cx : ∀ w', Cls W2 w' → Five w' wr.heap.size 24 (.int .i64 t) (.int .i64 a) (.int .i64 b) (.int .i64 c) (.int .i64 d) := fun w' h => X.out.below h X.out.lt
      clear b2
      by_cases f : (Ch.mk t a b c d).Form
      case neg =>
        have FO := Lib.hid (gform_any ⟨t, a, b, c, d⟩ false ⟨fun h => (by cases h), fun h => absurd h f⟩)
        have Q := Lib.hid (NO (fun a => f a.1))
        unfold chV at FO
        dsimp only at FO
        clear NO YES f
        go_wp2_with fail
        refine wp_region_cls W2 (by kernel_rfl) (by kernel_rfl) (show Cls W2 W2.drew from (Below.refl _ _).drew) ?_
        repeat (first
          | go_big_quiet_skip
          | (go_big_quiet_want; go_big_quiet_op; first
            | go_big_quiet_on
            | (apply Exists.intro; refine ⟨fun _ _ => ?_, ?_⟩; (focus (with_reducible rfl)); go_big_quiet_on)
            | (refine ⟨.agg #[.int .i64 t, .int .i64 a, .int .i64 b, .int .i64 c, .int .i64 d], fun w' hw' => ?_, ?_⟩; (focus (have f := cx w' hw'; simp [f.c0, f.c1, f.c2, f.c3, f.c4]; done)); go_big_quiet_on)
            | (refine ⟨.int .i64 t, fun w' hw' => ?_, ?_⟩; (focus (have f := cx w' hw'; simp [f.c0]; done)); go_big_quiet_on)
            | (refine ⟨.bool false, fun w' hw' => ?_, ?_⟩; (focus (go_at_call 34; exact (FO.out w').mono (fun e w'' k => ⟨k.1, below_more hw' k.2⟩))); go_big_quiet_on)))
        refine wpQuiet_nil ?_
        intro w4 hw4
        replace BB := Lib.hid (below_more BB.out hw4)
        clear cx FO
        go_wp2_with fail
        go_ret
        exact ⟨by rw [Q.out]; rfl, BB.out⟩
      have FO := Lib.hid (gform_any ⟨t, a, b, c, d⟩ true ⟨fun _ => f, fun _ => rfl⟩)
      unfold chV at FO
      dsimp only at FO
      by_cases h : 3000000000000000 < t
      · have Q := Lib.hid (NO (fun a => by have := a.2.2; dsimp only at this; omega))
        have d5 : decide (3000000000000000 < t) = true := by simp; omega
        clear NO YES f h
        go_wp2_with fail
        refine wp_region_cls W2 (by kernel_rfl) (by kernel_rfl) (show Cls W2 W2.drew from (Below.refl _ _).drew) ?_
        repeat (first
          | go_big_quiet_skip
          | (go_big_quiet_want; go_big_quiet_op; first
            | go_big_quiet_on
            | (apply Exists.intro; refine ⟨fun _ _ => ?_, ?_⟩; (focus (with_reducible rfl)); go_big_quiet_on)
            | (refine ⟨.agg #[.int .i64 t, .int .i64 a, .int .i64 b, .int .i64 c, .int .i64 d], fun w' hw' => ?_, ?_⟩; (focus (have f := cx w' hw'; simp [f.c0, f.c1, f.c2, f.c3, f.c4]; done)); go_big_quiet_on)
            | (refine ⟨.int .i64 t, fun w' hw' => ?_, ?_⟩; (focus (have f := cx w' hw'; simp [f.c0]; done)); go_big_quiet_on)
            | (refine ⟨.bool true, fun w' hw' => ?_, ?_⟩; (focus (go_at_call 34; exact (FO.out w').mono (fun e w'' k => ⟨k.1, below_more hw' k.2⟩))); go_big_quiet_on)))
        refine wpQuiet_nil ?_
        intro w4 hw4
        replace BB := Lib.hid (below_more BB.out hw4)
        clear cx FO
        go_wp2_with fail
        go_ret
        exact ⟨by rw [Q.out]; rfl, BB.out⟩
      have d5 : decide (3000000000000000 < t) = false := by simp; omega
      rcases Nat.eq_zero_or_pos k with hk0 | hk0
      · rw [if_pos hk0] at NO YES
        have d6 : decide ((0 : Int) < (k : Int)) = false := by simp; omega
        have d7 : decide (0 < k) = false := by simp; omega
        have Y := Lib.hid (YES ⟨f, HZk hk0, by dsimp only; omega⟩)
        clear NO YES f hk0 HZk
        go_wp2_with fail
        refine wp_region_cls W2 (by kernel_rfl) (by kernel_rfl) (show Cls W2 W2.drew from (Below.refl _ _).drew) ?_
        repeat (first
          | go_big_quiet_skip
          | (go_big_quiet_want; go_big_quiet_op; first
            | go_big_quiet_on
            | (apply Exists.intro; refine ⟨fun _ _ => ?_, ?_⟩; (focus (with_reducible rfl)); go_big_quiet_on)
            | (refine ⟨.agg #[.int .i64 t, .int .i64 a, .int .i64 b, .int .i64 c, .int .i64 d], fun w' hw' => ?_, ?_⟩; (focus (have f := cx w' hw'; simp [f.c0, f.c1, f.c2, f.c3, f.c4]; done)); go_big_quiet_on)
            | (refine ⟨.int .i64 t, fun w' hw' => ?_, ?_⟩; (focus (have f := cx w' hw'; simp [f.c0]; done)); go_big_quiet_on)
            | (refine ⟨.bool true, fun w' hw' => ?_, ?_⟩; (focus (go_at_call 34; exact (FO.out w').mono (fun e w'' k => ⟨k.1, below_more hw' k.2⟩))); go_big_quiet_on)))
        refine wpQuiet_nil ?_
        intro w4 hw4
        replace BB := Lib.hid (below_more BB.out hw4)
        clear cx FO
        go_wp2_with fail
        go_roundw
        case rel => exact ⟨k + 1, by omega, by go_num, Y, BB⟩
        case measure => simp [intOf]; omega
      rw [if_neg (by omega)] at NO YES
      obtain ⟨m, hm⟩ : ∃ m, k - 1 = m := ⟨_, rfl⟩
      have d6 : decide ((0 : Int) < (k : Int)) = true := by simp; omega
      have d7 : decide (0 < k) = true := by simp; omega
      rw [hm] at NO YES
      have e1 : (k : Int) - 1 = (m : Int) := by omega
      have e2 : ((k : Int) - 1).toNat = m := by omega
      have e3 : IntKind.i64.wrap ((k : Int) - 1) = (m : Int) := by rw [e1]; exact IntWalk.i64_in _ (by omega)
      have ml : m < len := by omega
      obtain ⟨p', e', hp', hy, hJ⟩ := HR.out.at_ m ml
      injection e' with e'
      subst e'
      have hz : W2.heap.size = wr.heap.size + 1 := by rw [← hW2]; simp
      have hP' := Lib.hid (show (p.add (m * 5)).block < wr.heap.size by rw [block_of_add]; exact Nat.lt_of_lt_of_le hp HB.out)
      clear hm
      have hY := hy
      clear hy
      have cy : ∀ w', Cls W2 w' → w'.cell? (p.add (m * 5)) = some (.int .i64 (l.getD m Ch.nil).t) := fun w' h => (h.cell (p := p.add (m * 5)) (Nat.lt_of_lt_of_le hP'.out BW.out.size)).trans ((BB.out.cell (p := p.add (m * 5)) (by rw [block_of_add]; exact hp)).trans hY.1)
      clear hY
      generalize (l.getD m Ch.nil).t = t' at cy NO YES
      by_cases g : t ≤ t'
      · have Q := Lib.hid (NO (fun a => by have := a.2.1; dsimp only at this; omega))
        have d8 : decide (t ≤ t') = true := by simp; omega
        clear NO YES f g
        go_wp2_with fail
        refine wp_region_cls W2 (by kernel_rfl) (by kernel_rfl) (show Cls W2 W2.drew from (Below.refl _ _).drew) ?_
        repeat (first
          | go_big_quiet_skip
          | (go_big_quiet_want; go_big_quiet_op; first
            | go_big_quiet_on
            | (apply Exists.intro; refine ⟨fun _ _ => ?_, ?_⟩; (focus (with_reducible rfl)); go_big_quiet_on)
            | (refine ⟨.agg #[.int .i64 t, .int .i64 a, .int .i64 b, .int .i64 c, .int .i64 d], fun w' hw' => ?_, ?_⟩; (focus (have f := cx w' hw'; simp [f.c0, f.c1, f.c2, f.c3, f.c4]; done)); go_big_quiet_on)
            | (refine ⟨.int .i64 t, fun w' hw' => ?_, ?_⟩; (focus (have f := cx w' hw'; simp [f.c0]; done)); go_big_quiet_on)
            | (refine ⟨.int .i64 t', fun w' hw' => ?_, ?_⟩; (focus (have f := cy w' hw'; simp [f]; done)); go_big_quiet_on)
            | (refine ⟨.bool true, fun w' hw' => ?_, ?_⟩; (focus (go_at_call 34; exact (FO.out w').mono (fun e w'' k => ⟨k.1, below_more hw' k.2⟩))); go_big_quiet_on)))
        refine wpQuiet_nil ?_
        intro w4 hw4
        replace BB := Lib.hid (below_more BB.out hw4)
        clear cx FO cy
        go_wp2_with fail
        go_ret
        exact ⟨by rw [Q.out]; rfl, BB.out⟩
      · have Y := Lib.hid (YES ⟨f, by dsimp only; omega, by dsimp only; omega⟩)
        have d8 : decide (t ≤ t') = false := by simp; omega
        clear NO YES f g
        go_wp2_with fail
        refine wp_region_cls W2 (by kernel_rfl) (by kernel_rfl) (show Cls W2 W2.drew from (Below.refl _ _).drew) ?_
        repeat (first
          | go_big_quiet_skip
          | (go_big_quiet_want; go_big_quiet_op; first
            | go_big_quiet_on
            | (apply Exists.intro; refine ⟨fun _ _ => ?_, ?_⟩; (focus (with_reducible rfl)); go_big_quiet_on)
            | (refine ⟨.agg #[.int .i64 t, .int .i64 a, .int .i64 b, .int .i64 c, .int .i64 d], fun w' hw' => ?_, ?_⟩; (focus (have f := cx w' hw'; simp [f.c0, f.c1, f.c2, f.c3, f.c4]; done)); go_big_quiet_on)
            | (refine ⟨.int .i64 t, fun w' hw' => ?_, ?_⟩; (focus (have f := cx w' hw'; simp [f.c0]; done)); go_big_quiet_on)
            | (refine ⟨.int .i64 t', fun w' hw' => ?_, ?_⟩; (focus (have f := cy w' hw'; simp [f]; done)); go_big_quiet_on)
            | (refine ⟨.bool true, fun w' hw' => ?_, ?_⟩; (focus (go_at_call 34; exact (FO.out w').mono (fun e w'' k => ⟨k.1, below_more hw' k.2⟩))); go_big_quiet_on)))
        refine wpQuiet_nil ?_
        intro w4 hw4
        replace BB := Lib.hid (below_more BB.out hw4)
        clear cx FO cy
        go_wp2_with fail
        go_roundw
        case rel => exact ⟨k + 1, by omega, by go_num, Y, BB⟩
        case measure => simp [intOf]; omega
    · obtain rfl : k = len := by omega
      have Q := Lib.hid (show q = true from HQ.out.2 ⟨by rw [hL.out]; omega, by rw [hL.out]; omega, by rw [hL.out]; exact S.out⟩)
      go_wp2_with fail
      go_ret
      exact ⟨by rw [Q.out]; rfl, BB.out⟩
end Go.Proofs.Ytkeahbdeddjoeaa
