/- Layer 11: PacketReplies (gen/gen_laws.py writes this). -/
import Derived.Test.YtmfbnajaocaikaaReqs
namespace Go.Proofs.Ytmfbnajaocaikaa
open Go.RowKit Go.Sort Go
set_option linter.unusedVariables false
set_option linter.unusedSimpArgs false

set_option maxRecDepth 100000 in
set_option maxHeartbeats 16000000 in
theorem replies_walk (G : Pkt) (q : Rp) (hq : q.In) (A : Option Addr) (len cap : Nat) (z : List UInt8) (w : World) (hr : Row8 w.heap.size w A len z) (hl : len ≤ cap) (hc : cap ≤ 9223372036854775807) :
    Calls Try.prog 5 #[rpV q, .slice A len cap] w (Gives (.bool true) w) := by
  have HD := Lib.hid (head_true G)
  have hz := hr.len
  by_cases gt0 : 300 < len
  · have d1 : decide ((300 : Int) < (len : Int)) = true := by simp; omega
    clear G hz hl hc
    obtain ⟨a0, h0, r0, n0, l0, g0, k0, t0, c0, s0⟩ := q
    unfold rpV
    dsimp only
    obtain ⟨W, hW⟩ : ∃ W, (w.alloc (.cells #[.int .i64 a0, .int .i64 h0, .int .i64 r0, .int .u64 n0, .int .i64 l0, .int .i64 g0, .int .i64 k0, .int .i64 t0, .int .i64 c0, .int .i64 s0] 30)) = W := ⟨_, rfl⟩
    have Q : Hid (Cells W (w.heap.size) 30 #[.int .i64 a0, .int .i64 h0, .int .i64 r0, .int .u64 n0, .int .i64 l0, .int .i64 g0, .int .i64 k0, .int .i64 t0, .int .i64 c0, .int .i64 s0]) := by
      rw [← hW]
      have k := Cells.new w 30 #[.int .i64 a0, .int .i64 h0, .int .i64 r0, .int .u64 n0, .int .i64 l0, .int .i64 g0, .int .i64 k0, .int .i64 t0, .int .i64 c0, .int .i64 s0]
      exact k
    have BB : Hid (Below w.heap.size w W) := by rw [← hW]; exact below_alloc w _
    have q_0 := Q.out.c 0 rfl
    have q_1 := Q.out.c 1 rfl
    have q_2 := Q.out.c 2 rfl
    have q_3 := Q.out.c 3 rfl
    have q_4 := Q.out.c 4 rfl
    have q_5 := Q.out.c 5 rfl
    have q_6 := Q.out.c 6 rfl
    have q_7 := Q.out.c 7 rfl
    have q_8 := Q.out.c 8 rfl
    have q_9 := Q.out.c 9 rfl
    have q_l := Q.out.lt
    have RB : Hid (Row8 W.heap.size W A len z) := by rw [← hW]; exact (hr.step (below_alloc _ _))
    clear hr
    go_enter Try.func5, Try.ntmps5
    go_wp2_with (go_at_call 10; (with_reducible refine (HD.out _).mono ?_); rintro e w1 ⟨rfl, b1⟩; replace Q := Lib.hid (Q.out.below b1 Q.out.lt); replace BB := Lib.hid (below_more BB.out b1); replace RB := Lib.hid (RB.out.step b1); replace q_0 := Q.out.c 0 rfl; replace q_1 := Q.out.c 1 rfl; replace q_2 := Q.out.c 2 rfl; replace q_3 := Q.out.c 3 rfl; replace q_4 := Q.out.c 4 rfl; replace q_5 := Q.out.c 5 rfl; replace q_6 := Q.out.c 6 rfl; replace q_7 := Q.out.c 7 rfl; replace q_8 := Q.out.c 8 rfl; replace q_9 := Q.out.c 9 rfl; replace q_l := Q.out.lt; clear b1 HD)
    go_ret
    exact ⟨by simp, BB.out⟩
  have d1 : decide ((300 : Int) < (len : Int)) = false := by simp; omega
  have EQ := fun W => eql_rpV q q W
  simp only [decide_true] at EQ
  cases eq : getP z with
  | none =>
    have GQ := Lib.hid (G.getp_no eq (by omega))
    clear eq
    by_cases oq : q.Ok
    · have CQ := Lib.hid (rrep_any q true (by simp [oq]))
      have PR := Lib.hid (G.putp_yes oq hq)
      have G2 := Lib.hid (G.getp_yes (getP_put oq hq) (by have := pk_len (k := 2) (pints_in hq) (by simp [Rp.ints]); omega))
      clear G oq hq hz gt0
      obtain ⟨a0, h0, r0, n0, l0, g0, k0, t0, c0, s0⟩ := q
      unfold rpV at CQ EQ GQ PR G2 ⊢
      unfold Rp.nil at GQ
      dsimp only at CQ EQ GQ PR G2 ⊢
      obtain ⟨W, hW⟩ : ∃ W, (w.alloc (.cells #[.int .i64 a0, .int .i64 h0, .int .i64 r0, .int .u64 n0, .int .i64 l0, .int .i64 g0, .int .i64 k0, .int .i64 t0, .int .i64 c0, .int .i64 s0] 30)) = W := ⟨_, rfl⟩
      have Q : Hid (Cells W (w.heap.size) 30 #[.int .i64 a0, .int .i64 h0, .int .i64 r0, .int .u64 n0, .int .i64 l0, .int .i64 g0, .int .i64 k0, .int .i64 t0, .int .i64 c0, .int .i64 s0]) := by
        rw [← hW]
        have k := Cells.new w 30 #[.int .i64 a0, .int .i64 h0, .int .i64 r0, .int .u64 n0, .int .i64 l0, .int .i64 g0, .int .i64 k0, .int .i64 t0, .int .i64 c0, .int .i64 s0]
        exact k
      have BB : Hid (Below w.heap.size w W) := by rw [← hW]; exact below_alloc w _
      have q_0 := Q.out.c 0 rfl
      have q_1 := Q.out.c 1 rfl
      have q_2 := Q.out.c 2 rfl
      have q_3 := Q.out.c 3 rfl
      have q_4 := Q.out.c 4 rfl
      have q_5 := Q.out.c 5 rfl
      have q_6 := Q.out.c 6 rfl
      have q_7 := Q.out.c 7 rfl
      have q_8 := Q.out.c 8 rfl
      have q_9 := Q.out.c 9 rfl
      have q_l := Q.out.lt
      have RB : Hid (Row8 W.heap.size W A len z) := by rw [← hW]; exact (hr.step (below_alloc _ _))
      clear hr
      go_enter Try.func5, Try.ntmps5
      go_wp2_with (first
        | (go_at_call 10; (with_reducible refine (HD.out _).mono ?_); rintro e w1 ⟨rfl, b1⟩; replace Q := Lib.hid (Q.out.below b1 Q.out.lt); replace BB := Lib.hid (below_more BB.out b1); replace RB := Lib.hid (RB.out.step b1); replace q_0 := Q.out.c 0 rfl; replace q_1 := Q.out.c 1 rfl; replace q_2 := Q.out.c 2 rfl; replace q_3 := Q.out.c 3 rfl; replace q_4 := Q.out.c 4 rfl; replace q_5 := Q.out.c 5 rfl; replace q_6 := Q.out.c 6 rfl; replace q_7 := Q.out.c 7 rfl; replace q_8 := Q.out.c 8 rfl; replace q_9 := Q.out.c 9 rfl; replace q_l := Q.out.lt; clear b1 HD)
        | (go_at_call 18; (with_reducible refine (GQ.out _ _ _ _ hl hc RB.out).mono ?_); rintro e w2 ⟨rfl, b2⟩; replace Q := Lib.hid ((Q.out.below b2 Q.out.lt).alloc (.cells #[.int .i64 0, .int .i64 0, .int .i64 0, .int .u64 0, .int .i64 0, .int .i64 0, .int .i64 0, .int .i64 0, .int .i64 0, .int .i64 0] 30)); have S := Lib.hid (Cells.new w2 30 #[.int .i64 0, .int .i64 0, .int .i64 0, .int .u64 0, .int .i64 0, .int .i64 0, .int .i64 0, .int .i64 0, .int .i64 0, .int .i64 0]); replace BB := Lib.hid (below_more BB.out b2); have Gs := Lib.hid BB.out.size; replace BB := Lib.hid (BB.out.alloc BB.out.size (.cells #[.int .i64 0, .int .i64 0, .int .i64 0, .int .u64 0, .int .i64 0, .int .i64 0, .int .i64 0, .int .i64 0, .int .i64 0, .int .i64 0] 30)); replace RB := Lib.hid ((RB.out.step b2).step (below_alloc w2 (.cells #[.int .i64 0, .int .i64 0, .int .i64 0, .int .u64 0, .int .i64 0, .int .i64 0, .int .i64 0, .int .i64 0, .int .i64 0, .int .i64 0] 30))); replace q_0 := Q.out.c 0 rfl; replace q_1 := Q.out.c 1 rfl; replace q_2 := Q.out.c 2 rfl; replace q_3 := Q.out.c 3 rfl; replace q_4 := Q.out.c 4 rfl; replace q_5 := Q.out.c 5 rfl; replace q_6 := Q.out.c 6 rfl; replace q_7 := Q.out.c 7 rfl; replace q_8 := Q.out.c 8 rfl; replace q_9 := Q.out.c 9 rfl; replace q_l := Q.out.lt; replace s_0 := S.out.c 0 rfl; replace s_1 := S.out.c 1 rfl; replace s_2 := S.out.c 2 rfl; replace s_3 := S.out.c 3 rfl; replace s_4 := S.out.c 4 rfl; replace s_5 := S.out.c 5 rfl; replace s_6 := S.out.c 6 rfl; replace s_7 := S.out.c 7 rfl; replace s_8 := S.out.c 8 rfl; replace s_9 := S.out.c 9 rfl; replace s_l := S.out.lt; clear b2 GQ)
        | (go_at_call 21; (with_reducible refine (CQ.out _).mono ?_); rintro e w3 ⟨rfl, b3⟩; replace Q := Lib.hid (Q.out.below b3 Q.out.lt); replace S := Lib.hid (S.out.below b3 S.out.lt); replace BB := Lib.hid (below_more BB.out b3); replace RB := Lib.hid (RB.out.step b3); replace q_0 := Q.out.c 0 rfl; replace q_1 := Q.out.c 1 rfl; replace q_2 := Q.out.c 2 rfl; replace q_3 := Q.out.c 3 rfl; replace q_4 := Q.out.c 4 rfl; replace q_5 := Q.out.c 5 rfl; replace q_6 := Q.out.c 6 rfl; replace q_7 := Q.out.c 7 rfl; replace q_8 := Q.out.c 8 rfl; replace q_9 := Q.out.c 9 rfl; replace q_l := Q.out.lt; replace s_0 := S.out.c 0 rfl; replace s_1 := S.out.c 1 rfl; replace s_2 := S.out.c 2 rfl; replace s_3 := S.out.c 3 rfl; replace s_4 := S.out.c 4 rfl; replace s_5 := S.out.c 5 rfl; replace s_6 := S.out.c 6 rfl; replace s_7 := S.out.c 7 rfl; replace s_8 := S.out.c 8 rfl; replace s_9 := S.out.c 9 rfl; replace s_l := S.out.lt; clear b3 CQ)
        | (go_at_call 16; (with_reducible refine (PR.out _).mono ?_); rintro e w4 ⟨ARD, nRD, cRD, rfl, hcRD, hmRD, r4, b4⟩; replace Q := Lib.hid (Q.out.below b4 Q.out.lt); replace S := Lib.hid (S.out.below b4 S.out.lt); replace BB := Lib.hid (below_more BB.out b4); replace RB := Lib.hid (RB.out.step b4); replace q_0 := Q.out.c 0 rfl; replace q_1 := Q.out.c 1 rfl; replace q_2 := Q.out.c 2 rfl; replace q_3 := Q.out.c 3 rfl; replace q_4 := Q.out.c 4 rfl; replace q_5 := Q.out.c 5 rfl; replace q_6 := Q.out.c 6 rfl; replace q_7 := Q.out.c 7 rfl; replace q_8 := Q.out.c 8 rfl; replace q_9 := Q.out.c 9 rfl; replace q_l := Q.out.lt; replace s_0 := S.out.c 0 rfl; replace s_1 := S.out.c 1 rfl; replace s_2 := S.out.c 2 rfl; replace s_3 := S.out.c 3 rfl; replace s_4 := S.out.c 4 rfl; replace s_5 := S.out.c 5 rfl; replace s_6 := S.out.c 6 rfl; replace s_7 := S.out.c 7 rfl; replace s_8 := S.out.c 8 rfl; replace s_9 := S.out.c 9 rfl; replace s_l := S.out.lt; have RD := Lib.hid r4; clear b4 PR r4)
        | (go_at_call 18; (with_reducible refine (G2.out _ _ _ _ hcRD hmRD RD.out).mono ?_); rintro e w5 ⟨rfl, b5⟩; replace Q := Lib.hid ((Q.out.below b5 Q.out.lt).alloc (.cells #[.int .i64 a0, .int .i64 h0, .int .i64 r0, .int .u64 n0, .int .i64 l0, .int .i64 g0, .int .i64 k0, .int .i64 t0, .int .i64 c0, .int .i64 s0] 30)); replace S := Lib.hid ((S.out.below b5 S.out.lt).alloc (.cells #[.int .i64 a0, .int .i64 h0, .int .i64 r0, .int .u64 n0, .int .i64 l0, .int .i64 g0, .int .i64 k0, .int .i64 t0, .int .i64 c0, .int .i64 s0] 30)); have T := Lib.hid (Cells.new w5 30 #[.int .i64 a0, .int .i64 h0, .int .i64 r0, .int .u64 n0, .int .i64 l0, .int .i64 g0, .int .i64 k0, .int .i64 t0, .int .i64 c0, .int .i64 s0]); replace BB := Lib.hid (below_more BB.out b5); have Gt := Lib.hid BB.out.size; replace BB := Lib.hid (BB.out.alloc BB.out.size (.cells #[.int .i64 a0, .int .i64 h0, .int .i64 r0, .int .u64 n0, .int .i64 l0, .int .i64 g0, .int .i64 k0, .int .i64 t0, .int .i64 c0, .int .i64 s0] 30)); replace RB := Lib.hid ((RB.out.step b5).step (below_alloc w5 (.cells #[.int .i64 a0, .int .i64 h0, .int .i64 r0, .int .u64 n0, .int .i64 l0, .int .i64 g0, .int .i64 k0, .int .i64 t0, .int .i64 c0, .int .i64 s0] 30))); replace RD := Lib.hid ((RD.out.step b5).step (below_alloc w5 (.cells #[.int .i64 a0, .int .i64 h0, .int .i64 r0, .int .u64 n0, .int .i64 l0, .int .i64 g0, .int .i64 k0, .int .i64 t0, .int .i64 c0, .int .i64 s0] 30))); replace q_0 := Q.out.c 0 rfl; replace q_1 := Q.out.c 1 rfl; replace q_2 := Q.out.c 2 rfl; replace q_3 := Q.out.c 3 rfl; replace q_4 := Q.out.c 4 rfl; replace q_5 := Q.out.c 5 rfl; replace q_6 := Q.out.c 6 rfl; replace q_7 := Q.out.c 7 rfl; replace q_8 := Q.out.c 8 rfl; replace q_9 := Q.out.c 9 rfl; replace q_l := Q.out.lt; replace s_0 := S.out.c 0 rfl; replace s_1 := S.out.c 1 rfl; replace s_2 := S.out.c 2 rfl; replace s_3 := S.out.c 3 rfl; replace s_4 := S.out.c 4 rfl; replace s_5 := S.out.c 5 rfl; replace s_6 := S.out.c 6 rfl; replace s_7 := S.out.c 7 rfl; replace s_8 := S.out.c 8 rfl; replace s_9 := S.out.c 9 rfl; replace s_l := S.out.lt; replace t_0 := T.out.c 0 rfl; replace t_1 := T.out.c 1 rfl; replace t_2 := T.out.c 2 rfl; replace t_3 := T.out.c 3 rfl; replace t_4 := T.out.c 4 rfl; replace t_5 := T.out.c 5 rfl; replace t_6 := T.out.c 6 rfl; replace t_7 := T.out.c 7 rfl; replace t_8 := T.out.c 8 rfl; replace t_9 := T.out.c 9 rfl; replace t_l := T.out.lt; clear b5 G2))
      go_ret
      exact ⟨by simp, BB.out⟩
    · have CQ := Lib.hid (rrep_any q false (by simp [oq]))
      clear G oq hq hz gt0
      obtain ⟨a0, h0, r0, n0, l0, g0, k0, t0, c0, s0⟩ := q
      unfold rpV at CQ EQ GQ ⊢
      unfold Rp.nil at GQ
      dsimp only at CQ EQ GQ ⊢
      obtain ⟨W, hW⟩ : ∃ W, (w.alloc (.cells #[.int .i64 a0, .int .i64 h0, .int .i64 r0, .int .u64 n0, .int .i64 l0, .int .i64 g0, .int .i64 k0, .int .i64 t0, .int .i64 c0, .int .i64 s0] 30)) = W := ⟨_, rfl⟩
      have Q : Hid (Cells W (w.heap.size) 30 #[.int .i64 a0, .int .i64 h0, .int .i64 r0, .int .u64 n0, .int .i64 l0, .int .i64 g0, .int .i64 k0, .int .i64 t0, .int .i64 c0, .int .i64 s0]) := by
        rw [← hW]
        have k := Cells.new w 30 #[.int .i64 a0, .int .i64 h0, .int .i64 r0, .int .u64 n0, .int .i64 l0, .int .i64 g0, .int .i64 k0, .int .i64 t0, .int .i64 c0, .int .i64 s0]
        exact k
      have BB : Hid (Below w.heap.size w W) := by rw [← hW]; exact below_alloc w _
      have q_0 := Q.out.c 0 rfl
      have q_1 := Q.out.c 1 rfl
      have q_2 := Q.out.c 2 rfl
      have q_3 := Q.out.c 3 rfl
      have q_4 := Q.out.c 4 rfl
      have q_5 := Q.out.c 5 rfl
      have q_6 := Q.out.c 6 rfl
      have q_7 := Q.out.c 7 rfl
      have q_8 := Q.out.c 8 rfl
      have q_9 := Q.out.c 9 rfl
      have q_l := Q.out.lt
      have RB : Hid (Row8 W.heap.size W A len z) := by rw [← hW]; exact (hr.step (below_alloc _ _))
      clear hr
      go_enter Try.func5, Try.ntmps5
      go_wp2_with (first
        | (go_at_call 10; (with_reducible refine (HD.out _).mono ?_); rintro e w1 ⟨rfl, b1⟩; replace Q := Lib.hid (Q.out.below b1 Q.out.lt); replace BB := Lib.hid (below_more BB.out b1); replace RB := Lib.hid (RB.out.step b1); replace q_0 := Q.out.c 0 rfl; replace q_1 := Q.out.c 1 rfl; replace q_2 := Q.out.c 2 rfl; replace q_3 := Q.out.c 3 rfl; replace q_4 := Q.out.c 4 rfl; replace q_5 := Q.out.c 5 rfl; replace q_6 := Q.out.c 6 rfl; replace q_7 := Q.out.c 7 rfl; replace q_8 := Q.out.c 8 rfl; replace q_9 := Q.out.c 9 rfl; replace q_l := Q.out.lt; clear b1 HD)
        | (go_at_call 18; (with_reducible refine (GQ.out _ _ _ _ hl hc RB.out).mono ?_); rintro e w2 ⟨rfl, b2⟩; replace Q := Lib.hid ((Q.out.below b2 Q.out.lt).alloc (.cells #[.int .i64 0, .int .i64 0, .int .i64 0, .int .u64 0, .int .i64 0, .int .i64 0, .int .i64 0, .int .i64 0, .int .i64 0, .int .i64 0] 30)); have S := Lib.hid (Cells.new w2 30 #[.int .i64 0, .int .i64 0, .int .i64 0, .int .u64 0, .int .i64 0, .int .i64 0, .int .i64 0, .int .i64 0, .int .i64 0, .int .i64 0]); replace BB := Lib.hid (below_more BB.out b2); have Gs := Lib.hid BB.out.size; replace BB := Lib.hid (BB.out.alloc BB.out.size (.cells #[.int .i64 0, .int .i64 0, .int .i64 0, .int .u64 0, .int .i64 0, .int .i64 0, .int .i64 0, .int .i64 0, .int .i64 0, .int .i64 0] 30)); replace RB := Lib.hid ((RB.out.step b2).step (below_alloc w2 (.cells #[.int .i64 0, .int .i64 0, .int .i64 0, .int .u64 0, .int .i64 0, .int .i64 0, .int .i64 0, .int .i64 0, .int .i64 0, .int .i64 0] 30))); replace q_0 := Q.out.c 0 rfl; replace q_1 := Q.out.c 1 rfl; replace q_2 := Q.out.c 2 rfl; replace q_3 := Q.out.c 3 rfl; replace q_4 := Q.out.c 4 rfl; replace q_5 := Q.out.c 5 rfl; replace q_6 := Q.out.c 6 rfl; replace q_7 := Q.out.c 7 rfl; replace q_8 := Q.out.c 8 rfl; replace q_9 := Q.out.c 9 rfl; replace q_l := Q.out.lt; replace s_0 := S.out.c 0 rfl; replace s_1 := S.out.c 1 rfl; replace s_2 := S.out.c 2 rfl; replace s_3 := S.out.c 3 rfl; replace s_4 := S.out.c 4 rfl; replace s_5 := S.out.c 5 rfl; replace s_6 := S.out.c 6 rfl; replace s_7 := S.out.c 7 rfl; replace s_8 := S.out.c 8 rfl; replace s_9 := S.out.c 9 rfl; replace s_l := S.out.lt; clear b2 GQ)
        | (go_at_call 21; (with_reducible refine (CQ.out _).mono ?_); rintro e w3 ⟨rfl, b3⟩; replace Q := Lib.hid (Q.out.below b3 Q.out.lt); replace S := Lib.hid (S.out.below b3 S.out.lt); replace BB := Lib.hid (below_more BB.out b3); replace RB := Lib.hid (RB.out.step b3); replace q_0 := Q.out.c 0 rfl; replace q_1 := Q.out.c 1 rfl; replace q_2 := Q.out.c 2 rfl; replace q_3 := Q.out.c 3 rfl; replace q_4 := Q.out.c 4 rfl; replace q_5 := Q.out.c 5 rfl; replace q_6 := Q.out.c 6 rfl; replace q_7 := Q.out.c 7 rfl; replace q_8 := Q.out.c 8 rfl; replace q_9 := Q.out.c 9 rfl; replace q_l := Q.out.lt; replace s_0 := S.out.c 0 rfl; replace s_1 := S.out.c 1 rfl; replace s_2 := S.out.c 2 rfl; replace s_3 := S.out.c 3 rfl; replace s_4 := S.out.c 4 rfl; replace s_5 := S.out.c 5 rfl; replace s_6 := S.out.c 6 rfl; replace s_7 := S.out.c 7 rfl; replace s_8 := S.out.c 8 rfl; replace s_9 := S.out.c 9 rfl; replace s_l := S.out.lt; clear b3 CQ))
      go_ret
      exact ⟨by simp, BB.out⟩
  | some s =>
    have GQ := Lib.hid (G.getp_yes eq (by omega))
    obtain ⟨hb, so, si⟩ := getP_some eq
    have PS := Lib.hid (G.putp_yes so si)
    rw [← hb] at PS
    have SM := Lib.hid (fun A A' n n' c c' w hr hr' => same_c (xs := z) (ys := z) (b := true) (by simp) A A' n n' c c' w hr hr' (by omega) (by omega))
    clear eq hb so si
    obtain ⟨a1, h1, r1, n1, l1, g1, k1, t1, c1, s1⟩ := s
    by_cases oq : q.Ok
    · have CQ := Lib.hid (rrep_any q true (by simp [oq]))
      have PR := Lib.hid (G.putp_yes oq hq)
      have G2 := Lib.hid (G.getp_yes (getP_put oq hq) (by have := pk_len (k := 2) (pints_in hq) (by simp [Rp.ints]); omega))
      clear G oq hq hz gt0
      obtain ⟨a0, h0, r0, n0, l0, g0, k0, t0, c0, s0⟩ := q
      unfold rpV at CQ EQ GQ PS PR G2 ⊢
      dsimp only at CQ EQ GQ PS PR G2 ⊢
      obtain ⟨W, hW⟩ : ∃ W, (w.alloc (.cells #[.int .i64 a0, .int .i64 h0, .int .i64 r0, .int .u64 n0, .int .i64 l0, .int .i64 g0, .int .i64 k0, .int .i64 t0, .int .i64 c0, .int .i64 s0] 30)) = W := ⟨_, rfl⟩
      have Q : Hid (Cells W (w.heap.size) 30 #[.int .i64 a0, .int .i64 h0, .int .i64 r0, .int .u64 n0, .int .i64 l0, .int .i64 g0, .int .i64 k0, .int .i64 t0, .int .i64 c0, .int .i64 s0]) := by
        rw [← hW]
        have k := Cells.new w 30 #[.int .i64 a0, .int .i64 h0, .int .i64 r0, .int .u64 n0, .int .i64 l0, .int .i64 g0, .int .i64 k0, .int .i64 t0, .int .i64 c0, .int .i64 s0]
        exact k
      have BB : Hid (Below w.heap.size w W) := by rw [← hW]; exact below_alloc w _
      have q_0 := Q.out.c 0 rfl
      have q_1 := Q.out.c 1 rfl
      have q_2 := Q.out.c 2 rfl
      have q_3 := Q.out.c 3 rfl
      have q_4 := Q.out.c 4 rfl
      have q_5 := Q.out.c 5 rfl
      have q_6 := Q.out.c 6 rfl
      have q_7 := Q.out.c 7 rfl
      have q_8 := Q.out.c 8 rfl
      have q_9 := Q.out.c 9 rfl
      have q_l := Q.out.lt
      have RB : Hid (Row8 W.heap.size W A len z) := by rw [← hW]; exact (hr.step (below_alloc _ _))
      clear hr
      go_enter Try.func5, Try.ntmps5
      go_wp2_with (first
        | (go_at_call 10; (with_reducible refine (HD.out _).mono ?_); rintro e w1 ⟨rfl, b1⟩; replace Q := Lib.hid (Q.out.below b1 Q.out.lt); replace BB := Lib.hid (below_more BB.out b1); replace RB := Lib.hid (RB.out.step b1); replace q_0 := Q.out.c 0 rfl; replace q_1 := Q.out.c 1 rfl; replace q_2 := Q.out.c 2 rfl; replace q_3 := Q.out.c 3 rfl; replace q_4 := Q.out.c 4 rfl; replace q_5 := Q.out.c 5 rfl; replace q_6 := Q.out.c 6 rfl; replace q_7 := Q.out.c 7 rfl; replace q_8 := Q.out.c 8 rfl; replace q_9 := Q.out.c 9 rfl; replace q_l := Q.out.lt; clear b1 HD)
        | (go_at_call 18; (with_reducible refine (GQ.out _ _ _ _ hl hc RB.out).mono ?_); rintro e w2 ⟨rfl, b2⟩; replace Q := Lib.hid ((Q.out.below b2 Q.out.lt).alloc (.cells #[.int .i64 a1, .int .i64 h1, .int .i64 r1, .int .u64 n1, .int .i64 l1, .int .i64 g1, .int .i64 k1, .int .i64 t1, .int .i64 c1, .int .i64 s1] 30)); have S := Lib.hid (Cells.new w2 30 #[.int .i64 a1, .int .i64 h1, .int .i64 r1, .int .u64 n1, .int .i64 l1, .int .i64 g1, .int .i64 k1, .int .i64 t1, .int .i64 c1, .int .i64 s1]); replace BB := Lib.hid (below_more BB.out b2); have Gs := Lib.hid BB.out.size; replace BB := Lib.hid (BB.out.alloc BB.out.size (.cells #[.int .i64 a1, .int .i64 h1, .int .i64 r1, .int .u64 n1, .int .i64 l1, .int .i64 g1, .int .i64 k1, .int .i64 t1, .int .i64 c1, .int .i64 s1] 30)); replace RB := Lib.hid ((RB.out.step b2).step (below_alloc w2 (.cells #[.int .i64 a1, .int .i64 h1, .int .i64 r1, .int .u64 n1, .int .i64 l1, .int .i64 g1, .int .i64 k1, .int .i64 t1, .int .i64 c1, .int .i64 s1] 30))); replace q_0 := Q.out.c 0 rfl; replace q_1 := Q.out.c 1 rfl; replace q_2 := Q.out.c 2 rfl; replace q_3 := Q.out.c 3 rfl; replace q_4 := Q.out.c 4 rfl; replace q_5 := Q.out.c 5 rfl; replace q_6 := Q.out.c 6 rfl; replace q_7 := Q.out.c 7 rfl; replace q_8 := Q.out.c 8 rfl; replace q_9 := Q.out.c 9 rfl; replace q_l := Q.out.lt; replace s_0 := S.out.c 0 rfl; replace s_1 := S.out.c 1 rfl; replace s_2 := S.out.c 2 rfl; replace s_3 := S.out.c 3 rfl; replace s_4 := S.out.c 4 rfl; replace s_5 := S.out.c 5 rfl; replace s_6 := S.out.c 6 rfl; replace s_7 := S.out.c 7 rfl; replace s_8 := S.out.c 8 rfl; replace s_9 := S.out.c 9 rfl; replace s_l := S.out.lt; clear b2 GQ)
        | (go_at_call 16; (with_reducible refine (PS.out _).mono ?_); rintro e w3 ⟨ARC, nRC, cRC, rfl, hcRC, hmRC, r3, b3⟩; replace Q := Lib.hid (Q.out.below b3 Q.out.lt); replace S := Lib.hid (S.out.below b3 S.out.lt); replace BB := Lib.hid (below_more BB.out b3); replace RB := Lib.hid (RB.out.step b3); replace q_0 := Q.out.c 0 rfl; replace q_1 := Q.out.c 1 rfl; replace q_2 := Q.out.c 2 rfl; replace q_3 := Q.out.c 3 rfl; replace q_4 := Q.out.c 4 rfl; replace q_5 := Q.out.c 5 rfl; replace q_6 := Q.out.c 6 rfl; replace q_7 := Q.out.c 7 rfl; replace q_8 := Q.out.c 8 rfl; replace q_9 := Q.out.c 9 rfl; replace q_l := Q.out.lt; replace s_0 := S.out.c 0 rfl; replace s_1 := S.out.c 1 rfl; replace s_2 := S.out.c 2 rfl; replace s_3 := S.out.c 3 rfl; replace s_4 := S.out.c 4 rfl; replace s_5 := S.out.c 5 rfl; replace s_6 := S.out.c 6 rfl; replace s_7 := S.out.c 7 rfl; replace s_8 := S.out.c 8 rfl; replace s_9 := S.out.c 9 rfl; replace s_l := S.out.lt; have RC := Lib.hid r3; clear b3 PS r3)
        | (go_at_call 13; (with_reducible refine (SM.out _ _ _ _ _ _ _ RB.out RC.out).mono ?_); rintro e w4 ⟨rfl, b4⟩; replace Q := Lib.hid (Q.out.below b4 Q.out.lt); replace S := Lib.hid (S.out.below b4 S.out.lt); replace BB := Lib.hid (below_more BB.out b4); replace RB := Lib.hid (RB.out.step b4); replace RC := Lib.hid (RC.out.step b4); replace q_0 := Q.out.c 0 rfl; replace q_1 := Q.out.c 1 rfl; replace q_2 := Q.out.c 2 rfl; replace q_3 := Q.out.c 3 rfl; replace q_4 := Q.out.c 4 rfl; replace q_5 := Q.out.c 5 rfl; replace q_6 := Q.out.c 6 rfl; replace q_7 := Q.out.c 7 rfl; replace q_8 := Q.out.c 8 rfl; replace q_9 := Q.out.c 9 rfl; replace q_l := Q.out.lt; replace s_0 := S.out.c 0 rfl; replace s_1 := S.out.c 1 rfl; replace s_2 := S.out.c 2 rfl; replace s_3 := S.out.c 3 rfl; replace s_4 := S.out.c 4 rfl; replace s_5 := S.out.c 5 rfl; replace s_6 := S.out.c 6 rfl; replace s_7 := S.out.c 7 rfl; replace s_8 := S.out.c 8 rfl; replace s_9 := S.out.c 9 rfl; replace s_l := S.out.lt; clear b4 SM)
        | (go_at_call 21; (with_reducible refine (CQ.out _).mono ?_); rintro e w5 ⟨rfl, b5⟩; replace Q := Lib.hid (Q.out.below b5 Q.out.lt); replace S := Lib.hid (S.out.below b5 S.out.lt); replace BB := Lib.hid (below_more BB.out b5); replace RB := Lib.hid (RB.out.step b5); replace RC := Lib.hid (RC.out.step b5); replace q_0 := Q.out.c 0 rfl; replace q_1 := Q.out.c 1 rfl; replace q_2 := Q.out.c 2 rfl; replace q_3 := Q.out.c 3 rfl; replace q_4 := Q.out.c 4 rfl; replace q_5 := Q.out.c 5 rfl; replace q_6 := Q.out.c 6 rfl; replace q_7 := Q.out.c 7 rfl; replace q_8 := Q.out.c 8 rfl; replace q_9 := Q.out.c 9 rfl; replace q_l := Q.out.lt; replace s_0 := S.out.c 0 rfl; replace s_1 := S.out.c 1 rfl; replace s_2 := S.out.c 2 rfl; replace s_3 := S.out.c 3 rfl; replace s_4 := S.out.c 4 rfl; replace s_5 := S.out.c 5 rfl; replace s_6 := S.out.c 6 rfl; replace s_7 := S.out.c 7 rfl; replace s_8 := S.out.c 8 rfl; replace s_9 := S.out.c 9 rfl; replace s_l := S.out.lt; clear b5 CQ)
        | (go_at_call 16; (with_reducible refine (PR.out _).mono ?_); rintro e w6 ⟨ARD, nRD, cRD, rfl, hcRD, hmRD, r6, b6⟩; replace Q := Lib.hid (Q.out.below b6 Q.out.lt); replace S := Lib.hid (S.out.below b6 S.out.lt); replace BB := Lib.hid (below_more BB.out b6); replace RB := Lib.hid (RB.out.step b6); replace RC := Lib.hid (RC.out.step b6); replace q_0 := Q.out.c 0 rfl; replace q_1 := Q.out.c 1 rfl; replace q_2 := Q.out.c 2 rfl; replace q_3 := Q.out.c 3 rfl; replace q_4 := Q.out.c 4 rfl; replace q_5 := Q.out.c 5 rfl; replace q_6 := Q.out.c 6 rfl; replace q_7 := Q.out.c 7 rfl; replace q_8 := Q.out.c 8 rfl; replace q_9 := Q.out.c 9 rfl; replace q_l := Q.out.lt; replace s_0 := S.out.c 0 rfl; replace s_1 := S.out.c 1 rfl; replace s_2 := S.out.c 2 rfl; replace s_3 := S.out.c 3 rfl; replace s_4 := S.out.c 4 rfl; replace s_5 := S.out.c 5 rfl; replace s_6 := S.out.c 6 rfl; replace s_7 := S.out.c 7 rfl; replace s_8 := S.out.c 8 rfl; replace s_9 := S.out.c 9 rfl; replace s_l := S.out.lt; have RD := Lib.hid r6; clear b6 PR r6)
        | (go_at_call 18; (with_reducible refine (G2.out _ _ _ _ hcRD hmRD RD.out).mono ?_); rintro e w7 ⟨rfl, b7⟩; replace Q := Lib.hid ((Q.out.below b7 Q.out.lt).alloc (.cells #[.int .i64 a0, .int .i64 h0, .int .i64 r0, .int .u64 n0, .int .i64 l0, .int .i64 g0, .int .i64 k0, .int .i64 t0, .int .i64 c0, .int .i64 s0] 30)); replace S := Lib.hid ((S.out.below b7 S.out.lt).alloc (.cells #[.int .i64 a0, .int .i64 h0, .int .i64 r0, .int .u64 n0, .int .i64 l0, .int .i64 g0, .int .i64 k0, .int .i64 t0, .int .i64 c0, .int .i64 s0] 30)); have T := Lib.hid (Cells.new w7 30 #[.int .i64 a0, .int .i64 h0, .int .i64 r0, .int .u64 n0, .int .i64 l0, .int .i64 g0, .int .i64 k0, .int .i64 t0, .int .i64 c0, .int .i64 s0]); replace BB := Lib.hid (below_more BB.out b7); have Gt := Lib.hid BB.out.size; replace BB := Lib.hid (BB.out.alloc BB.out.size (.cells #[.int .i64 a0, .int .i64 h0, .int .i64 r0, .int .u64 n0, .int .i64 l0, .int .i64 g0, .int .i64 k0, .int .i64 t0, .int .i64 c0, .int .i64 s0] 30)); replace RB := Lib.hid ((RB.out.step b7).step (below_alloc w7 (.cells #[.int .i64 a0, .int .i64 h0, .int .i64 r0, .int .u64 n0, .int .i64 l0, .int .i64 g0, .int .i64 k0, .int .i64 t0, .int .i64 c0, .int .i64 s0] 30))); replace RC := Lib.hid ((RC.out.step b7).step (below_alloc w7 (.cells #[.int .i64 a0, .int .i64 h0, .int .i64 r0, .int .u64 n0, .int .i64 l0, .int .i64 g0, .int .i64 k0, .int .i64 t0, .int .i64 c0, .int .i64 s0] 30))); replace RD := Lib.hid ((RD.out.step b7).step (below_alloc w7 (.cells #[.int .i64 a0, .int .i64 h0, .int .i64 r0, .int .u64 n0, .int .i64 l0, .int .i64 g0, .int .i64 k0, .int .i64 t0, .int .i64 c0, .int .i64 s0] 30))); replace q_0 := Q.out.c 0 rfl; replace q_1 := Q.out.c 1 rfl; replace q_2 := Q.out.c 2 rfl; replace q_3 := Q.out.c 3 rfl; replace q_4 := Q.out.c 4 rfl; replace q_5 := Q.out.c 5 rfl; replace q_6 := Q.out.c 6 rfl; replace q_7 := Q.out.c 7 rfl; replace q_8 := Q.out.c 8 rfl; replace q_9 := Q.out.c 9 rfl; replace q_l := Q.out.lt; replace s_0 := S.out.c 0 rfl; replace s_1 := S.out.c 1 rfl; replace s_2 := S.out.c 2 rfl; replace s_3 := S.out.c 3 rfl; replace s_4 := S.out.c 4 rfl; replace s_5 := S.out.c 5 rfl; replace s_6 := S.out.c 6 rfl; replace s_7 := S.out.c 7 rfl; replace s_8 := S.out.c 8 rfl; replace s_9 := S.out.c 9 rfl; replace s_l := S.out.lt; replace t_0 := T.out.c 0 rfl; replace t_1 := T.out.c 1 rfl; replace t_2 := T.out.c 2 rfl; replace t_3 := T.out.c 3 rfl; replace t_4 := T.out.c 4 rfl; replace t_5 := T.out.c 5 rfl; replace t_6 := T.out.c 6 rfl; replace t_7 := T.out.c 7 rfl; replace t_8 := T.out.c 8 rfl; replace t_9 := T.out.c 9 rfl; replace t_l := T.out.lt; clear b7 G2))
      go_ret
      exact ⟨by simp, BB.out⟩
    · have CQ := Lib.hid (rrep_any q false (by simp [oq]))
      clear G oq hq hz gt0
      obtain ⟨a0, h0, r0, n0, l0, g0, k0, t0, c0, s0⟩ := q
      unfold rpV at CQ EQ GQ PS ⊢
      dsimp only at CQ EQ GQ PS ⊢
      obtain ⟨W, hW⟩ : ∃ W, (w.alloc (.cells #[.int .i64 a0, .int .i64 h0, .int .i64 r0, .int .u64 n0, .int .i64 l0, .int .i64 g0, .int .i64 k0, .int .i64 t0, .int .i64 c0, .int .i64 s0] 30)) = W := ⟨_, rfl⟩
      have Q : Hid (Cells W (w.heap.size) 30 #[.int .i64 a0, .int .i64 h0, .int .i64 r0, .int .u64 n0, .int .i64 l0, .int .i64 g0, .int .i64 k0, .int .i64 t0, .int .i64 c0, .int .i64 s0]) := by
        rw [← hW]
        have k := Cells.new w 30 #[.int .i64 a0, .int .i64 h0, .int .i64 r0, .int .u64 n0, .int .i64 l0, .int .i64 g0, .int .i64 k0, .int .i64 t0, .int .i64 c0, .int .i64 s0]
        exact k
      have BB : Hid (Below w.heap.size w W) := by rw [← hW]; exact below_alloc w _
      have q_0 := Q.out.c 0 rfl
      have q_1 := Q.out.c 1 rfl
      have q_2 := Q.out.c 2 rfl
      have q_3 := Q.out.c 3 rfl
      have q_4 := Q.out.c 4 rfl
      have q_5 := Q.out.c 5 rfl
      have q_6 := Q.out.c 6 rfl
      have q_7 := Q.out.c 7 rfl
      have q_8 := Q.out.c 8 rfl
      have q_9 := Q.out.c 9 rfl
      have q_l := Q.out.lt
      have RB : Hid (Row8 W.heap.size W A len z) := by rw [← hW]; exact (hr.step (below_alloc _ _))
      clear hr
      go_enter Try.func5, Try.ntmps5
      go_wp2_with (first
        | (go_at_call 10; (with_reducible refine (HD.out _).mono ?_); rintro e w1 ⟨rfl, b1⟩; replace Q := Lib.hid (Q.out.below b1 Q.out.lt); replace BB := Lib.hid (below_more BB.out b1); replace RB := Lib.hid (RB.out.step b1); replace q_0 := Q.out.c 0 rfl; replace q_1 := Q.out.c 1 rfl; replace q_2 := Q.out.c 2 rfl; replace q_3 := Q.out.c 3 rfl; replace q_4 := Q.out.c 4 rfl; replace q_5 := Q.out.c 5 rfl; replace q_6 := Q.out.c 6 rfl; replace q_7 := Q.out.c 7 rfl; replace q_8 := Q.out.c 8 rfl; replace q_9 := Q.out.c 9 rfl; replace q_l := Q.out.lt; clear b1 HD)
        | (go_at_call 18; (with_reducible refine (GQ.out _ _ _ _ hl hc RB.out).mono ?_); rintro e w2 ⟨rfl, b2⟩; replace Q := Lib.hid ((Q.out.below b2 Q.out.lt).alloc (.cells #[.int .i64 a1, .int .i64 h1, .int .i64 r1, .int .u64 n1, .int .i64 l1, .int .i64 g1, .int .i64 k1, .int .i64 t1, .int .i64 c1, .int .i64 s1] 30)); have S := Lib.hid (Cells.new w2 30 #[.int .i64 a1, .int .i64 h1, .int .i64 r1, .int .u64 n1, .int .i64 l1, .int .i64 g1, .int .i64 k1, .int .i64 t1, .int .i64 c1, .int .i64 s1]); replace BB := Lib.hid (below_more BB.out b2); have Gs := Lib.hid BB.out.size; replace BB := Lib.hid (BB.out.alloc BB.out.size (.cells #[.int .i64 a1, .int .i64 h1, .int .i64 r1, .int .u64 n1, .int .i64 l1, .int .i64 g1, .int .i64 k1, .int .i64 t1, .int .i64 c1, .int .i64 s1] 30)); replace RB := Lib.hid ((RB.out.step b2).step (below_alloc w2 (.cells #[.int .i64 a1, .int .i64 h1, .int .i64 r1, .int .u64 n1, .int .i64 l1, .int .i64 g1, .int .i64 k1, .int .i64 t1, .int .i64 c1, .int .i64 s1] 30))); replace q_0 := Q.out.c 0 rfl; replace q_1 := Q.out.c 1 rfl; replace q_2 := Q.out.c 2 rfl; replace q_3 := Q.out.c 3 rfl; replace q_4 := Q.out.c 4 rfl; replace q_5 := Q.out.c 5 rfl; replace q_6 := Q.out.c 6 rfl; replace q_7 := Q.out.c 7 rfl; replace q_8 := Q.out.c 8 rfl; replace q_9 := Q.out.c 9 rfl; replace q_l := Q.out.lt; replace s_0 := S.out.c 0 rfl; replace s_1 := S.out.c 1 rfl; replace s_2 := S.out.c 2 rfl; replace s_3 := S.out.c 3 rfl; replace s_4 := S.out.c 4 rfl; replace s_5 := S.out.c 5 rfl; replace s_6 := S.out.c 6 rfl; replace s_7 := S.out.c 7 rfl; replace s_8 := S.out.c 8 rfl; replace s_9 := S.out.c 9 rfl; replace s_l := S.out.lt; clear b2 GQ)
        | (go_at_call 16; (with_reducible refine (PS.out _).mono ?_); rintro e w3 ⟨ARC, nRC, cRC, rfl, hcRC, hmRC, r3, b3⟩; replace Q := Lib.hid (Q.out.below b3 Q.out.lt); replace S := Lib.hid (S.out.below b3 S.out.lt); replace BB := Lib.hid (below_more BB.out b3); replace RB := Lib.hid (RB.out.step b3); replace q_0 := Q.out.c 0 rfl; replace q_1 := Q.out.c 1 rfl; replace q_2 := Q.out.c 2 rfl; replace q_3 := Q.out.c 3 rfl; replace q_4 := Q.out.c 4 rfl; replace q_5 := Q.out.c 5 rfl; replace q_6 := Q.out.c 6 rfl; replace q_7 := Q.out.c 7 rfl; replace q_8 := Q.out.c 8 rfl; replace q_9 := Q.out.c 9 rfl; replace q_l := Q.out.lt; replace s_0 := S.out.c 0 rfl; replace s_1 := S.out.c 1 rfl; replace s_2 := S.out.c 2 rfl; replace s_3 := S.out.c 3 rfl; replace s_4 := S.out.c 4 rfl; replace s_5 := S.out.c 5 rfl; replace s_6 := S.out.c 6 rfl; replace s_7 := S.out.c 7 rfl; replace s_8 := S.out.c 8 rfl; replace s_9 := S.out.c 9 rfl; replace s_l := S.out.lt; have RC := Lib.hid r3; clear b3 PS r3)
        | (go_at_call 13; (with_reducible refine (SM.out _ _ _ _ _ _ _ RB.out RC.out).mono ?_); rintro e w4 ⟨rfl, b4⟩; replace Q := Lib.hid (Q.out.below b4 Q.out.lt); replace S := Lib.hid (S.out.below b4 S.out.lt); replace BB := Lib.hid (below_more BB.out b4); replace RB := Lib.hid (RB.out.step b4); replace RC := Lib.hid (RC.out.step b4); replace q_0 := Q.out.c 0 rfl; replace q_1 := Q.out.c 1 rfl; replace q_2 := Q.out.c 2 rfl; replace q_3 := Q.out.c 3 rfl; replace q_4 := Q.out.c 4 rfl; replace q_5 := Q.out.c 5 rfl; replace q_6 := Q.out.c 6 rfl; replace q_7 := Q.out.c 7 rfl; replace q_8 := Q.out.c 8 rfl; replace q_9 := Q.out.c 9 rfl; replace q_l := Q.out.lt; replace s_0 := S.out.c 0 rfl; replace s_1 := S.out.c 1 rfl; replace s_2 := S.out.c 2 rfl; replace s_3 := S.out.c 3 rfl; replace s_4 := S.out.c 4 rfl; replace s_5 := S.out.c 5 rfl; replace s_6 := S.out.c 6 rfl; replace s_7 := S.out.c 7 rfl; replace s_8 := S.out.c 8 rfl; replace s_9 := S.out.c 9 rfl; replace s_l := S.out.lt; clear b4 SM)
        | (go_at_call 21; (with_reducible refine (CQ.out _).mono ?_); rintro e w5 ⟨rfl, b5⟩; replace Q := Lib.hid (Q.out.below b5 Q.out.lt); replace S := Lib.hid (S.out.below b5 S.out.lt); replace BB := Lib.hid (below_more BB.out b5); replace RB := Lib.hid (RB.out.step b5); replace RC := Lib.hid (RC.out.step b5); replace q_0 := Q.out.c 0 rfl; replace q_1 := Q.out.c 1 rfl; replace q_2 := Q.out.c 2 rfl; replace q_3 := Q.out.c 3 rfl; replace q_4 := Q.out.c 4 rfl; replace q_5 := Q.out.c 5 rfl; replace q_6 := Q.out.c 6 rfl; replace q_7 := Q.out.c 7 rfl; replace q_8 := Q.out.c 8 rfl; replace q_9 := Q.out.c 9 rfl; replace q_l := Q.out.lt; replace s_0 := S.out.c 0 rfl; replace s_1 := S.out.c 1 rfl; replace s_2 := S.out.c 2 rfl; replace s_3 := S.out.c 3 rfl; replace s_4 := S.out.c 4 rfl; replace s_5 := S.out.c 5 rfl; replace s_6 := S.out.c 6 rfl; replace s_7 := S.out.c 7 rfl; replace s_8 := S.out.c 8 rfl; replace s_9 := S.out.c 9 rfl; replace s_l := S.out.lt; clear b5 CQ))
      go_ret
      exact ⟨by simp, BB.out⟩
end Go.Proofs.Ytmfbnajaocaikaa
