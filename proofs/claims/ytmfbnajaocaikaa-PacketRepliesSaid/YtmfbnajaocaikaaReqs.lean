/- Layer 11: PacketRequests (gen/gen_laws.py writes this). -/
import Derived.Test.YtmfbnajaocaikaaSizes
import Derived.Test.YtmfbnajaocaikaaEq
namespace Go.Proofs.Ytmfbnajaocaikaa
open Go.RowKit Go.Sort Go
set_option linter.unusedVariables false
set_option linter.unusedSimpArgs false

set_option maxRecDepth 100000 in
set_option maxHeartbeats 16000000 in
theorem requests_walk (G : Pkt) (q : Rq) (hq : q.In) (A : Option Addr) (len cap : Nat) (z : List UInt8) (w : World) (hr : Row8 w.heap.size w A len z) (hl : len ≤ cap) (hc : cap ≤ 9223372036854775807) :
    Calls Try.prog 4 #[rqV q, .slice A len cap] w (Gives (.bool true) w) := by
  have HD := Lib.hid (head_true G)
  have hz := hr.len
  by_cases gt0 : 300 < len
  · have d1 : decide ((300 : Int) < (len : Int)) = true := by simp; omega
    clear G hz hl hc
    obtain ⟨h0, a0, r0, n0⟩ := q
    unfold rqV
    dsimp only
    obtain ⟨W, hW⟩ : ∃ W, (w.alloc (.cells #[.int .i64 h0, .int .i64 a0, .int .i64 r0, .int .u64 n0] 24)) = W := ⟨_, rfl⟩
    have Q : Hid (Four W (w.heap.size) 24 (.int .i64 h0) (.int .i64 a0) (.int .i64 r0) (.int .u64 n0)) := by
      rw [← hW]
      have k := Four.new w 24 (.int .i64 h0) (.int .i64 a0) (.int .i64 r0) (.int .u64 n0)
      exact k
    have BB : Hid (Below w.heap.size w W) := by rw [← hW]; exact below_alloc w _
    have q_0 := Q.out.c0
    have q_1 := Q.out.c1
    have q_2 := Q.out.c2
    have q_3 := Q.out.c3
    have q_l := Q.out.lt
    have RB : Hid (Row8 W.heap.size W A len z) := by rw [← hW]; exact (hr.step (below_alloc _ _))
    clear hr
    go_enter Try.func4, Try.ntmps4
    go_wp2_with (go_at_call 10; (with_reducible refine (HD.out _).mono ?_); rintro e w1 ⟨rfl, b1⟩; replace Q := Lib.hid (Q.out.below b1 Q.out.lt); replace BB := Lib.hid (below_more BB.out b1); replace RB := Lib.hid (RB.out.step b1); replace q_0 := Q.out.c0; replace q_1 := Q.out.c1; replace q_2 := Q.out.c2; replace q_3 := Q.out.c3; replace q_l := Q.out.lt; clear b1 HD)
    go_ret
    exact ⟨by simp, BB.out⟩
  have d1 : decide ((300 : Int) < (len : Int)) = false := by simp; omega
  have EQ := fun W => eql_rqV q q W
  simp only [decide_true] at EQ
  cases eq : getQ z with
  | none =>
    have GQ := Lib.hid (G.getq_no eq (by omega))
    clear eq
    by_cases oq : q.Ok
    · have CQ := Lib.hid (rreq_any q true (by simp [oq]))
      have PR := Lib.hid (G.putq_yes oq hq)
      have G2 := Lib.hid (G.getq_yes (getQ_put oq hq) (by have := pk_len (k := 1) (ints_in hq) (by simp [Rq.ints]); omega))
      clear G oq hq hz gt0
      obtain ⟨h0, a0, r0, n0⟩ := q
      unfold rqV at CQ EQ GQ PR G2 ⊢
      unfold Rq.nil at GQ
      dsimp only at CQ EQ GQ PR G2 ⊢
      obtain ⟨W, hW⟩ : ∃ W, (w.alloc (.cells #[.int .i64 h0, .int .i64 a0, .int .i64 r0, .int .u64 n0] 24)) = W := ⟨_, rfl⟩
      have Q : Hid (Four W (w.heap.size) 24 (.int .i64 h0) (.int .i64 a0) (.int .i64 r0) (.int .u64 n0)) := by
        rw [← hW]
        have k := Four.new w 24 (.int .i64 h0) (.int .i64 a0) (.int .i64 r0) (.int .u64 n0)
        exact k
      have BB : Hid (Below w.heap.size w W) := by rw [← hW]; exact below_alloc w _
      have q_0 := Q.out.c0
      have q_1 := Q.out.c1
      have q_2 := Q.out.c2
      have q_3 := Q.out.c3
      have q_l := Q.out.lt
      have RB : Hid (Row8 W.heap.size W A len z) := by rw [← hW]; exact (hr.step (below_alloc _ _))
      clear hr
      go_enter Try.func4, Try.ntmps4
      go_wp2_with (first
        | (go_at_call 10; (with_reducible refine (HD.out _).mono ?_); rintro e w1 ⟨rfl, b1⟩; replace Q := Lib.hid (Q.out.below b1 Q.out.lt); replace BB := Lib.hid (below_more BB.out b1); replace RB := Lib.hid (RB.out.step b1); replace q_0 := Q.out.c0; replace q_1 := Q.out.c1; replace q_2 := Q.out.c2; replace q_3 := Q.out.c3; replace q_l := Q.out.lt; clear b1 HD)
        | (go_at_call 14; (with_reducible refine (GQ.out _ _ _ _ hl hc RB.out).mono ?_); rintro e w2 ⟨rfl, b2⟩; replace Q := Lib.hid ((Q.out.below b2 Q.out.lt).alloc (.cells #[.int .i64 0, .int .i64 0, .int .i64 0, .int .u64 0] 24)); have S := Lib.hid (Four.new w2 24 (.int .i64 0) (.int .i64 0) (.int .i64 0) (.int .u64 0)); replace BB := Lib.hid (below_more BB.out b2); have Gs := Lib.hid BB.out.size; replace BB := Lib.hid (BB.out.alloc BB.out.size (.cells #[.int .i64 0, .int .i64 0, .int .i64 0, .int .u64 0] 24)); replace RB := Lib.hid ((RB.out.step b2).step (below_alloc w2 (.cells #[.int .i64 0, .int .i64 0, .int .i64 0, .int .u64 0] 24))); replace q_0 := Q.out.c0; replace q_1 := Q.out.c1; replace q_2 := Q.out.c2; replace q_3 := Q.out.c3; replace q_l := Q.out.lt; replace s_0 := S.out.c0; replace s_1 := S.out.c1; replace s_2 := S.out.c2; replace s_3 := S.out.c3; replace s_l := S.out.lt; clear b2 GQ)
        | (go_at_call 20; (with_reducible refine (CQ.out _).mono ?_); rintro e w3 ⟨rfl, b3⟩; replace Q := Lib.hid (Q.out.below b3 Q.out.lt); replace S := Lib.hid (S.out.below b3 S.out.lt); replace BB := Lib.hid (below_more BB.out b3); replace RB := Lib.hid (RB.out.step b3); replace q_0 := Q.out.c0; replace q_1 := Q.out.c1; replace q_2 := Q.out.c2; replace q_3 := Q.out.c3; replace q_l := Q.out.lt; replace s_0 := S.out.c0; replace s_1 := S.out.c1; replace s_2 := S.out.c2; replace s_3 := S.out.c3; replace s_l := S.out.lt; clear b3 CQ)
        | (go_at_call 11; (with_reducible refine (PR.out _).mono ?_); rintro e w4 ⟨ARD, nRD, cRD, rfl, hcRD, hmRD, r4, b4⟩; replace Q := Lib.hid (Q.out.below b4 Q.out.lt); replace S := Lib.hid (S.out.below b4 S.out.lt); replace BB := Lib.hid (below_more BB.out b4); replace RB := Lib.hid (RB.out.step b4); replace q_0 := Q.out.c0; replace q_1 := Q.out.c1; replace q_2 := Q.out.c2; replace q_3 := Q.out.c3; replace q_l := Q.out.lt; replace s_0 := S.out.c0; replace s_1 := S.out.c1; replace s_2 := S.out.c2; replace s_3 := S.out.c3; replace s_l := S.out.lt; have RD := Lib.hid r4; clear b4 PR r4)
        | (go_at_call 14; (with_reducible refine (G2.out _ _ _ _ hcRD hmRD RD.out).mono ?_); rintro e w5 ⟨rfl, b5⟩; replace Q := Lib.hid ((Q.out.below b5 Q.out.lt).alloc (.cells #[.int .i64 h0, .int .i64 a0, .int .i64 r0, .int .u64 n0] 24)); replace S := Lib.hid ((S.out.below b5 S.out.lt).alloc (.cells #[.int .i64 h0, .int .i64 a0, .int .i64 r0, .int .u64 n0] 24)); have T := Lib.hid (Four.new w5 24 (.int .i64 h0) (.int .i64 a0) (.int .i64 r0) (.int .u64 n0)); replace BB := Lib.hid (below_more BB.out b5); have Gt := Lib.hid BB.out.size; replace BB := Lib.hid (BB.out.alloc BB.out.size (.cells #[.int .i64 h0, .int .i64 a0, .int .i64 r0, .int .u64 n0] 24)); replace RB := Lib.hid ((RB.out.step b5).step (below_alloc w5 (.cells #[.int .i64 h0, .int .i64 a0, .int .i64 r0, .int .u64 n0] 24))); replace RD := Lib.hid ((RD.out.step b5).step (below_alloc w5 (.cells #[.int .i64 h0, .int .i64 a0, .int .i64 r0, .int .u64 n0] 24))); replace q_0 := Q.out.c0; replace q_1 := Q.out.c1; replace q_2 := Q.out.c2; replace q_3 := Q.out.c3; replace q_l := Q.out.lt; replace s_0 := S.out.c0; replace s_1 := S.out.c1; replace s_2 := S.out.c2; replace s_3 := S.out.c3; replace s_l := S.out.lt; replace t_0 := T.out.c0; replace t_1 := T.out.c1; replace t_2 := T.out.c2; replace t_3 := T.out.c3; replace t_l := T.out.lt; clear b5 G2))
      go_ret
      exact ⟨by simp, BB.out⟩
    · have CQ := Lib.hid (rreq_any q false (by simp [oq]))
      clear G oq hq hz gt0
      obtain ⟨h0, a0, r0, n0⟩ := q
      unfold rqV at CQ EQ GQ ⊢
      unfold Rq.nil at GQ
      dsimp only at CQ EQ GQ ⊢
      obtain ⟨W, hW⟩ : ∃ W, (w.alloc (.cells #[.int .i64 h0, .int .i64 a0, .int .i64 r0, .int .u64 n0] 24)) = W := ⟨_, rfl⟩
      have Q : Hid (Four W (w.heap.size) 24 (.int .i64 h0) (.int .i64 a0) (.int .i64 r0) (.int .u64 n0)) := by
        rw [← hW]
        have k := Four.new w 24 (.int .i64 h0) (.int .i64 a0) (.int .i64 r0) (.int .u64 n0)
        exact k
      have BB : Hid (Below w.heap.size w W) := by rw [← hW]; exact below_alloc w _
      have q_0 := Q.out.c0
      have q_1 := Q.out.c1
      have q_2 := Q.out.c2
      have q_3 := Q.out.c3
      have q_l := Q.out.lt
      have RB : Hid (Row8 W.heap.size W A len z) := by rw [← hW]; exact (hr.step (below_alloc _ _))
      clear hr
      go_enter Try.func4, Try.ntmps4
      go_wp2_with (first
        | (go_at_call 10; (with_reducible refine (HD.out _).mono ?_); rintro e w1 ⟨rfl, b1⟩; replace Q := Lib.hid (Q.out.below b1 Q.out.lt); replace BB := Lib.hid (below_more BB.out b1); replace RB := Lib.hid (RB.out.step b1); replace q_0 := Q.out.c0; replace q_1 := Q.out.c1; replace q_2 := Q.out.c2; replace q_3 := Q.out.c3; replace q_l := Q.out.lt; clear b1 HD)
        | (go_at_call 14; (with_reducible refine (GQ.out _ _ _ _ hl hc RB.out).mono ?_); rintro e w2 ⟨rfl, b2⟩; replace Q := Lib.hid ((Q.out.below b2 Q.out.lt).alloc (.cells #[.int .i64 0, .int .i64 0, .int .i64 0, .int .u64 0] 24)); have S := Lib.hid (Four.new w2 24 (.int .i64 0) (.int .i64 0) (.int .i64 0) (.int .u64 0)); replace BB := Lib.hid (below_more BB.out b2); have Gs := Lib.hid BB.out.size; replace BB := Lib.hid (BB.out.alloc BB.out.size (.cells #[.int .i64 0, .int .i64 0, .int .i64 0, .int .u64 0] 24)); replace RB := Lib.hid ((RB.out.step b2).step (below_alloc w2 (.cells #[.int .i64 0, .int .i64 0, .int .i64 0, .int .u64 0] 24))); replace q_0 := Q.out.c0; replace q_1 := Q.out.c1; replace q_2 := Q.out.c2; replace q_3 := Q.out.c3; replace q_l := Q.out.lt; replace s_0 := S.out.c0; replace s_1 := S.out.c1; replace s_2 := S.out.c2; replace s_3 := S.out.c3; replace s_l := S.out.lt; clear b2 GQ)
        | (go_at_call 20; (with_reducible refine (CQ.out _).mono ?_); rintro e w3 ⟨rfl, b3⟩; replace Q := Lib.hid (Q.out.below b3 Q.out.lt); replace S := Lib.hid (S.out.below b3 S.out.lt); replace BB := Lib.hid (below_more BB.out b3); replace RB := Lib.hid (RB.out.step b3); replace q_0 := Q.out.c0; replace q_1 := Q.out.c1; replace q_2 := Q.out.c2; replace q_3 := Q.out.c3; replace q_l := Q.out.lt; replace s_0 := S.out.c0; replace s_1 := S.out.c1; replace s_2 := S.out.c2; replace s_3 := S.out.c3; replace s_l := S.out.lt; clear b3 CQ))
      go_ret
      exact ⟨by simp, BB.out⟩
  | some s =>
    have GQ := Lib.hid (G.getq_yes eq (by omega))
    obtain ⟨hb, so, si⟩ := getQ_some eq
    have PS := Lib.hid (G.putq_yes so si)
    rw [← hb] at PS
    have SM := Lib.hid (fun A A' n n' c c' w hr hr' => same_c (xs := z) (ys := z) (b := true) (by simp) A A' n n' c c' w hr hr' (by omega) (by omega))
    clear eq hb so si
    obtain ⟨h1, a1, r1, n1⟩ := s
    by_cases oq : q.Ok
    · have CQ := Lib.hid (rreq_any q true (by simp [oq]))
      have PR := Lib.hid (G.putq_yes oq hq)
      have G2 := Lib.hid (G.getq_yes (getQ_put oq hq) (by have := pk_len (k := 1) (ints_in hq) (by simp [Rq.ints]); omega))
      clear G oq hq hz gt0
      obtain ⟨h0, a0, r0, n0⟩ := q
      unfold rqV at CQ EQ GQ PS PR G2 ⊢
      dsimp only at CQ EQ GQ PS PR G2 ⊢
      obtain ⟨W, hW⟩ : ∃ W, (w.alloc (.cells #[.int .i64 h0, .int .i64 a0, .int .i64 r0, .int .u64 n0] 24)) = W := ⟨_, rfl⟩
      have Q : Hid (Four W (w.heap.size) 24 (.int .i64 h0) (.int .i64 a0) (.int .i64 r0) (.int .u64 n0)) := by
        rw [← hW]
        have k := Four.new w 24 (.int .i64 h0) (.int .i64 a0) (.int .i64 r0) (.int .u64 n0)
        exact k
      have BB : Hid (Below w.heap.size w W) := by rw [← hW]; exact below_alloc w _
      have q_0 := Q.out.c0
      have q_1 := Q.out.c1
      have q_2 := Q.out.c2
      have q_3 := Q.out.c3
      have q_l := Q.out.lt
      have RB : Hid (Row8 W.heap.size W A len z) := by rw [← hW]; exact (hr.step (below_alloc _ _))
      clear hr
      go_enter Try.func4, Try.ntmps4
      go_wp2_with (first
        | (go_at_call 10; (with_reducible refine (HD.out _).mono ?_); rintro e w1 ⟨rfl, b1⟩; replace Q := Lib.hid (Q.out.below b1 Q.out.lt); replace BB := Lib.hid (below_more BB.out b1); replace RB := Lib.hid (RB.out.step b1); replace q_0 := Q.out.c0; replace q_1 := Q.out.c1; replace q_2 := Q.out.c2; replace q_3 := Q.out.c3; replace q_l := Q.out.lt; clear b1 HD)
        | (go_at_call 14; (with_reducible refine (GQ.out _ _ _ _ hl hc RB.out).mono ?_); rintro e w2 ⟨rfl, b2⟩; replace Q := Lib.hid ((Q.out.below b2 Q.out.lt).alloc (.cells #[.int .i64 h1, .int .i64 a1, .int .i64 r1, .int .u64 n1] 24)); have S := Lib.hid (Four.new w2 24 (.int .i64 h1) (.int .i64 a1) (.int .i64 r1) (.int .u64 n1)); replace BB := Lib.hid (below_more BB.out b2); have Gs := Lib.hid BB.out.size; replace BB := Lib.hid (BB.out.alloc BB.out.size (.cells #[.int .i64 h1, .int .i64 a1, .int .i64 r1, .int .u64 n1] 24)); replace RB := Lib.hid ((RB.out.step b2).step (below_alloc w2 (.cells #[.int .i64 h1, .int .i64 a1, .int .i64 r1, .int .u64 n1] 24))); replace q_0 := Q.out.c0; replace q_1 := Q.out.c1; replace q_2 := Q.out.c2; replace q_3 := Q.out.c3; replace q_l := Q.out.lt; replace s_0 := S.out.c0; replace s_1 := S.out.c1; replace s_2 := S.out.c2; replace s_3 := S.out.c3; replace s_l := S.out.lt; clear b2 GQ)
        | (go_at_call 11; (with_reducible refine (PS.out _).mono ?_); rintro e w3 ⟨ARC, nRC, cRC, rfl, hcRC, hmRC, r3, b3⟩; replace Q := Lib.hid (Q.out.below b3 Q.out.lt); replace S := Lib.hid (S.out.below b3 S.out.lt); replace BB := Lib.hid (below_more BB.out b3); replace RB := Lib.hid (RB.out.step b3); replace q_0 := Q.out.c0; replace q_1 := Q.out.c1; replace q_2 := Q.out.c2; replace q_3 := Q.out.c3; replace q_l := Q.out.lt; replace s_0 := S.out.c0; replace s_1 := S.out.c1; replace s_2 := S.out.c2; replace s_3 := S.out.c3; replace s_l := S.out.lt; have RC := Lib.hid r3; clear b3 PS r3)
        | (go_at_call 13; (with_reducible refine (SM.out _ _ _ _ _ _ _ RB.out RC.out).mono ?_); rintro e w4 ⟨rfl, b4⟩; replace Q := Lib.hid (Q.out.below b4 Q.out.lt); replace S := Lib.hid (S.out.below b4 S.out.lt); replace BB := Lib.hid (below_more BB.out b4); replace RB := Lib.hid (RB.out.step b4); replace RC := Lib.hid (RC.out.step b4); replace q_0 := Q.out.c0; replace q_1 := Q.out.c1; replace q_2 := Q.out.c2; replace q_3 := Q.out.c3; replace q_l := Q.out.lt; replace s_0 := S.out.c0; replace s_1 := S.out.c1; replace s_2 := S.out.c2; replace s_3 := S.out.c3; replace s_l := S.out.lt; clear b4 SM)
        | (go_at_call 20; (with_reducible refine (CQ.out _).mono ?_); rintro e w5 ⟨rfl, b5⟩; replace Q := Lib.hid (Q.out.below b5 Q.out.lt); replace S := Lib.hid (S.out.below b5 S.out.lt); replace BB := Lib.hid (below_more BB.out b5); replace RB := Lib.hid (RB.out.step b5); replace RC := Lib.hid (RC.out.step b5); replace q_0 := Q.out.c0; replace q_1 := Q.out.c1; replace q_2 := Q.out.c2; replace q_3 := Q.out.c3; replace q_l := Q.out.lt; replace s_0 := S.out.c0; replace s_1 := S.out.c1; replace s_2 := S.out.c2; replace s_3 := S.out.c3; replace s_l := S.out.lt; clear b5 CQ)
        | (go_at_call 11; (with_reducible refine (PR.out _).mono ?_); rintro e w6 ⟨ARD, nRD, cRD, rfl, hcRD, hmRD, r6, b6⟩; replace Q := Lib.hid (Q.out.below b6 Q.out.lt); replace S := Lib.hid (S.out.below b6 S.out.lt); replace BB := Lib.hid (below_more BB.out b6); replace RB := Lib.hid (RB.out.step b6); replace RC := Lib.hid (RC.out.step b6); replace q_0 := Q.out.c0; replace q_1 := Q.out.c1; replace q_2 := Q.out.c2; replace q_3 := Q.out.c3; replace q_l := Q.out.lt; replace s_0 := S.out.c0; replace s_1 := S.out.c1; replace s_2 := S.out.c2; replace s_3 := S.out.c3; replace s_l := S.out.lt; have RD := Lib.hid r6; clear b6 PR r6)
        | (go_at_call 14; (with_reducible refine (G2.out _ _ _ _ hcRD hmRD RD.out).mono ?_); rintro e w7 ⟨rfl, b7⟩; replace Q := Lib.hid ((Q.out.below b7 Q.out.lt).alloc (.cells #[.int .i64 h0, .int .i64 a0, .int .i64 r0, .int .u64 n0] 24)); replace S := Lib.hid ((S.out.below b7 S.out.lt).alloc (.cells #[.int .i64 h0, .int .i64 a0, .int .i64 r0, .int .u64 n0] 24)); have T := Lib.hid (Four.new w7 24 (.int .i64 h0) (.int .i64 a0) (.int .i64 r0) (.int .u64 n0)); replace BB := Lib.hid (below_more BB.out b7); have Gt := Lib.hid BB.out.size; replace BB := Lib.hid (BB.out.alloc BB.out.size (.cells #[.int .i64 h0, .int .i64 a0, .int .i64 r0, .int .u64 n0] 24)); replace RB := Lib.hid ((RB.out.step b7).step (below_alloc w7 (.cells #[.int .i64 h0, .int .i64 a0, .int .i64 r0, .int .u64 n0] 24))); replace RC := Lib.hid ((RC.out.step b7).step (below_alloc w7 (.cells #[.int .i64 h0, .int .i64 a0, .int .i64 r0, .int .u64 n0] 24))); replace RD := Lib.hid ((RD.out.step b7).step (below_alloc w7 (.cells #[.int .i64 h0, .int .i64 a0, .int .i64 r0, .int .u64 n0] 24))); replace q_0 := Q.out.c0; replace q_1 := Q.out.c1; replace q_2 := Q.out.c2; replace q_3 := Q.out.c3; replace q_l := Q.out.lt; replace s_0 := S.out.c0; replace s_1 := S.out.c1; replace s_2 := S.out.c2; replace s_3 := S.out.c3; replace s_l := S.out.lt; replace t_0 := T.out.c0; replace t_1 := T.out.c1; replace t_2 := T.out.c2; replace t_3 := T.out.c3; replace t_l := T.out.lt; clear b7 G2))
      go_ret
      exact ⟨by simp, BB.out⟩
    · have CQ := Lib.hid (rreq_any q false (by simp [oq]))
      clear G oq hq hz gt0
      obtain ⟨h0, a0, r0, n0⟩ := q
      unfold rqV at CQ EQ GQ PS ⊢
      dsimp only at CQ EQ GQ PS ⊢
      obtain ⟨W, hW⟩ : ∃ W, (w.alloc (.cells #[.int .i64 h0, .int .i64 a0, .int .i64 r0, .int .u64 n0] 24)) = W := ⟨_, rfl⟩
      have Q : Hid (Four W (w.heap.size) 24 (.int .i64 h0) (.int .i64 a0) (.int .i64 r0) (.int .u64 n0)) := by
        rw [← hW]
        have k := Four.new w 24 (.int .i64 h0) (.int .i64 a0) (.int .i64 r0) (.int .u64 n0)
        exact k
      have BB : Hid (Below w.heap.size w W) := by rw [← hW]; exact below_alloc w _
      have q_0 := Q.out.c0
      have q_1 := Q.out.c1
      have q_2 := Q.out.c2
      have q_3 := Q.out.c3
      have q_l := Q.out.lt
      have RB : Hid (Row8 W.heap.size W A len z) := by rw [← hW]; exact (hr.step (below_alloc _ _))
      clear hr
      go_enter Try.func4, Try.ntmps4
      go_wp2_with (first
        | (go_at_call 10; (with_reducible refine (HD.out _).mono ?_); rintro e w1 ⟨rfl, b1⟩; replace Q := Lib.hid (Q.out.below b1 Q.out.lt); replace BB := Lib.hid (below_more BB.out b1); replace RB := Lib.hid (RB.out.step b1); replace q_0 := Q.out.c0; replace q_1 := Q.out.c1; replace q_2 := Q.out.c2; replace q_3 := Q.out.c3; replace q_l := Q.out.lt; clear b1 HD)
        | (go_at_call 14; (with_reducible refine (GQ.out _ _ _ _ hl hc RB.out).mono ?_); rintro e w2 ⟨rfl, b2⟩; replace Q := Lib.hid ((Q.out.below b2 Q.out.lt).alloc (.cells #[.int .i64 h1, .int .i64 a1, .int .i64 r1, .int .u64 n1] 24)); have S := Lib.hid (Four.new w2 24 (.int .i64 h1) (.int .i64 a1) (.int .i64 r1) (.int .u64 n1)); replace BB := Lib.hid (below_more BB.out b2); have Gs := Lib.hid BB.out.size; replace BB := Lib.hid (BB.out.alloc BB.out.size (.cells #[.int .i64 h1, .int .i64 a1, .int .i64 r1, .int .u64 n1] 24)); replace RB := Lib.hid ((RB.out.step b2).step (below_alloc w2 (.cells #[.int .i64 h1, .int .i64 a1, .int .i64 r1, .int .u64 n1] 24))); replace q_0 := Q.out.c0; replace q_1 := Q.out.c1; replace q_2 := Q.out.c2; replace q_3 := Q.out.c3; replace q_l := Q.out.lt; replace s_0 := S.out.c0; replace s_1 := S.out.c1; replace s_2 := S.out.c2; replace s_3 := S.out.c3; replace s_l := S.out.lt; clear b2 GQ)
        | (go_at_call 11; (with_reducible refine (PS.out _).mono ?_); rintro e w3 ⟨ARC, nRC, cRC, rfl, hcRC, hmRC, r3, b3⟩; replace Q := Lib.hid (Q.out.below b3 Q.out.lt); replace S := Lib.hid (S.out.below b3 S.out.lt); replace BB := Lib.hid (below_more BB.out b3); replace RB := Lib.hid (RB.out.step b3); replace q_0 := Q.out.c0; replace q_1 := Q.out.c1; replace q_2 := Q.out.c2; replace q_3 := Q.out.c3; replace q_l := Q.out.lt; replace s_0 := S.out.c0; replace s_1 := S.out.c1; replace s_2 := S.out.c2; replace s_3 := S.out.c3; replace s_l := S.out.lt; have RC := Lib.hid r3; clear b3 PS r3)
        | (go_at_call 13; (with_reducible refine (SM.out _ _ _ _ _ _ _ RB.out RC.out).mono ?_); rintro e w4 ⟨rfl, b4⟩; replace Q := Lib.hid (Q.out.below b4 Q.out.lt); replace S := Lib.hid (S.out.below b4 S.out.lt); replace BB := Lib.hid (below_more BB.out b4); replace RB := Lib.hid (RB.out.step b4); replace RC := Lib.hid (RC.out.step b4); replace q_0 := Q.out.c0; replace q_1 := Q.out.c1; replace q_2 := Q.out.c2; replace q_3 := Q.out.c3; replace q_l := Q.out.lt; replace s_0 := S.out.c0; replace s_1 := S.out.c1; replace s_2 := S.out.c2; replace s_3 := S.out.c3; replace s_l := S.out.lt; clear b4 SM)
        | (go_at_call 20; (with_reducible refine (CQ.out _).mono ?_); rintro e w5 ⟨rfl, b5⟩; replace Q := Lib.hid (Q.out.below b5 Q.out.lt); replace S := Lib.hid (S.out.below b5 S.out.lt); replace BB := Lib.hid (below_more BB.out b5); replace RB := Lib.hid (RB.out.step b5); replace RC := Lib.hid (RC.out.step b5); replace q_0 := Q.out.c0; replace q_1 := Q.out.c1; replace q_2 := Q.out.c2; replace q_3 := Q.out.c3; replace q_l := Q.out.lt; replace s_0 := S.out.c0; replace s_1 := S.out.c1; replace s_2 := S.out.c2; replace s_3 := S.out.c3; replace s_l := S.out.lt; clear b5 CQ))
      go_ret
      exact ⟨by simp, BB.out⟩
end Go.Proofs.Ytmfbnajaocaikaa
