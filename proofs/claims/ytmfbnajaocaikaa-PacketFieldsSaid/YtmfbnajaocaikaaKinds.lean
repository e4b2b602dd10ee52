/- Layer 11: PacketKinds (gen/gen_laws.py writes this). -/
import Derived.Test.YtmfbnajaocaikaaHead
namespace Go.Proofs.Ytmfbnajaocaikaa
open Go.RowKit Go.Sort Go
set_option linter.unusedVariables false
set_option linter.unusedSimpArgs false

theorem Row8.len {B : Nat} {w : World} {A : Option Addr} {n : Nat} {bs : List UInt8} (h : Row8 B w A n bs) : bs.length = n := h.1
set_option maxRecDepth 100000 in
set_option maxHeartbeats 16000000 in
theorem kinds_walk (G : Pkt) (A : Option Addr) (len cap : Nat) (z : List UInt8) (w : World) (hr : Row8 w.heap.size w A len z) (hl : len ≤ cap) (hc : cap ≤ 9223372036854775807) :
    Calls Try.prog 6 #[.slice A len cap] w (Gives (.bool true) w) := by
  have HD := Lib.hid (head_true G)
  have RB := Lib.hid hr
  have hz := hr.len
  clear hr
  by_cases gt0 : 300 < len
  · have d1 : decide ((300 : Int) < (len : Int)) = true := by simp; omega
    clear G hz hl hc
    have BB : Hid (Below w.heap.size w w) := Below.refl _ w
    go_enter Try.func6, Try.ntmps6
    go_wp2_with (go_at_call 10; (with_reducible refine (HD.out _).mono ?_); rintro e w1 ⟨rfl, b1⟩; replace BB := Lib.hid (below_more BB.out b1); replace RB := Lib.hid (RB.out.step b1); clear b1 HD)
    go_ret
    exact ⟨by simp, BB.out⟩
  have d1 : decide ((300 : Int) < (len : Int)) = false := by simp; omega
  cases eq : getQ z with
  | none =>
    have GQ := Lib.hid (G.getq_no eq (by omega))
    unfold rqV Rq.nil at GQ
    dsimp only at GQ
    cases ep : getP z with
    | none =>
      have GP := Lib.hid (G.getp_no ep (by omega))
      unfold rpV Rp.nil at GP
      dsimp only at GP
      clear G eq ep hz gt0
      have BB : Hid (Below w.heap.size w w) := Below.refl _ w
      go_enter Try.func6, Try.ntmps6
      go_wp2_with (first
        | (go_at_call 10; (with_reducible refine (HD.out _).mono ?_); rintro e w1 ⟨rfl, b1⟩; replace BB := Lib.hid (below_more BB.out b1); replace RB := Lib.hid (RB.out.step b1); clear b1 HD)
        | (go_at_call 14; (with_reducible refine (GQ.out _ _ _ _ hl hc RB.out).mono ?_); rintro e w2 ⟨rfl, b2⟩; have S := Lib.hid (Four.new w2 24 (.int .i64 0) (.int .i64 0) (.int .i64 0) (.int .u64 0)); replace BB := Lib.hid (below_more BB.out b2); have Gs := Lib.hid BB.out.size; replace BB := Lib.hid (BB.out.alloc BB.out.size (.cells #[.int .i64 0, .int .i64 0, .int .i64 0, .int .u64 0] 24)); replace RB := Lib.hid ((RB.out.step b2).step (below_alloc w2 (.cells #[.int .i64 0, .int .i64 0, .int .i64 0, .int .u64 0] 24))); replace s_0 := S.out.c0; replace s_1 := S.out.c1; replace s_2 := S.out.c2; replace s_3 := S.out.c3; replace s_l := S.out.lt; clear b2 GQ)
        | (go_at_call 18; (with_reducible refine (GP.out _ _ _ _ hl hc RB.out).mono ?_); rintro e w3 ⟨rfl, b3⟩; replace S := Lib.hid ((S.out.below b3 S.out.lt).alloc (.cells #[.int .i64 0, .int .i64 0, .int .i64 0, .int .u64 0, .int .i64 0, .int .i64 0, .int .i64 0, .int .i64 0, .int .i64 0, .int .i64 0] 30)); have T := Lib.hid (Cells.new w3 30 #[.int .i64 0, .int .i64 0, .int .i64 0, .int .u64 0, .int .i64 0, .int .i64 0, .int .i64 0, .int .i64 0, .int .i64 0, .int .i64 0]); replace BB := Lib.hid (below_more BB.out b3); have Gt := Lib.hid BB.out.size; replace BB := Lib.hid (BB.out.alloc BB.out.size (.cells #[.int .i64 0, .int .i64 0, .int .i64 0, .int .u64 0, .int .i64 0, .int .i64 0, .int .i64 0, .int .i64 0, .int .i64 0, .int .i64 0] 30)); replace RB := Lib.hid ((RB.out.step b3).step (below_alloc w3 (.cells #[.int .i64 0, .int .i64 0, .int .i64 0, .int .u64 0, .int .i64 0, .int .i64 0, .int .i64 0, .int .i64 0, .int .i64 0, .int .i64 0] 30))); replace s_0 := S.out.c0; replace s_1 := S.out.c1; replace s_2 := S.out.c2; replace s_3 := S.out.c3; replace s_l := S.out.lt; replace t_0 := T.out.c 0 rfl; replace t_1 := T.out.c 1 rfl; replace t_2 := T.out.c 2 rfl; replace t_3 := T.out.c 3 rfl; replace t_4 := T.out.c 4 rfl; replace t_5 := T.out.c 5 rfl; replace t_6 := T.out.c 6 rfl; replace t_7 := T.out.c 7 rfl; replace t_8 := T.out.c 8 rfl; replace t_9 := T.out.c 9 rfl; replace t_l := T.out.lt; clear b3 GP))
      go_ret
      exact ⟨by simp, BB.out⟩
    | some p =>
      obtain ⟨a1, h1, r1, n1, l1, g1, k1, t1, c1, s1⟩ := p
      have GP := Lib.hid (G.getp_yes ep (by omega))
      unfold rpV at GP
      dsimp only at GP
      clear G eq ep hz gt0
      have BB : Hid (Below w.heap.size w w) := Below.refl _ w
      go_enter Try.func6, Try.ntmps6
      go_wp2_with (first
        | (go_at_call 10; (with_reducible refine (HD.out _).mono ?_); rintro e w1 ⟨rfl, b1⟩; replace BB := Lib.hid (below_more BB.out b1); replace RB := Lib.hid (RB.out.step b1); clear b1 HD)
        | (go_at_call 14; (with_reducible refine (GQ.out _ _ _ _ hl hc RB.out).mono ?_); rintro e w2 ⟨rfl, b2⟩; have S := Lib.hid (Four.new w2 24 (.int .i64 0) (.int .i64 0) (.int .i64 0) (.int .u64 0)); replace BB := Lib.hid (below_more BB.out b2); have Gs := Lib.hid BB.out.size; replace BB := Lib.hid (BB.out.alloc BB.out.size (.cells #[.int .i64 0, .int .i64 0, .int .i64 0, .int .u64 0] 24)); replace RB := Lib.hid ((RB.out.step b2).step (below_alloc w2 (.cells #[.int .i64 0, .int .i64 0, .int .i64 0, .int .u64 0] 24))); replace s_0 := S.out.c0; replace s_1 := S.out.c1; replace s_2 := S.out.c2; replace s_3 := S.out.c3; replace s_l := S.out.lt; clear b2 GQ)
        | (go_at_call 18; (with_reducible refine (GP.out _ _ _ _ hl hc RB.out).mono ?_); rintro e w3 ⟨rfl, b3⟩; replace S := Lib.hid ((S.out.below b3 S.out.lt).alloc (.cells #[.int .i64 a1, .int .i64 h1, .int .i64 r1, .int .u64 n1, .int .i64 l1, .int .i64 g1, .int .i64 k1, .int .i64 t1, .int .i64 c1, .int .i64 s1] 30)); have T := Lib.hid (Cells.new w3 30 #[.int .i64 a1, .int .i64 h1, .int .i64 r1, .int .u64 n1, .int .i64 l1, .int .i64 g1, .int .i64 k1, .int .i64 t1, .int .i64 c1, .int .i64 s1]); replace BB := Lib.hid (below_more BB.out b3); have Gt := Lib.hid BB.out.size; replace BB := Lib.hid (BB.out.alloc BB.out.size (.cells #[.int .i64 a1, .int .i64 h1, .int .i64 r1, .int .u64 n1, .int .i64 l1, .int .i64 g1, .int .i64 k1, .int .i64 t1, .int .i64 c1, .int .i64 s1] 30)); replace RB := Lib.hid ((RB.out.step b3).step (below_alloc w3 (.cells #[.int .i64 a1, .int .i64 h1, .int .i64 r1, .int .u64 n1, .int .i64 l1, .int .i64 g1, .int .i64 k1, .int .i64 t1, .int .i64 c1, .int .i64 s1] 30))); replace s_0 := S.out.c0; replace s_1 := S.out.c1; replace s_2 := S.out.c2; replace s_3 := S.out.c3; replace s_l := S.out.lt; replace t_0 := T.out.c 0 rfl; replace t_1 := T.out.c 1 rfl; replace t_2 := T.out.c 2 rfl; replace t_3 := T.out.c 3 rfl; replace t_4 := T.out.c 4 rfl; replace t_5 := T.out.c 5 rfl; replace t_6 := T.out.c 6 rfl; replace t_7 := T.out.c 7 rfl; replace t_8 := T.out.c 8 rfl; replace t_9 := T.out.c 9 rfl; replace t_l := T.out.lt; clear b3 GP))
      go_ret
      exact ⟨by simp, BB.out⟩
  | some q =>
    obtain ⟨h, a, r, n⟩ := q
    have GQ := Lib.hid (G.getq_yes eq (by omega))
    unfold rqV at GQ
    dsimp only at GQ
    have ep : getP z = none := by
      rcases get_kinds (bs := z) with k | k
      · rw [eq] at k; cases k
      · exact k
    have GP := Lib.hid (G.getp_no ep (by omega))
    unfold rpV Rp.nil at GP
    dsimp only at GP
    clear G eq ep hz gt0
    have BB : Hid (Below w.heap.size w w) := Below.refl _ w
    go_enter Try.func6, Try.ntmps6
    go_wp2_with (first
      | (go_at_call 10; (with_reducible refine (HD.out _).mono ?_); rintro e w1 ⟨rfl, b1⟩; replace BB := Lib.hid (below_more BB.out b1); replace RB := Lib.hid (RB.out.step b1); clear b1 HD)
      | (go_at_call 14; (with_reducible refine (GQ.out _ _ _ _ hl hc RB.out).mono ?_); rintro e w2 ⟨rfl, b2⟩; have S := Lib.hid (Four.new w2 24 (.int .i64 h) (.int .i64 a) (.int .i64 r) (.int .u64 n)); replace BB := Lib.hid (below_more BB.out b2); have Gs := Lib.hid BB.out.size; replace BB := Lib.hid (BB.out.alloc BB.out.size (.cells #[.int .i64 h, .int .i64 a, .int .i64 r, .int .u64 n] 24)); replace RB := Lib.hid ((RB.out.step b2).step (below_alloc w2 (.cells #[.int .i64 h, .int .i64 a, .int .i64 r, .int .u64 n] 24))); replace s_0 := S.out.c0; replace s_1 := S.out.c1; replace s_2 := S.out.c2; replace s_3 := S.out.c3; replace s_l := S.out.lt; clear b2 GQ)
      | (go_at_call 18; (with_reducible refine (GP.out _ _ _ _ hl hc RB.out).mono ?_); rintro e w3 ⟨rfl, b3⟩; replace S := Lib.hid ((S.out.below b3 S.out.lt).alloc (.cells #[.int .i64 0, .int .i64 0, .int .i64 0, .int .u64 0, .int .i64 0, .int .i64 0, .int .i64 0, .int .i64 0, .int .i64 0, .int .i64 0] 30)); have T := Lib.hid (Cells.new w3 30 #[.int .i64 0, .int .i64 0, .int .i64 0, .int .u64 0, .int .i64 0, .int .i64 0, .int .i64 0, .int .i64 0, .int .i64 0, .int .i64 0]); replace BB := Lib.hid (below_more BB.out b3); have Gt := Lib.hid BB.out.size; replace BB := Lib.hid (BB.out.alloc BB.out.size (.cells #[.int .i64 0, .int .i64 0, .int .i64 0, .int .u64 0, .int .i64 0, .int .i64 0, .int .i64 0, .int .i64 0, .int .i64 0, .int .i64 0] 30)); replace RB := Lib.hid ((RB.out.step b3).step (below_alloc w3 (.cells #[.int .i64 0, .int .i64 0, .int .i64 0, .int .u64 0, .int .i64 0, .int .i64 0, .int .i64 0, .int .i64 0, .int .i64 0, .int .i64 0] 30))); replace s_0 := S.out.c0; replace s_1 := S.out.c1; replace s_2 := S.out.c2; replace s_3 := S.out.c3; replace s_l := S.out.lt; replace t_0 := T.out.c 0 rfl; replace t_1 := T.out.c 1 rfl; replace t_2 := T.out.c 2 rfl; replace t_3 := T.out.c 3 rfl; replace t_4 := T.out.c 4 rfl; replace t_5 := T.out.c 5 rfl; replace t_6 := T.out.c 6 rfl; replace t_7 := T.out.c 7 rfl; replace t_8 := T.out.c 8 rfl; replace t_9 := T.out.c 9 rfl; replace t_l := T.out.lt; clear b3 GP))
    go_ret
    exact ⟨by simp, BB.out⟩
end Go.Proofs.Ytmfbnajaocaikaa
