/- Layer 11: PacketMatchesReference (gen/gen_laws.py writes this). -/
import Derived.Test.YtmfbnajaocaikaaFields
namespace Go.Proofs.Ytmfbnajaocaikaa
open Go.RowKit Go.Sort Go
set_option linter.unusedVariables false
set_option linter.unusedSimpArgs false

/-- A packet's bytes and its error. -/
def PkE (bs : List UInt8) (er : Int) (w : World) (e : Ending) (w' : World) : Prop :=
  ∃ (A : Option Addr) (n cap : Nat), e = .returned (.tuple #[.slice A n cap, .int .i64 er]) ∧ n ≤ cap ∧ cap ≤ 9223372036854775807 ∧ Row8 w'.heap.size w' A n bs ∧ Below w.heap.size w w'
theorem PutIs.e {ok : Prop} [Decidable ok] {bs : List UInt8} {w : World} {e : Ending} {w' : World} (h : PutIs ok bs w e w') : PkE (if ok then bs else []) (if ok then 0 else 1) w e w' := by
  obtain ⟨A, n, cap, h1, h2, h3, h4, h5, h6⟩ := h
  exact ⟨A, n, cap, h1, h2, h3, h5, h6⟩
set_option maxRecDepth 100000 in
set_option maxHeartbeats 16000000 in
theorem match_walk (G : Pkt) (q : Rq) (p : Rp) (iq : q.In) (ip : p.In) (A : Option Addr) (len cap : Nat) (z : List UInt8) (w : World) (hr : Row8 w.heap.size w A len z) (hl : len ≤ cap) (hc : cap ≤ 9223372036854775807) :
    Calls Try.prog 3 #[rqV q, rpV p, .slice A len cap] w (Gives (.bool true) w) := by
  have HD := Lib.hid (head_true G)
  have hz := hr.len
  by_cases gt0 : 300 < len
  · have d1 : decide ((300 : Int) < (len : Int)) = true := by simp; omega
    clear G hz hl hc
    obtain ⟨h0, a0, r0, n0⟩ := q
    obtain ⟨a1, h1, r1, n1, l1, g1, k1, t1, c1, s1⟩ := p
    unfold rqV rpV
    dsimp only
    obtain ⟨W, hW⟩ : ∃ W, ((w.alloc (.cells #[.int .i64 h0, .int .i64 a0, .int .i64 r0, .int .u64 n0] 24)).alloc (.cells #[.int .i64 a1, .int .i64 h1, .int .i64 r1, .int .u64 n1, .int .i64 l1, .int .i64 g1, .int .i64 k1, .int .i64 t1, .int .i64 c1, .int .i64 s1] 30)) = W := ⟨_, rfl⟩
    have R : Hid (Four W (w.heap.size) 24 (.int .i64 h0) (.int .i64 a0) (.int .i64 r0) (.int .u64 n0)) := by
      rw [← hW]
      have k := Four.new w 24 (.int .i64 h0) (.int .i64 a0) (.int .i64 r0) (.int .u64 n0)
      exact (k).alloc _
    have P : Hid (Cells W (w.heap.size + 1) 30 #[.int .i64 a1, .int .i64 h1, .int .i64 r1, .int .u64 n1, .int .i64 l1, .int .i64 g1, .int .i64 k1, .int .i64 t1, .int .i64 c1, .int .i64 s1]) := by
      rw [← hW]
      have k := Cells.new (w.alloc (.cells #[.int .i64 h0, .int .i64 a0, .int .i64 r0, .int .u64 n0] 24)) 30 #[.int .i64 a1, .int .i64 h1, .int .i64 r1, .int .u64 n1, .int .i64 l1, .int .i64 g1, .int .i64 k1, .int .i64 t1, .int .i64 c1, .int .i64 s1]
      rw [show (w.alloc (.cells #[.int .i64 h0, .int .i64 a0, .int .i64 r0, .int .u64 n0] 24)).heap.size = w.heap.size + 1 by simp] at k
      exact k
    have BB : Hid (Below w.heap.size w W) := by rw [← hW]; exact (below_alloc w _).alloc (by simp) _
    have r_0 := R.out.c0
    have r_1 := R.out.c1
    have r_2 := R.out.c2
    have r_3 := R.out.c3
    have r_l := R.out.lt
    have p_0 := P.out.c 0 rfl
    have p_1 := P.out.c 1 rfl
    have p_2 := P.out.c 2 rfl
    have p_3 := P.out.c 3 rfl
    have p_4 := P.out.c 4 rfl
    have p_5 := P.out.c 5 rfl
    have p_6 := P.out.c 6 rfl
    have p_7 := P.out.c 7 rfl
    have p_8 := P.out.c 8 rfl
    have p_9 := P.out.c 9 rfl
    have p_l := P.out.lt
    have RB : Hid (Row8 W.heap.size W A len z) := by rw [← hW]; exact ((hr.step (below_alloc _ _)).step (below_alloc _ _))
    clear hr
    go_enter Try.func3, Try.ntmps3
    go_wp2_with (go_at_call 10; (with_reducible refine (HD.out _).mono ?_); rintro e w1 ⟨rfl, b1⟩; replace R := Lib.hid (R.out.below b1 R.out.lt); replace P := Lib.hid (P.out.below b1 P.out.lt); replace BB := Lib.hid (below_more BB.out b1); replace RB := Lib.hid (RB.out.step b1); replace r_0 := R.out.c0; replace r_1 := R.out.c1; replace r_2 := R.out.c2; replace r_3 := R.out.c3; replace r_l := R.out.lt; replace p_0 := P.out.c 0 rfl; replace p_1 := P.out.c 1 rfl; replace p_2 := P.out.c 2 rfl; replace p_3 := P.out.c 3 rfl; replace p_4 := P.out.c 4 rfl; replace p_5 := P.out.c 5 rfl; replace p_6 := P.out.c 6 rfl; replace p_7 := P.out.c 7 rfl; replace p_8 := P.out.c 8 rfl; replace p_9 := P.out.c 9 rfl; replace p_l := P.out.lt; clear b1 HD)
    go_ret
    exact ⟨by simp, BB.out⟩
  have d1 : decide ((300 : Int) < (len : Int)) = false := by simp; omega
  have P1 := Lib.hid (fun w => (G.putq q iq w).mono fun e w' k => k.e)
  have P2 := Lib.hid (fun w => (rputq_any q iq w).mono fun e w' k => k.e)
  have P3 := Lib.hid (fun w => (G.putp p ip w).mono fun e w' k => k.e)
  have P4 := Lib.hid (fun w => (rputp_any p ip w).mono fun e w' k => k.e)
  have n1 : (if q.Ok then pkB 1 q.ints else []).length ≤ 100000 := by
    have := pk_len (k := 1) (ints_in iq) (by simp [Rq.ints]); split <;> simp <;> omega
  have n2 : (if p.Ok then pkB 2 p.ints else []).length ≤ 100000 := by
    have := pk_len (k := 2) (pints_in ip) (by simp [Rp.ints]); split <;> simp <;> omega
  generalize (if q.Ok then pkB 1 q.ints else []) = bq at P1 P2 n1
  generalize (if p.Ok then pkB 2 p.ints else []) = bp at P3 P4 n2
  generalize (if q.Ok then (0 : Int) else 1) = eq at P1 P2
  generalize (if p.Ok then (0 : Int) else 1) = ep at P3 P4
  have S1 := Lib.hid (fun A A' n n' c c' w hr hr' => same_c (xs := bq) (ys := bq) (b := true) (by simp) A A' n n' c c' w hr hr' n1 n1)
  have S2 := Lib.hid (fun A A' n n' c c' w hr hr' => same_c (xs := bp) (ys := bp) (b := true) (by simp) A A' n n' c c' w hr hr' n2 n2)
  have G1 := Lib.hid (G.getq A len cap z (by omega) hl hc)
  have G2 := Lib.hid (rgetq_any A len cap z (by omega) hl hc)
  have G3 := Lib.hid (G.getp A len cap z (by omega) hl hc)
  have G4 := Lib.hid (rgetp_any A len cap z (by omega) hl hc)
  generalize (getQ z).getD Rq.nil = sq at G1 G2
  generalize (getP z).getD Rp.nil = sp at G3 G4
  generalize (if (getQ z).isSome then (0 : Int) else 7) = fq at G1 G2
  generalize (if (getP z).isSome then (0 : Int) else 7) = fp at G3 G4
  have E1 := fun W => eql_rqV sq sq W
  have E2 := fun W => eql_rpV sp sp W
  simp only [decide_true] at E1 E2
  clear G iq ip n1 n2 hz gt0
  obtain ⟨h0, a0, r0, n0⟩ := q
  obtain ⟨a1, h1, r1, n1, l1, g1, k1, t1, c1, s1⟩ := p
  obtain ⟨h2, a2, r2, n2⟩ := sq
  obtain ⟨a3, h3, r3, n3, l3, g3, k3, t3, c3, s3⟩ := sp
  unfold rqV at P1 P2 G1 G2 E1 ⊢
  unfold rpV at P3 P4 G3 G4 E2 ⊢
  dsimp only at P1 P2 P3 P4 G1 G2 G3 G4 E1 E2 ⊢
  obtain ⟨W, hW⟩ : ∃ W, ((w.alloc (.cells #[.int .i64 h0, .int .i64 a0, .int .i64 r0, .int .u64 n0] 24)).alloc (.cells #[.int .i64 a1, .int .i64 h1, .int .i64 r1, .int .u64 n1, .int .i64 l1, .int .i64 g1, .int .i64 k1, .int .i64 t1, .int .i64 c1, .int .i64 s1] 30)) = W := ⟨_, rfl⟩
  have R : Hid (Four W (w.heap.size) 24 (.int .i64 h0) (.int .i64 a0) (.int .i64 r0) (.int .u64 n0)) := by
    rw [← hW]
    have k := Four.new w 24 (.int .i64 h0) (.int .i64 a0) (.int .i64 r0) (.int .u64 n0)
    exact (k).alloc _
  have P : Hid (Cells W (w.heap.size + 1) 30 #[.int .i64 a1, .int .i64 h1, .int .i64 r1, .int .u64 n1, .int .i64 l1, .int .i64 g1, .int .i64 k1, .int .i64 t1, .int .i64 c1, .int .i64 s1]) := by
    rw [← hW]
    have k := Cells.new (w.alloc (.cells #[.int .i64 h0, .int .i64 a0, .int .i64 r0, .int .u64 n0] 24)) 30 #[.int .i64 a1, .int .i64 h1, .int .i64 r1, .int .u64 n1, .int .i64 l1, .int .i64 g1, .int .i64 k1, .int .i64 t1, .int .i64 c1, .int .i64 s1]
    rw [show (w.alloc (.cells #[.int .i64 h0, .int .i64 a0, .int .i64 r0, .int .u64 n0] 24)).heap.size = w.heap.size + 1 by simp] at k
    exact k
  have BB : Hid (Below w.heap.size w W) := by rw [← hW]; exact (below_alloc w _).alloc (by simp) _
  have r_0 := R.out.c0
  have r_1 := R.out.c1
  have r_2 := R.out.c2
  have r_3 := R.out.c3
  have r_l := R.out.lt
  have p_0 := P.out.c 0 rfl
  have p_1 := P.out.c 1 rfl
  have p_2 := P.out.c 2 rfl
  have p_3 := P.out.c 3 rfl
  have p_4 := P.out.c 4 rfl
  have p_5 := P.out.c 5 rfl
  have p_6 := P.out.c 6 rfl
  have p_7 := P.out.c 7 rfl
  have p_8 := P.out.c 8 rfl
  have p_9 := P.out.c 9 rfl
  have p_l := P.out.lt
  have RB : Hid (Row8 W.heap.size W A len z) := by rw [← hW]; exact ((hr.step (below_alloc _ _)).step (below_alloc _ _))
  clear hr
  go_enter Try.func3, Try.ntmps3
  go_wp2_with (first
    | (go_at_call 10; (with_reducible refine (HD.out _).mono ?_); rintro e w1 ⟨rfl, b1⟩; replace R := Lib.hid (R.out.below b1 R.out.lt); replace P := Lib.hid (P.out.below b1 P.out.lt); replace BB := Lib.hid (below_more BB.out b1); replace RB := Lib.hid (RB.out.step b1); replace r_0 := R.out.c0; replace r_1 := R.out.c1; replace r_2 := R.out.c2; replace r_3 := R.out.c3; replace r_l := R.out.lt; replace p_0 := P.out.c 0 rfl; replace p_1 := P.out.c 1 rfl; replace p_2 := P.out.c 2 rfl; replace p_3 := P.out.c 3 rfl; replace p_4 := P.out.c 4 rfl; replace p_5 := P.out.c 5 rfl; replace p_6 := P.out.c 6 rfl; replace p_7 := P.out.c 7 rfl; replace p_8 := P.out.c 8 rfl; replace p_9 := P.out.c 9 rfl; replace p_l := P.out.lt; clear b1 HD)
    | (go_at_call 11; (with_reducible refine (P1.out _).mono ?_); rintro e w2 ⟨ARC, nRC, cRC, rfl, hcRC, hmRC, r2, b2⟩; replace R := Lib.hid (R.out.below b2 R.out.lt); replace P := Lib.hid (P.out.below b2 P.out.lt); replace BB := Lib.hid (below_more BB.out b2); replace RB := Lib.hid (RB.out.step b2); replace r_0 := R.out.c0; replace r_1 := R.out.c1; replace r_2 := R.out.c2; replace r_3 := R.out.c3; replace r_l := R.out.lt; replace p_0 := P.out.c 0 rfl; replace p_1 := P.out.c 1 rfl; replace p_2 := P.out.c 2 rfl; replace p_3 := P.out.c 3 rfl; replace p_4 := P.out.c 4 rfl; replace p_5 := P.out.c 5 rfl; replace p_6 := P.out.c 6 rfl; replace p_7 := P.out.c 7 rfl; replace p_8 := P.out.c 8 rfl; replace p_9 := P.out.c 9 rfl; replace p_l := P.out.lt; have RC := Lib.hid r2; clear b2 P1 r2)
    | (go_at_call 12; (with_reducible refine (P2.out _).mono ?_); rintro e w3 ⟨ARD, nRD, cRD, rfl, hcRD, hmRD, r3, b3⟩; replace R := Lib.hid (R.out.below b3 R.out.lt); replace P := Lib.hid (P.out.below b3 P.out.lt); replace BB := Lib.hid (below_more BB.out b3); replace RB := Lib.hid (RB.out.step b3); replace RC := Lib.hid (RC.out.step b3); replace r_0 := R.out.c0; replace r_1 := R.out.c1; replace r_2 := R.out.c2; replace r_3 := R.out.c3; replace r_l := R.out.lt; replace p_0 := P.out.c 0 rfl; replace p_1 := P.out.c 1 rfl; replace p_2 := P.out.c 2 rfl; replace p_3 := P.out.c 3 rfl; replace p_4 := P.out.c 4 rfl; replace p_5 := P.out.c 5 rfl; replace p_6 := P.out.c 6 rfl; replace p_7 := P.out.c 7 rfl; replace p_8 := P.out.c 8 rfl; replace p_9 := P.out.c 9 rfl; replace p_l := P.out.lt; have RD := Lib.hid r3; clear b3 P2 r3)
    | (go_at_call 13; (with_reducible refine (S1.out _ _ _ _ _ _ _ RC.out RD.out).mono ?_); rintro e w4 ⟨rfl, b4⟩; replace R := Lib.hid (R.out.below b4 R.out.lt); replace P := Lib.hid (P.out.below b4 P.out.lt); replace BB := Lib.hid (below_more BB.out b4); replace RB := Lib.hid (RB.out.step b4); replace RC := Lib.hid (RC.out.step b4); replace RD := Lib.hid (RD.out.step b4); replace r_0 := R.out.c0; replace r_1 := R.out.c1; replace r_2 := R.out.c2; replace r_3 := R.out.c3; replace r_l := R.out.lt; replace p_0 := P.out.c 0 rfl; replace p_1 := P.out.c 1 rfl; replace p_2 := P.out.c 2 rfl; replace p_3 := P.out.c 3 rfl; replace p_4 := P.out.c 4 rfl; replace p_5 := P.out.c 5 rfl; replace p_6 := P.out.c 6 rfl; replace p_7 := P.out.c 7 rfl; replace p_8 := P.out.c 8 rfl; replace p_9 := P.out.c 9 rfl; replace p_l := P.out.lt; clear b4 S1)
    | (go_at_call 14; (with_reducible refine (G1.out _ RB.out).mono ?_); rintro e w5 ⟨rfl, b5⟩; replace R := Lib.hid ((R.out.below b5 R.out.lt).alloc (.cells #[.int .i64 h2, .int .i64 a2, .int .i64 r2, .int .u64 n2] 24)); replace P := Lib.hid ((P.out.below b5 P.out.lt).alloc (.cells #[.int .i64 h2, .int .i64 a2, .int .i64 r2, .int .u64 n2] 24)); have S := Lib.hid (Four.new w5 24 (.int .i64 h2) (.int .i64 a2) (.int .i64 r2) (.int .u64 n2)); replace BB := Lib.hid (below_more BB.out b5); have Gs := Lib.hid BB.out.size; replace BB := Lib.hid (BB.out.alloc BB.out.size (.cells #[.int .i64 h2, .int .i64 a2, .int .i64 r2, .int .u64 n2] 24)); replace RB := Lib.hid ((RB.out.step b5).step (below_alloc w5 (.cells #[.int .i64 h2, .int .i64 a2, .int .i64 r2, .int .u64 n2] 24))); replace RC := Lib.hid ((RC.out.step b5).step (below_alloc w5 (.cells #[.int .i64 h2, .int .i64 a2, .int .i64 r2, .int .u64 n2] 24))); replace RD := Lib.hid ((RD.out.step b5).step (below_alloc w5 (.cells #[.int .i64 h2, .int .i64 a2, .int .i64 r2, .int .u64 n2] 24))); replace r_0 := R.out.c0; replace r_1 := R.out.c1; replace r_2 := R.out.c2; replace r_3 := R.out.c3; replace r_l := R.out.lt; replace p_0 := P.out.c 0 rfl; replace p_1 := P.out.c 1 rfl; replace p_2 := P.out.c 2 rfl; replace p_3 := P.out.c 3 rfl; replace p_4 := P.out.c 4 rfl; replace p_5 := P.out.c 5 rfl; replace p_6 := P.out.c 6 rfl; replace p_7 := P.out.c 7 rfl; replace p_8 := P.out.c 8 rfl; replace p_9 := P.out.c 9 rfl; replace p_l := P.out.lt; replace s_0 := S.out.c0; replace s_1 := S.out.c1; replace s_2 := S.out.c2; replace s_3 := S.out.c3; replace s_l := S.out.lt; clear b5 G1)
    | (go_at_call 15; (with_reducible refine (G2.out _ RB.out).mono ?_); rintro e w6 ⟨rfl, b6⟩; replace R := Lib.hid ((R.out.below b6 R.out.lt).alloc (.cells #[.int .i64 h2, .int .i64 a2, .int .i64 r2, .int .u64 n2] 24)); replace P := Lib.hid ((P.out.below b6 P.out.lt).alloc (.cells #[.int .i64 h2, .int .i64 a2, .int .i64 r2, .int .u64 n2] 24)); replace S := Lib.hid ((S.out.below b6 S.out.lt).alloc (.cells #[.int .i64 h2, .int .i64 a2, .int .i64 r2, .int .u64 n2] 24)); have T := Lib.hid (Four.new w6 24 (.int .i64 h2) (.int .i64 a2) (.int .i64 r2) (.int .u64 n2)); replace BB := Lib.hid (below_more BB.out b6); have Gt := Lib.hid BB.out.size; replace BB := Lib.hid (BB.out.alloc BB.out.size (.cells #[.int .i64 h2, .int .i64 a2, .int .i64 r2, .int .u64 n2] 24)); replace RB := Lib.hid ((RB.out.step b6).step (below_alloc w6 (.cells #[.int .i64 h2, .int .i64 a2, .int .i64 r2, .int .u64 n2] 24))); replace RC := Lib.hid ((RC.out.step b6).step (below_alloc w6 (.cells #[.int .i64 h2, .int .i64 a2, .int .i64 r2, .int .u64 n2] 24))); replace RD := Lib.hid ((RD.out.step b6).step (below_alloc w6 (.cells #[.int .i64 h2, .int .i64 a2, .int .i64 r2, .int .u64 n2] 24))); replace r_0 := R.out.c0; replace r_1 := R.out.c1; replace r_2 := R.out.c2; replace r_3 := R.out.c3; replace r_l := R.out.lt; replace p_0 := P.out.c 0 rfl; replace p_1 := P.out.c 1 rfl; replace p_2 := P.out.c 2 rfl; replace p_3 := P.out.c 3 rfl; replace p_4 := P.out.c 4 rfl; replace p_5 := P.out.c 5 rfl; replace p_6 := P.out.c 6 rfl; replace p_7 := P.out.c 7 rfl; replace p_8 := P.out.c 8 rfl; replace p_9 := P.out.c 9 rfl; replace p_l := P.out.lt; replace s_0 := S.out.c0; replace s_1 := S.out.c1; replace s_2 := S.out.c2; replace s_3 := S.out.c3; replace s_l := S.out.lt; replace t_0 := T.out.c0; replace t_1 := T.out.c1; replace t_2 := T.out.c2; replace t_3 := T.out.c3; replace t_l := T.out.lt; clear b6 G2)
    | (go_at_call 16; (with_reducible refine (P3.out _).mono ?_); rintro e w7 ⟨ARE, nRE, cRE, rfl, hcRE, hmRE, r7, b7⟩; replace R := Lib.hid (R.out.below b7 R.out.lt); replace P := Lib.hid (P.out.below b7 P.out.lt); replace S := Lib.hid (S.out.below b7 S.out.lt); replace T := Lib.hid (T.out.below b7 T.out.lt); replace BB := Lib.hid (below_more BB.out b7); replace RB := Lib.hid (RB.out.step b7); replace RC := Lib.hid (RC.out.step b7); replace RD := Lib.hid (RD.out.step b7); replace r_0 := R.out.c0; replace r_1 := R.out.c1; replace r_2 := R.out.c2; replace r_3 := R.out.c3; replace r_l := R.out.lt; replace p_0 := P.out.c 0 rfl; replace p_1 := P.out.c 1 rfl; replace p_2 := P.out.c 2 rfl; replace p_3 := P.out.c 3 rfl; replace p_4 := P.out.c 4 rfl; replace p_5 := P.out.c 5 rfl; replace p_6 := P.out.c 6 rfl; replace p_7 := P.out.c 7 rfl; replace p_8 := P.out.c 8 rfl; replace p_9 := P.out.c 9 rfl; replace p_l := P.out.lt; replace s_0 := S.out.c0; replace s_1 := S.out.c1; replace s_2 := S.out.c2; replace s_3 := S.out.c3; replace s_l := S.out.lt; replace t_0 := T.out.c0; replace t_1 := T.out.c1; replace t_2 := T.out.c2; replace t_3 := T.out.c3; replace t_l := T.out.lt; have RE := Lib.hid r7; clear b7 P3 r7)
    | (go_at_call 17; (with_reducible refine (P4.out _).mono ?_); rintro e w8 ⟨ARF, nRF, cRF, rfl, hcRF, hmRF, r8, b8⟩; replace R := Lib.hid (R.out.below b8 R.out.lt); replace P := Lib.hid (P.out.below b8 P.out.lt); replace S := Lib.hid (S.out.below b8 S.out.lt); replace T := Lib.hid (T.out.below b8 T.out.lt); replace BB := Lib.hid (below_more BB.out b8); replace RB := Lib.hid (RB.out.step b8); replace RC := Lib.hid (RC.out.step b8); replace RD := Lib.hid (RD.out.step b8); replace RE := Lib.hid (RE.out.step b8); replace r_0 := R.out.c0; replace r_1 := R.out.c1; replace r_2 := R.out.c2; replace r_3 := R.out.c3; replace r_l := R.out.lt; replace p_0 := P.out.c 0 rfl; replace p_1 := P.out.c 1 rfl; replace p_2 := P.out.c 2 rfl; replace p_3 := P.out.c 3 rfl; replace p_4 := P.out.c 4 rfl; replace p_5 := P.out.c 5 rfl; replace p_6 := P.out.c 6 rfl; replace p_7 := P.out.c 7 rfl; replace p_8 := P.out.c 8 rfl; replace p_9 := P.out.c 9 rfl; replace p_l := P.out.lt; replace s_0 := S.out.c0; replace s_1 := S.out.c1; replace s_2 := S.out.c2; replace s_3 := S.out.c3; replace s_l := S.out.lt; replace t_0 := T.out.c0; replace t_1 := T.out.c1; replace t_2 := T.out.c2; replace t_3 := T.out.c3; replace t_l := T.out.lt; have RF := Lib.hid r8; clear b8 P4 r8)
    | (go_at_call 13; (with_reducible refine (S2.out _ _ _ _ _ _ _ RE.out RF.out).mono ?_); rintro e w9 ⟨rfl, b9⟩; replace R := Lib.hid (R.out.below b9 R.out.lt); replace P := Lib.hid (P.out.below b9 P.out.lt); replace S := Lib.hid (S.out.below b9 S.out.lt); replace T := Lib.hid (T.out.below b9 T.out.lt); replace BB := Lib.hid (below_more BB.out b9); replace RB := Lib.hid (RB.out.step b9); replace RC := Lib.hid (RC.out.step b9); replace RD := Lib.hid (RD.out.step b9); replace RE := Lib.hid (RE.out.step b9); replace RF := Lib.hid (RF.out.step b9); replace r_0 := R.out.c0; replace r_1 := R.out.c1; replace r_2 := R.out.c2; replace r_3 := R.out.c3; replace r_l := R.out.lt; replace p_0 := P.out.c 0 rfl; replace p_1 := P.out.c 1 rfl; replace p_2 := P.out.c 2 rfl; replace p_3 := P.out.c 3 rfl; replace p_4 := P.out.c 4 rfl; replace p_5 := P.out.c 5 rfl; replace p_6 := P.out.c 6 rfl; replace p_7 := P.out.c 7 rfl; replace p_8 := P.out.c 8 rfl; replace p_9 := P.out.c 9 rfl; replace p_l := P.out.lt; replace s_0 := S.out.c0; replace s_1 := S.out.c1; replace s_2 := S.out.c2; replace s_3 := S.out.c3; replace s_l := S.out.lt; replace t_0 := T.out.c0; replace t_1 := T.out.c1; replace t_2 := T.out.c2; replace t_3 := T.out.c3; replace t_l := T.out.lt; clear b9 S2)
    | (go_at_call 18; (with_reducible refine (G3.out _ RB.out).mono ?_); rintro e w10 ⟨rfl, b10⟩; replace R := Lib.hid ((R.out.below b10 R.out.lt).alloc (.cells #[.int .i64 a3, .int .i64 h3, .int .i64 r3, .int .u64 n3, .int .i64 l3, .int .i64 g3, .int .i64 k3, .int .i64 t3, .int .i64 c3, .int .i64 s3] 30)); replace P := Lib.hid ((P.out.below b10 P.out.lt).alloc (.cells #[.int .i64 a3, .int .i64 h3, .int .i64 r3, .int .u64 n3, .int .i64 l3, .int .i64 g3, .int .i64 k3, .int .i64 t3, .int .i64 c3, .int .i64 s3] 30)); replace S := Lib.hid ((S.out.below b10 S.out.lt).alloc (.cells #[.int .i64 a3, .int .i64 h3, .int .i64 r3, .int .u64 n3, .int .i64 l3, .int .i64 g3, .int .i64 k3, .int .i64 t3, .int .i64 c3, .int .i64 s3] 30)); replace T := Lib.hid ((T.out.below b10 T.out.lt).alloc (.cells #[.int .i64 a3, .int .i64 h3, .int .i64 r3, .int .u64 n3, .int .i64 l3, .int .i64 g3, .int .i64 k3, .int .i64 t3, .int .i64 c3, .int .i64 s3] 30)); have X := Lib.hid (Cells.new w10 30 #[.int .i64 a3, .int .i64 h3, .int .i64 r3, .int .u64 n3, .int .i64 l3, .int .i64 g3, .int .i64 k3, .int .i64 t3, .int .i64 c3, .int .i64 s3]); replace BB := Lib.hid (below_more BB.out b10); have Gx := Lib.hid BB.out.size; replace BB := Lib.hid (BB.out.alloc BB.out.size (.cells #[.int .i64 a3, .int .i64 h3, .int .i64 r3, .int .u64 n3, .int .i64 l3, .int .i64 g3, .int .i64 k3, .int .i64 t3, .int .i64 c3, .int .i64 s3] 30)); replace RB := Lib.hid ((RB.out.step b10).step (below_alloc w10 (.cells #[.int .i64 a3, .int .i64 h3, .int .i64 r3, .int .u64 n3, .int .i64 l3, .int .i64 g3, .int .i64 k3, .int .i64 t3, .int .i64 c3, .int .i64 s3] 30))); replace RC := Lib.hid ((RC.out.step b10).step (below_alloc w10 (.cells #[.int .i64 a3, .int .i64 h3, .int .i64 r3, .int .u64 n3, .int .i64 l3, .int .i64 g3, .int .i64 k3, .int .i64 t3, .int .i64 c3, .int .i64 s3] 30))); replace RD := Lib.hid ((RD.out.step b10).step (below_alloc w10 (.cells #[.int .i64 a3, .int .i64 h3, .int .i64 r3, .int .u64 n3, .int .i64 l3, .int .i64 g3, .int .i64 k3, .int .i64 t3, .int .i64 c3, .int .i64 s3] 30))); replace RE := Lib.hid ((RE.out.step b10).step (below_alloc w10 (.cells #[.int .i64 a3, .int .i64 h3, .int .i64 r3, .int .u64 n3, .int .i64 l3, .int .i64 g3, .int .i64 k3, .int .i64 t3, .int .i64 c3, .int .i64 s3] 30))); replace RF := Lib.hid ((RF.out.step b10).step (below_alloc w10 (.cells #[.int .i64 a3, .int .i64 h3, .int .i64 r3, .int .u64 n3, .int .i64 l3, .int .i64 g3, .int .i64 k3, .int .i64 t3, .int .i64 c3, .int .i64 s3] 30))); replace r_0 := R.out.c0; replace r_1 := R.out.c1; replace r_2 := R.out.c2; replace r_3 := R.out.c3; replace r_l := R.out.lt; replace p_0 := P.out.c 0 rfl; replace p_1 := P.out.c 1 rfl; replace p_2 := P.out.c 2 rfl; replace p_3 := P.out.c 3 rfl; replace p_4 := P.out.c 4 rfl; replace p_5 := P.out.c 5 rfl; replace p_6 := P.out.c 6 rfl; replace p_7 := P.out.c 7 rfl; replace p_8 := P.out.c 8 rfl; replace p_9 := P.out.c 9 rfl; replace p_l := P.out.lt; replace s_0 := S.out.c0; replace s_1 := S.out.c1; replace s_2 := S.out.c2; replace s_3 := S.out.c3; replace s_l := S.out.lt; replace t_0 := T.out.c0; replace t_1 := T.out.c1; replace t_2 := T.out.c2; replace t_3 := T.out.c3; replace t_l := T.out.lt; replace x_0 := X.out.c 0 rfl; replace x_1 := X.out.c 1 rfl; replace x_2 := X.out.c 2 rfl; replace x_3 := X.out.c 3 rfl; replace x_4 := X.out.c 4 rfl; replace x_5 := X.out.c 5 rfl; replace x_6 := X.out.c 6 rfl; replace x_7 := X.out.c 7 rfl; replace x_8 := X.out.c 8 rfl; replace x_9 := X.out.c 9 rfl; replace x_l := X.out.lt; clear b10 G3)
    | (go_at_call 19; (with_reducible refine (G4.out _ RB.out).mono ?_); rintro e w11 ⟨rfl, b11⟩; replace R := Lib.hid ((R.out.below b11 R.out.lt).alloc (.cells #[.int .i64 a3, .int .i64 h3, .int .i64 r3, .int .u64 n3, .int .i64 l3, .int .i64 g3, .int .i64 k3, .int .i64 t3, .int .i64 c3, .int .i64 s3] 30)); replace P := Lib.hid ((P.out.below b11 P.out.lt).alloc (.cells #[.int .i64 a3, .int .i64 h3, .int .i64 r3, .int .u64 n3, .int .i64 l3, .int .i64 g3, .int .i64 k3, .int .i64 t3, .int .i64 c3, .int .i64 s3] 30)); replace S := Lib.hid ((S.out.below b11 S.out.lt).alloc (.cells #[.int .i64 a3, .int .i64 h3, .int .i64 r3, .int .u64 n3, .int .i64 l3, .int .i64 g3, .int .i64 k3, .int .i64 t3, .int .i64 c3, .int .i64 s3] 30)); replace T := Lib.hid ((T.out.below b11 T.out.lt).alloc (.cells #[.int .i64 a3, .int .i64 h3, .int .i64 r3, .int .u64 n3, .int .i64 l3, .int .i64 g3, .int .i64 k3, .int .i64 t3, .int .i64 c3, .int .i64 s3] 30)); replace X := Lib.hid ((X.out.below b11 X.out.lt).alloc (.cells #[.int .i64 a3, .int .i64 h3, .int .i64 r3, .int .u64 n3, .int .i64 l3, .int .i64 g3, .int .i64 k3, .int .i64 t3, .int .i64 c3, .int .i64 s3] 30)); have Y := Lib.hid (Cells.new w11 30 #[.int .i64 a3, .int .i64 h3, .int .i64 r3, .int .u64 n3, .int .i64 l3, .int .i64 g3, .int .i64 k3, .int .i64 t3, .int .i64 c3, .int .i64 s3]); replace BB := Lib.hid (below_more BB.out b11); have Gy := Lib.hid BB.out.size; replace BB := Lib.hid (BB.out.alloc BB.out.size (.cells #[.int .i64 a3, .int .i64 h3, .int .i64 r3, .int .u64 n3, .int .i64 l3, .int .i64 g3, .int .i64 k3, .int .i64 t3, .int .i64 c3, .int .i64 s3] 30)); replace RB := Lib.hid ((RB.out.step b11).step (below_alloc w11 (.cells #[.int .i64 a3, .int .i64 h3, .int .i64 r3, .int .u64 n3, .int .i64 l3, .int .i64 g3, .int .i64 k3, .int .i64 t3, .int .i64 c3, .int .i64 s3] 30))); replace RC := Lib.hid ((RC.out.step b11).step (below_alloc w11 (.cells #[.int .i64 a3, .int .i64 h3, .int .i64 r3, .int .u64 n3, .int .i64 l3, .int .i64 g3, .int .i64 k3, .int .i64 t3, .int .i64 c3, .int .i64 s3] 30))); replace RD := Lib.hid ((RD.out.step b11).step (below_alloc w11 (.cells #[.int .i64 a3, .int .i64 h3, .int .i64 r3, .int .u64 n3, .int .i64 l3, .int .i64 g3, .int .i64 k3, .int .i64 t3, .int .i64 c3, .int .i64 s3] 30))); replace RE := Lib.hid ((RE.out.step b11).step (below_alloc w11 (.cells #[.int .i64 a3, .int .i64 h3, .int .i64 r3, .int .u64 n3, .int .i64 l3, .int .i64 g3, .int .i64 k3, .int .i64 t3, .int .i64 c3, .int .i64 s3] 30))); replace RF := Lib.hid ((RF.out.step b11).step (below_alloc w11 (.cells #[.int .i64 a3, .int .i64 h3, .int .i64 r3, .int .u64 n3, .int .i64 l3, .int .i64 g3, .int .i64 k3, .int .i64 t3, .int .i64 c3, .int .i64 s3] 30))); replace r_0 := R.out.c0; replace r_1 := R.out.c1; replace r_2 := R.out.c2; replace r_3 := R.out.c3; replace r_l := R.out.lt; replace p_0 := P.out.c 0 rfl; replace p_1 := P.out.c 1 rfl; replace p_2 := P.out.c 2 rfl; replace p_3 := P.out.c 3 rfl; replace p_4 := P.out.c 4 rfl; replace p_5 := P.out.c 5 rfl; replace p_6 := P.out.c 6 rfl; replace p_7 := P.out.c 7 rfl; replace p_8 := P.out.c 8 rfl; replace p_9 := P.out.c 9 rfl; replace p_l := P.out.lt; replace s_0 := S.out.c0; replace s_1 := S.out.c1; replace s_2 := S.out.c2; replace s_3 := S.out.c3; replace s_l := S.out.lt; replace t_0 := T.out.c0; replace t_1 := T.out.c1; replace t_2 := T.out.c2; replace t_3 := T.out.c3; replace t_l := T.out.lt; replace x_0 := X.out.c 0 rfl; replace x_1 := X.out.c 1 rfl; replace x_2 := X.out.c 2 rfl; replace x_3 := X.out.c 3 rfl; replace x_4 := X.out.c 4 rfl; replace x_5 := X.out.c 5 rfl; replace x_6 := X.out.c 6 rfl; replace x_7 := X.out.c 7 rfl; replace x_8 := X.out.c 8 rfl; replace x_9 := X.out.c 9 rfl; replace x_l := X.out.lt; replace y_0 := Y.out.c 0 rfl; replace y_1 := Y.out.c 1 rfl; replace y_2 := Y.out.c 2 rfl; replace y_3 := Y.out.c 3 rfl; replace y_4 := Y.out.c 4 rfl; replace y_5 := Y.out.c 5 rfl; replace y_6 := Y.out.c 6 rfl; replace y_7 := Y.out.c 7 rfl; replace y_8 := Y.out.c 8 rfl; replace y_9 := Y.out.c 9 rfl; replace y_l := Y.out.lt; clear b11 G4))
  go_ret
  exact ⟨by simp, BB.out⟩
end Go.Proofs.Ytmfbnajaocaikaa
