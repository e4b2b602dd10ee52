/- Layer 11: PacketFields (gen/gen_laws.py writes this). -/
import Derived.Deep.RegionHeld3
import Derived.Test.YtmfbnajaocaikaaReps
namespace Go.Proofs.Ytmfbnajaocaikaa
open Go.RowKit Go.Sort Go
set_option linter.unusedVariables false
set_option linter.unusedSimpArgs false

theorem pkB_inj {k : UInt8} {l m : List Int} (hl : AllI l) (hm : AllI m) (h1 : l.length ≤ 1000) (h2 : m.length ≤ 1000) (h : pkB k l = pkB k m) : l = m := by
  unfold pkB at h
  injection h with _ h
  have a := getR_list hl h1
  rw [h, getR_list hm h2] at a
  exact (Option.some.inj a).symm
theorem q_same {x y : Rq} (hx : x.Ok) (ix : x.In) (hy : y.Ok) (iy : y.In) : decide (pkB 1 x.ints = pkB 1 y.ints) = decide (x = y) := by
  rw [Bool.eq_iff_iff, decide_eq_true_iff, decide_eq_true_iff]
  constructor
  · intro h
    have a := getQ_put hx ix
    rw [h, getQ_put hy iy] at a
    exact (Option.some.inj a).symm
  · rintro rfl; rfl
theorem p_same {x y : Rp} (hx : x.Ok) (ix : x.In) (hy : y.Ok) (iy : y.In) : decide (pkB 2 x.ints = pkB 2 y.ints) = decide (x = y) := by
  rw [Bool.eq_iff_iff, decide_eq_true_iff, decide_eq_true_iff]
  constructor
  · intro h
    have a := getP_put hx ix
    rw [h, getP_put hy iy] at a
    exact (Option.some.inj a).symm
  · rintro rfl; rfl
set_option maxRecDepth 100000 in
set_option maxHeartbeats 16000000 in
theorem fields_walk (G : Pkt) (r s : Rq) (p q : Rp) (ir : r.In) (is : s.In) (ip : p.In) (iq : q.In) (w : World) :
    Calls Try.prog 8 #[rqV r, rqV s, rpV p, rpV q] w (Gives (.bool true) w) := by
  have HD := Lib.hid (head_true G)
  by_cases or : r.Ok
  case neg =>
    have CR := Lib.hid (rreq_any r false (by simp [or]))
    by_cases op : p.Ok
    case neg =>
      have CP := Lib.hid (rrep_any p false (by simp [op]))
      clear G ir is ip iq or op
      obtain ⟨h0, a0, r0, n0⟩ := r
      obtain ⟨h1, a1, r1, n1⟩ := s
      obtain ⟨a2, h2, r2, n2, l2, g2, k2, t2, c2, s2⟩ := p
      obtain ⟨a3, h3, r3, n3, l3, g3, k3, t3, c3, s3⟩ := q
      unfold rqV at CR ⊢
      unfold rpV at CP ⊢
      dsimp only at CR CP ⊢
      obtain ⟨W, hW⟩ : ∃ W, ((((w.alloc (.cells #[.int .i64 h0, .int .i64 a0, .int .i64 r0, .int .u64 n0] 24)).alloc (.cells #[.int .i64 h1, .int .i64 a1, .int .i64 r1, .int .u64 n1] 24)).alloc (.cells #[.int .i64 a2, .int .i64 h2, .int .i64 r2, .int .u64 n2, .int .i64 l2, .int .i64 g2, .int .i64 k2, .int .i64 t2, .int .i64 c2, .int .i64 s2] 30)).alloc (.cells #[.int .i64 a3, .int .i64 h3, .int .i64 r3, .int .u64 n3, .int .i64 l3, .int .i64 g3, .int .i64 k3, .int .i64 t3, .int .i64 c3, .int .i64 s3] 30)) = W := ⟨_, rfl⟩
      have R : Hid (Four W (w.heap.size) 24 (.int .i64 h0) (.int .i64 a0) (.int .i64 r0) (.int .u64 n0)) := by
        rw [← hW]
        have k := Four.new w 24 (.int .i64 h0) (.int .i64 a0) (.int .i64 r0) (.int .u64 n0)
        exact (((k).alloc _).alloc _).alloc _
      have S : Hid (Four W (w.heap.size + 1) 24 (.int .i64 h1) (.int .i64 a1) (.int .i64 r1) (.int .u64 n1)) := by
        rw [← hW]
        have k := Four.new (w.alloc (.cells #[.int .i64 h0, .int .i64 a0, .int .i64 r0, .int .u64 n0] 24)) 24 (.int .i64 h1) (.int .i64 a1) (.int .i64 r1) (.int .u64 n1)
        rw [show (w.alloc (.cells #[.int .i64 h0, .int .i64 a0, .int .i64 r0, .int .u64 n0] 24)).heap.size = w.heap.size + 1 by simp] at k
        exact ((k).alloc _).alloc _
      have P : Hid (Cells W (w.heap.size + 1 + 1) 30 #[.int .i64 a2, .int .i64 h2, .int .i64 r2, .int .u64 n2, .int .i64 l2, .int .i64 g2, .int .i64 k2, .int .i64 t2, .int .i64 c2, .int .i64 s2]) := by
        rw [← hW]
        have k := Cells.new ((w.alloc (.cells #[.int .i64 h0, .int .i64 a0, .int .i64 r0, .int .u64 n0] 24)).alloc (.cells #[.int .i64 h1, .int .i64 a1, .int .i64 r1, .int .u64 n1] 24)) 30 #[.int .i64 a2, .int .i64 h2, .int .i64 r2, .int .u64 n2, .int .i64 l2, .int .i64 g2, .int .i64 k2, .int .i64 t2, .int .i64 c2, .int .i64 s2]
        rw [show ((w.alloc (.cells #[.int .i64 h0, .int .i64 a0, .int .i64 r0, .int .u64 n0] 24)).alloc (.cells #[.int .i64 h1, .int .i64 a1, .int .i64 r1, .int .u64 n1] 24)).heap.size = w.heap.size + 1 + 1 by simp] at k
        exact (k).alloc _
      have Q : Hid (Cells W (w.heap.size + 1 + 1 + 1) 30 #[.int .i64 a3, .int .i64 h3, .int .i64 r3, .int .u64 n3, .int .i64 l3, .int .i64 g3, .int .i64 k3, .int .i64 t3, .int .i64 c3, .int .i64 s3]) := by
        rw [← hW]
        have k := Cells.new (((w.alloc (.cells #[.int .i64 h0, .int .i64 a0, .int .i64 r0, .int .u64 n0] 24)).alloc (.cells #[.int .i64 h1, .int .i64 a1, .int .i64 r1, .int .u64 n1] 24)).alloc (.cells #[.int .i64 a2, .int .i64 h2, .int .i64 r2, .int .u64 n2, .int .i64 l2, .int .i64 g2, .int .i64 k2, .int .i64 t2, .int .i64 c2, .int .i64 s2] 30)) 30 #[.int .i64 a3, .int .i64 h3, .int .i64 r3, .int .u64 n3, .int .i64 l3, .int .i64 g3, .int .i64 k3, .int .i64 t3, .int .i64 c3, .int .i64 s3]
        rw [show (((w.alloc (.cells #[.int .i64 h0, .int .i64 a0, .int .i64 r0, .int .u64 n0] 24)).alloc (.cells #[.int .i64 h1, .int .i64 a1, .int .i64 r1, .int .u64 n1] 24)).alloc (.cells #[.int .i64 a2, .int .i64 h2, .int .i64 r2, .int .u64 n2, .int .i64 l2, .int .i64 g2, .int .i64 k2, .int .i64 t2, .int .i64 c2, .int .i64 s2] 30)).heap.size = w.heap.size + 1 + 1 + 1 by simp] at k
        exact k
      have BB : Hid (Below w.heap.size w W) := by rw [← hW]; exact (((below_alloc w _).alloc (by simp) _).alloc (by simp; omega) _).alloc (by simp; omega) _
      have r_0 := R.out.c0
      have r_1 := R.out.c1
      have r_2 := R.out.c2
      have r_3 := R.out.c3
      have r_l := R.out.lt
      have s_0 := S.out.c0
      have s_1 := S.out.c1
      have s_2 := S.out.c2
      have s_3 := S.out.c3
      have s_l := S.out.lt
      have p_0 := P.out.c 0 rfl
      have p_1 := P.out.c 1 rfl
      have p_2 := P.out.c 2 rfl
      have p_3 := P.out.c 3 rfl
      have p_4 := P.out.c 4 rfl
      have p_5 := P.out.c 5 rfl
      have p_6 := P.out.c 6 rfl
      have p_7 := P.out.c 7 rfl
      have p_8 := P.out.c 8 rfl
      have p_9 := P.out.c 9 rfl
      have p_l := P.out.lt
      have q_0 := Q.out.c 0 rfl
      have q_1 := Q.out.c 1 rfl
      have q_2 := Q.out.c 2 rfl
      have q_3 := Q.out.c 3 rfl
      have q_4 := Q.out.c 4 rfl
      have q_5 := Q.out.c 5 rfl
      have q_6 := Q.out.c 6 rfl
      have q_7 := Q.out.c 7 rfl
      have q_8 := Q.out.c 8 rfl
      have q_9 := Q.out.c 9 rfl
      have q_l := Q.out.lt
      go_enter Try.func8, Try.ntmps8
      go_wp2_with (first
        | (go_at_call 10; (with_reducible refine (HD.out _).mono ?_); rintro e w1 ⟨rfl, b1⟩; replace R := Lib.hid (R.out.below b1 R.out.lt); replace S := Lib.hid (S.out.below b1 S.out.lt); replace P := Lib.hid (P.out.below b1 P.out.lt); replace Q := Lib.hid (Q.out.below b1 Q.out.lt); replace BB := Lib.hid (below_more BB.out b1); replace r_0 := R.out.c0; replace r_1 := R.out.c1; replace r_2 := R.out.c2; replace r_3 := R.out.c3; replace r_l := R.out.lt; replace s_0 := S.out.c0; replace s_1 := S.out.c1; replace s_2 := S.out.c2; replace s_3 := S.out.c3; replace s_l := S.out.lt; replace p_0 := P.out.c 0 rfl; replace p_1 := P.out.c 1 rfl; replace p_2 := P.out.c 2 rfl; replace p_3 := P.out.c 3 rfl; replace p_4 := P.out.c 4 rfl; replace p_5 := P.out.c 5 rfl; replace p_6 := P.out.c 6 rfl; replace p_7 := P.out.c 7 rfl; replace p_8 := P.out.c 8 rfl; replace p_9 := P.out.c 9 rfl; replace p_l := P.out.lt; replace q_0 := Q.out.c 0 rfl; replace q_1 := Q.out.c 1 rfl; replace q_2 := Q.out.c 2 rfl; replace q_3 := Q.out.c 3 rfl; replace q_4 := Q.out.c 4 rfl; replace q_5 := Q.out.c 5 rfl; replace q_6 := Q.out.c 6 rfl; replace q_7 := Q.out.c 7 rfl; replace q_8 := Q.out.c 8 rfl; replace q_9 := Q.out.c 9 rfl; replace q_l := Q.out.lt; clear b1 HD)
        | (go_at_call 20; (with_reducible refine (CR.out _).mono ?_); rintro e w2 ⟨rfl, b2⟩; replace R := Lib.hid (R.out.below b2 R.out.lt); replace S := Lib.hid (S.out.below b2 S.out.lt); replace P := Lib.hid (P.out.below b2 P.out.lt); replace Q := Lib.hid (Q.out.below b2 Q.out.lt); replace BB := Lib.hid (below_more BB.out b2); replace r_0 := R.out.c0; replace r_1 := R.out.c1; replace r_2 := R.out.c2; replace r_3 := R.out.c3; replace r_l := R.out.lt; replace s_0 := S.out.c0; replace s_1 := S.out.c1; replace s_2 := S.out.c2; replace s_3 := S.out.c3; replace s_l := S.out.lt; replace p_0 := P.out.c 0 rfl; replace p_1 := P.out.c 1 rfl; replace p_2 := P.out.c 2 rfl; replace p_3 := P.out.c 3 rfl; replace p_4 := P.out.c 4 rfl; replace p_5 := P.out.c 5 rfl; replace p_6 := P.out.c 6 rfl; replace p_7 := P.out.c 7 rfl; replace p_8 := P.out.c 8 rfl; replace p_9 := P.out.c 9 rfl; replace p_l := P.out.lt; replace q_0 := Q.out.c 0 rfl; replace q_1 := Q.out.c 1 rfl; replace q_2 := Q.out.c 2 rfl; replace q_3 := Q.out.c 3 rfl; replace q_4 := Q.out.c 4 rfl; replace q_5 := Q.out.c 5 rfl; replace q_6 := Q.out.c 6 rfl; replace q_7 := Q.out.c 7 rfl; replace q_8 := Q.out.c 8 rfl; replace q_9 := Q.out.c 9 rfl; replace q_l := Q.out.lt; clear b2 CR)
        | (go_at_call 21; (with_reducible refine (CP.out _).mono ?_); rintro e w3 ⟨rfl, b3⟩; replace R := Lib.hid (R.out.below b3 R.out.lt); replace S := Lib.hid (S.out.below b3 S.out.lt); replace P := Lib.hid (P.out.below b3 P.out.lt); replace Q := Lib.hid (Q.out.below b3 Q.out.lt); replace BB := Lib.hid (below_more BB.out b3); replace r_0 := R.out.c0; replace r_1 := R.out.c1; replace r_2 := R.out.c2; replace r_3 := R.out.c3; replace r_l := R.out.lt; replace s_0 := S.out.c0; replace s_1 := S.out.c1; replace s_2 := S.out.c2; replace s_3 := S.out.c3; replace s_l := S.out.lt; replace p_0 := P.out.c 0 rfl; replace p_1 := P.out.c 1 rfl; replace p_2 := P.out.c 2 rfl; replace p_3 := P.out.c 3 rfl; replace p_4 := P.out.c 4 rfl; replace p_5 := P.out.c 5 rfl; replace p_6 := P.out.c 6 rfl; replace p_7 := P.out.c 7 rfl; replace p_8 := P.out.c 8 rfl; replace p_9 := P.out.c 9 rfl; replace p_l := P.out.lt; replace q_0 := Q.out.c 0 rfl; replace q_1 := Q.out.c 1 rfl; replace q_2 := Q.out.c 2 rfl; replace q_3 := Q.out.c 3 rfl; replace q_4 := Q.out.c 4 rfl; replace q_5 := Q.out.c 5 rfl; replace q_6 := Q.out.c 6 rfl; replace q_7 := Q.out.c 7 rfl; replace q_8 := Q.out.c 8 rfl; replace q_9 := Q.out.c 9 rfl; replace q_l := Q.out.lt; clear b3 CP))
      go_ret
      exact ⟨by simp, BB.out⟩
    by_cases oq : q.Ok
    case neg =>
      have CP := Lib.hid (rrep_any p true (by simp [op]))
      have CQ := Lib.hid (rrep_any q false (by simp [oq]))
      clear G ir is ip iq or op oq
      obtain ⟨h0, a0, r0, n0⟩ := r
      obtain ⟨h1, a1, r1, n1⟩ := s
      obtain ⟨a2, h2, r2, n2, l2, g2, k2, t2, c2, s2⟩ := p
      obtain ⟨a3, h3, r3, n3, l3, g3, k3, t3, c3, s3⟩ := q
      unfold rqV at CR ⊢
      unfold rpV at CP CQ ⊢
      dsimp only at CR CP CQ ⊢
      obtain ⟨W, hW⟩ : ∃ W, ((((w.alloc (.cells #[.int .i64 h0, .int .i64 a0, .int .i64 r0, .int .u64 n0] 24)).alloc (.cells #[.int .i64 h1, .int .i64 a1, .int .i64 r1, .int .u64 n1] 24)).alloc (.cells #[.int .i64 a2, .int .i64 h2, .int .i64 r2, .int .u64 n2, .int .i64 l2, .int .i64 g2, .int .i64 k2, .int .i64 t2, .int .i64 c2, .int .i64 s2] 30)).alloc (.cells #[.int .i64 a3, .int .i64 h3, .int .i64 r3, .int .u64 n3, .int .i64 l3, .int .i64 g3, .int .i64 k3, .int .i64 t3, .int .i64 c3, .int .i64 s3] 30)) = W := ⟨_, rfl⟩
      have R : Hid (Four W (w.heap.size) 24 (.int .i64 h0) (.int .i64 a0) (.int .i64 r0) (.int .u64 n0)) := by
        rw [← hW]
        have k := Four.new w 24 (.int .i64 h0) (.int .i64 a0) (.int .i64 r0) (.int .u64 n0)
        exact (((k).alloc _).alloc _).alloc _
      have S : Hid (Four W (w.heap.size + 1) 24 (.int .i64 h1) (.int .i64 a1) (.int .i64 r1) (.int .u64 n1)) := by
        rw [← hW]
        have k := Four.new (w.alloc (.cells #[.int .i64 h0, .int .i64 a0, .int .i64 r0, .int .u64 n0] 24)) 24 (.int .i64 h1) (.int .i64 a1) (.int .i64 r1) (.int .u64 n1)
        rw [show (w.alloc (.cells #[.int .i64 h0, .int .i64 a0, .int .i64 r0, .int .u64 n0] 24)).heap.size = w.heap.size + 1 by simp] at k
        exact ((k).alloc _).alloc _
      have P : Hid (Cells W (w.heap.size + 1 + 1) 30 #[.int .i64 a2, .int .i64 h2, .int .i64 r2, .int .u64 n2, .int .i64 l2, .int .i64 g2, .int .i64 k2, .int .i64 t2, .int .i64 c2, .int .i64 s2]) := by
        rw [← hW]
        have k := Cells.new ((w.alloc (.cells #[.int .i64 h0, .int .i64 a0, .int .i64 r0, .int .u64 n0] 24)).alloc (.cells #[.int .i64 h1, .int .i64 a1, .int .i64 r1, .int .u64 n1] 24)) 30 #[.int .i64 a2, .int .i64 h2, .int .i64 r2, .int .u64 n2, .int .i64 l2, .int .i64 g2, .int .i64 k2, .int .i64 t2, .int .i64 c2, .int .i64 s2]
        rw [show ((w.alloc (.cells #[.int .i64 h0, .int .i64 a0, .int .i64 r0, .int .u64 n0] 24)).alloc (.cells #[.int .i64 h1, .int .i64 a1, .int .i64 r1, .int .u64 n1] 24)).heap.size = w.heap.size + 1 + 1 by simp] at k
        exact (k).alloc _
      have Q : Hid (Cells W (w.heap.size + 1 + 1 + 1) 30 #[.int .i64 a3, .int .i64 h3, .int .i64 r3, .int .u64 n3, .int .i64 l3, .int .i64 g3, .int .i64 k3, .int .i64 t3, .int .i64 c3, .int .i64 s3]) := by
        rw [← hW]
        have k := Cells.new (((w.alloc (.cells #[.int .i64 h0, .int .i64 a0, .int .i64 r0, .int .u64 n0] 24)).alloc (.cells #[.int .i64 h1, .int .i64 a1, .int .i64 r1, .int .u64 n1] 24)).alloc (.cells #[.int .i64 a2, .int .i64 h2, .int .i64 r2, .int .u64 n2, .int .i64 l2, .int .i64 g2, .int .i64 k2, .int .i64 t2, .int .i64 c2, .int .i64 s2] 30)) 30 #[.int .i64 a3, .int .i64 h3, .int .i64 r3, .int .u64 n3, .int .i64 l3, .int .i64 g3, .int .i64 k3, .int .i64 t3, .int .i64 c3, .int .i64 s3]
        rw [show (((w.alloc (.cells #[.int .i64 h0, .int .i64 a0, .int .i64 r0, .int .u64 n0] 24)).alloc (.cells #[.int .i64 h1, .int .i64 a1, .int .i64 r1, .int .u64 n1] 24)).alloc (.cells #[.int .i64 a2, .int .i64 h2, .int .i64 r2, .int .u64 n2, .int .i64 l2, .int .i64 g2, .int .i64 k2, .int .i64 t2, .int .i64 c2, .int .i64 s2] 30)).heap.size = w.heap.size + 1 + 1 + 1 by simp] at k
        exact k
      have BB : Hid (Below w.heap.size w W) := by rw [← hW]; exact (((below_alloc w _).alloc (by simp) _).alloc (by simp; omega) _).alloc (by simp; omega) _
      have r_0 := R.out.c0
      have r_1 := R.out.c1
      have r_2 := R.out.c2
      have r_3 := R.out.c3
      have r_l := R.out.lt
      have s_0 := S.out.c0
      have s_1 := S.out.c1
      have s_2 := S.out.c2
      have s_3 := S.out.c3
      have s_l := S.out.lt
      have p_0 := P.out.c 0 rfl
      have p_1 := P.out.c 1 rfl
      have p_2 := P.out.c 2 rfl
      have p_3 := P.out.c 3 rfl
      have p_4 := P.out.c 4 rfl
      have p_5 := P.out.c 5 rfl
      have p_6 := P.out.c 6 rfl
      have p_7 := P.out.c 7 rfl
      have p_8 := P.out.c 8 rfl
      have p_9 := P.out.c 9 rfl
      have p_l := P.out.lt
      have q_0 := Q.out.c 0 rfl
      have q_1 := Q.out.c 1 rfl
      have q_2 := Q.out.c 2 rfl
      have q_3 := Q.out.c 3 rfl
      have q_4 := Q.out.c 4 rfl
      have q_5 := Q.out.c 5 rfl
      have q_6 := Q.out.c 6 rfl
      have q_7 := Q.out.c 7 rfl
      have q_8 := Q.out.c 8 rfl
      have q_9 := Q.out.c 9 rfl
      have q_l := Q.out.lt
      go_enter Try.func8, Try.ntmps8
      go_wp2_with (first
        | (go_at_call 10; (with_reducible refine (HD.out _).mono ?_); rintro e w1 ⟨rfl, b1⟩; replace R := Lib.hid (R.out.below b1 R.out.lt); replace S := Lib.hid (S.out.below b1 S.out.lt); replace P := Lib.hid (P.out.below b1 P.out.lt); replace Q := Lib.hid (Q.out.below b1 Q.out.lt); replace BB := Lib.hid (below_more BB.out b1); replace r_0 := R.out.c0; replace r_1 := R.out.c1; replace r_2 := R.out.c2; replace r_3 := R.out.c3; replace r_l := R.out.lt; replace s_0 := S.out.c0; replace s_1 := S.out.c1; replace s_2 := S.out.c2; replace s_3 := S.out.c3; replace s_l := S.out.lt; replace p_0 := P.out.c 0 rfl; replace p_1 := P.out.c 1 rfl; replace p_2 := P.out.c 2 rfl; replace p_3 := P.out.c 3 rfl; replace p_4 := P.out.c 4 rfl; replace p_5 := P.out.c 5 rfl; replace p_6 := P.out.c 6 rfl; replace p_7 := P.out.c 7 rfl; replace p_8 := P.out.c 8 rfl; replace p_9 := P.out.c 9 rfl; replace p_l := P.out.lt; replace q_0 := Q.out.c 0 rfl; replace q_1 := Q.out.c 1 rfl; replace q_2 := Q.out.c 2 rfl; replace q_3 := Q.out.c 3 rfl; replace q_4 := Q.out.c 4 rfl; replace q_5 := Q.out.c 5 rfl; replace q_6 := Q.out.c 6 rfl; replace q_7 := Q.out.c 7 rfl; replace q_8 := Q.out.c 8 rfl; replace q_9 := Q.out.c 9 rfl; replace q_l := Q.out.lt; clear b1 HD)
        | (go_at_call 20; (with_reducible refine (CR.out _).mono ?_); rintro e w2 ⟨rfl, b2⟩; replace R := Lib.hid (R.out.below b2 R.out.lt); replace S := Lib.hid (S.out.below b2 S.out.lt); replace P := Lib.hid (P.out.below b2 P.out.lt); replace Q := Lib.hid (Q.out.below b2 Q.out.lt); replace BB := Lib.hid (below_more BB.out b2); replace r_0 := R.out.c0; replace r_1 := R.out.c1; replace r_2 := R.out.c2; replace r_3 := R.out.c3; replace r_l := R.out.lt; replace s_0 := S.out.c0; replace s_1 := S.out.c1; replace s_2 := S.out.c2; replace s_3 := S.out.c3; replace s_l := S.out.lt; replace p_0 := P.out.c 0 rfl; replace p_1 := P.out.c 1 rfl; replace p_2 := P.out.c 2 rfl; replace p_3 := P.out.c 3 rfl; replace p_4 := P.out.c 4 rfl; replace p_5 := P.out.c 5 rfl; replace p_6 := P.out.c 6 rfl; replace p_7 := P.out.c 7 rfl; replace p_8 := P.out.c 8 rfl; replace p_9 := P.out.c 9 rfl; replace p_l := P.out.lt; replace q_0 := Q.out.c 0 rfl; replace q_1 := Q.out.c 1 rfl; replace q_2 := Q.out.c 2 rfl; replace q_3 := Q.out.c 3 rfl; replace q_4 := Q.out.c 4 rfl; replace q_5 := Q.out.c 5 rfl; replace q_6 := Q.out.c 6 rfl; replace q_7 := Q.out.c 7 rfl; replace q_8 := Q.out.c 8 rfl; replace q_9 := Q.out.c 9 rfl; replace q_l := Q.out.lt; clear b2 CR)
        | (go_at_call 21; (with_reducible refine (CP.out _).mono ?_); rintro e w3 ⟨rfl, b3⟩; replace R := Lib.hid (R.out.below b3 R.out.lt); replace S := Lib.hid (S.out.below b3 S.out.lt); replace P := Lib.hid (P.out.below b3 P.out.lt); replace Q := Lib.hid (Q.out.below b3 Q.out.lt); replace BB := Lib.hid (below_more BB.out b3); replace r_0 := R.out.c0; replace r_1 := R.out.c1; replace r_2 := R.out.c2; replace r_3 := R.out.c3; replace r_l := R.out.lt; replace s_0 := S.out.c0; replace s_1 := S.out.c1; replace s_2 := S.out.c2; replace s_3 := S.out.c3; replace s_l := S.out.lt; replace p_0 := P.out.c 0 rfl; replace p_1 := P.out.c 1 rfl; replace p_2 := P.out.c 2 rfl; replace p_3 := P.out.c 3 rfl; replace p_4 := P.out.c 4 rfl; replace p_5 := P.out.c 5 rfl; replace p_6 := P.out.c 6 rfl; replace p_7 := P.out.c 7 rfl; replace p_8 := P.out.c 8 rfl; replace p_9 := P.out.c 9 rfl; replace p_l := P.out.lt; replace q_0 := Q.out.c 0 rfl; replace q_1 := Q.out.c 1 rfl; replace q_2 := Q.out.c 2 rfl; replace q_3 := Q.out.c 3 rfl; replace q_4 := Q.out.c 4 rfl; replace q_5 := Q.out.c 5 rfl; replace q_6 := Q.out.c 6 rfl; replace q_7 := Q.out.c 7 rfl; replace q_8 := Q.out.c 8 rfl; replace q_9 := Q.out.c 9 rfl; replace q_l := Q.out.lt; clear b3 CP)
        | (go_at_call 21; (with_reducible refine (CQ.out _).mono ?_); rintro e w4 ⟨rfl, b4⟩; replace R := Lib.hid (R.out.below b4 R.out.lt); replace S := Lib.hid (S.out.below b4 S.out.lt); replace P := Lib.hid (P.out.below b4 P.out.lt); replace Q := Lib.hid (Q.out.below b4 Q.out.lt); replace BB := Lib.hid (below_more BB.out b4); replace r_0 := R.out.c0; replace r_1 := R.out.c1; replace r_2 := R.out.c2; replace r_3 := R.out.c3; replace r_l := R.out.lt; replace s_0 := S.out.c0; replace s_1 := S.out.c1; replace s_2 := S.out.c2; replace s_3 := S.out.c3; replace s_l := S.out.lt; replace p_0 := P.out.c 0 rfl; replace p_1 := P.out.c 1 rfl; replace p_2 := P.out.c 2 rfl; replace p_3 := P.out.c 3 rfl; replace p_4 := P.out.c 4 rfl; replace p_5 := P.out.c 5 rfl; replace p_6 := P.out.c 6 rfl; replace p_7 := P.out.c 7 rfl; replace p_8 := P.out.c 8 rfl; replace p_9 := P.out.c 9 rfl; replace p_l := P.out.lt; replace q_0 := Q.out.c 0 rfl; replace q_1 := Q.out.c 1 rfl; replace q_2 := Q.out.c 2 rfl; replace q_3 := Q.out.c 3 rfl; replace q_4 := Q.out.c 4 rfl; replace q_5 := Q.out.c 5 rfl; replace q_6 := Q.out.c 6 rfl; replace q_7 := Q.out.c 7 rfl; replace q_8 := Q.out.c 8 rfl; replace q_9 := Q.out.c 9 rfl; replace q_l := Q.out.lt; clear b4 CQ))
      go_ret
      exact ⟨by simp, BB.out⟩
    have CP := Lib.hid (rrep_any p true (by simp [op]))
    have CQ := Lib.hid (rrep_any q true (by simp [oq]))
    have PP := Lib.hid (G.putp_yes op ip)
    have PQ := Lib.hid (G.putp_yes oq iq)
    have EP := fun W => eql_rpV p q W
    obtain ⟨xp, hdp⟩ : ∃ x, decide (p = q) = x := ⟨_, rfl⟩
    have SN := Lib.hid (fun A A' n n' c c' w hr hr' => same_c (xs := pkB 2 p.ints) (ys := pkB 2 q.ints) (b := xp) ((p_same op ip oq iq).trans hdp) A A' n n' c c' w hr hr' (by have := pk_len (k := 2) (pints_in ip) (by simp [Rp.ints]); omega) (by have := pk_len (k := 2) (pints_in iq) (by simp [Rp.ints]); omega))
    rw [hdp] at EP
    generalize pkB 2 p.ints = bp at PP SN
    generalize pkB 2 q.ints = bq at PQ SN
    clear hdp
    clear G ir is ip iq or op oq
    obtain ⟨h0, a0, r0, n0⟩ := r
    obtain ⟨h1, a1, r1, n1⟩ := s
    obtain ⟨a2, h2, r2, n2, l2, g2, k2, t2, c2, s2⟩ := p
    obtain ⟨a3, h3, r3, n3, l3, g3, k3, t3, c3, s3⟩ := q
    unfold rqV at CR ⊢
    unfold rpV at CP CQ PP PQ EP ⊢
    dsimp only at CR CP CQ PP PQ EP ⊢
    obtain ⟨W, hW⟩ : ∃ W, ((((w.alloc (.cells #[.int .i64 h0, .int .i64 a0, .int .i64 r0, .int .u64 n0] 24)).alloc (.cells #[.int .i64 h1, .int .i64 a1, .int .i64 r1, .int .u64 n1] 24)).alloc (.cells #[.int .i64 a2, .int .i64 h2, .int .i64 r2, .int .u64 n2, .int .i64 l2, .int .i64 g2, .int .i64 k2, .int .i64 t2, .int .i64 c2, .int .i64 s2] 30)).alloc (.cells #[.int .i64 a3, .int .i64 h3, .int .i64 r3, .int .u64 n3, .int .i64 l3, .int .i64 g3, .int .i64 k3, .int .i64 t3, .int .i64 c3, .int .i64 s3] 30)) = W := ⟨_, rfl⟩
    have R : Hid (Four W (w.heap.size) 24 (.int .i64 h0) (.int .i64 a0) (.int .i64 r0) (.int .u64 n0)) := by
      rw [← hW]
      have k := Four.new w 24 (.int .i64 h0) (.int .i64 a0) (.int .i64 r0) (.int .u64 n0)
      exact (((k).alloc _).alloc _).alloc _
    have S : Hid (Four W (w.heap.size + 1) 24 (.int .i64 h1) (.int .i64 a1) (.int .i64 r1) (.int .u64 n1)) := by
      rw [← hW]
      have k := Four.new (w.alloc (.cells #[.int .i64 h0, .int .i64 a0, .int .i64 r0, .int .u64 n0] 24)) 24 (.int .i64 h1) (.int .i64 a1) (.int .i64 r1) (.int .u64 n1)
      rw [show (w.alloc (.cells #[.int .i64 h0, .int .i64 a0, .int .i64 r0, .int .u64 n0] 24)).heap.size = w.heap.size + 1 by simp] at k
      exact ((k).alloc _).alloc _
    have P : Hid (Cells W (w.heap.size + 1 + 1) 30 #[.int .i64 a2, .int .i64 h2, .int .i64 r2, .int .u64 n2, .int .i64 l2, .int .i64 g2, .int .i64 k2, .int .i64 t2, .int .i64 c2, .int .i64 s2]) := by
      rw [← hW]
      have k := Cells.new ((w.alloc (.cells #[.int .i64 h0, .int .i64 a0, .int .i64 r0, .int .u64 n0] 24)).alloc (.cells #[.int .i64 h1, .int .i64 a1, .int .i64 r1, .int .u64 n1] 24)) 30 #[.int .i64 a2, .int .i64 h2, .int .i64 r2, .int .u64 n2, .int .i64 l2, .int .i64 g2, .int .i64 k2, .int .i64 t2, .int .i64 c2, .int .i64 s2]
      rw [show ((w.alloc (.cells #[.int .i64 h0, .int .i64 a0, .int .i64 r0, .int .u64 n0] 24)).alloc (.cells #[.int .i64 h1, .int .i64 a1, .int .i64 r1, .int .u64 n1] 24)).heap.size = w.heap.size + 1 + 1 by simp] at k
      exact (k).alloc _
    have Q : Hid (Cells W (w.heap.size + 1 + 1 + 1) 30 #[.int .i64 a3, .int .i64 h3, .int .i64 r3, .int .u64 n3, .int .i64 l3, .int .i64 g3, .int .i64 k3, .int .i64 t3, .int .i64 c3, .int .i64 s3]) := by
      rw [← hW]
      have k := Cells.new (((w.alloc (.cells #[.int .i64 h0, .int .i64 a0, .int .i64 r0, .int .u64 n0] 24)).alloc (.cells #[.int .i64 h1, .int .i64 a1, .int .i64 r1, .int .u64 n1] 24)).alloc (.cells #[.int .i64 a2, .int .i64 h2, .int .i64 r2, .int .u64 n2, .int .i64 l2, .int .i64 g2, .int .i64 k2, .int .i64 t2, .int .i64 c2, .int .i64 s2] 30)) 30 #[.int .i64 a3, .int .i64 h3, .int .i64 r3, .int .u64 n3, .int .i64 l3, .int .i64 g3, .int .i64 k3, .int .i64 t3, .int .i64 c3, .int .i64 s3]
      rw [show (((w.alloc (.cells #[.int .i64 h0, .int .i64 a0, .int .i64 r0, .int .u64 n0] 24)).alloc (.cells #[.int .i64 h1, .int .i64 a1, .int .i64 r1, .int .u64 n1] 24)).alloc (.cells #[.int .i64 a2, .int .i64 h2, .int .i64 r2, .int .u64 n2, .int .i64 l2, .int .i64 g2, .int .i64 k2, .int .i64 t2, .int .i64 c2, .int .i64 s2] 30)).heap.size = w.heap.size + 1 + 1 + 1 by simp] at k
      exact k
    have BB : Hid (Below w.heap.size w W) := by rw [← hW]; exact (((below_alloc w _).alloc (by simp) _).alloc (by simp; omega) _).alloc (by simp; omega) _
    have r_0 := R.out.c0
    have r_1 := R.out.c1
    have r_2 := R.out.c2
    have r_3 := R.out.c3
    have r_l := R.out.lt
    have s_0 := S.out.c0
    have s_1 := S.out.c1
    have s_2 := S.out.c2
    have s_3 := S.out.c3
    have s_l := S.out.lt
    have p_0 := P.out.c 0 rfl
    have p_1 := P.out.c 1 rfl
    have p_2 := P.out.c 2 rfl
    have p_3 := P.out.c 3 rfl
    have p_4 := P.out.c 4 rfl
    have p_5 := P.out.c 5 rfl
    have p_6 := P.out.c 6 rfl
    have p_7 := P.out.c 7 rfl
    have p_8 := P.out.c 8 rfl
    have p_9 := P.out.c 9 rfl
    have p_l := P.out.lt
    have q_0 := Q.out.c 0 rfl
    have q_1 := Q.out.c 1 rfl
    have q_2 := Q.out.c 2 rfl
    have q_3 := Q.out.c 3 rfl
    have q_4 := Q.out.c 4 rfl
    have q_5 := Q.out.c 5 rfl
    have q_6 := Q.out.c 6 rfl
    have q_7 := Q.out.c 7 rfl
    have q_8 := Q.out.c 8 rfl
    have q_9 := Q.out.c 9 rfl
    have q_l := Q.out.lt
    go_enter Try.func8, Try.ntmps8
    go_wp2_with (first
      | (go_at_call 10; (with_reducible refine (HD.out _).mono ?_); rintro e w1 ⟨rfl, b1⟩; replace R := Lib.hid (R.out.below b1 R.out.lt); replace S := Lib.hid (S.out.below b1 S.out.lt); replace P := Lib.hid (P.out.below b1 P.out.lt); replace Q := Lib.hid (Q.out.below b1 Q.out.lt); replace BB := Lib.hid (below_more BB.out b1); replace r_0 := R.out.c0; replace r_1 := R.out.c1; replace r_2 := R.out.c2; replace r_3 := R.out.c3; replace r_l := R.out.lt; replace s_0 := S.out.c0; replace s_1 := S.out.c1; replace s_2 := S.out.c2; replace s_3 := S.out.c3; replace s_l := S.out.lt; replace p_0 := P.out.c 0 rfl; replace p_1 := P.out.c 1 rfl; replace p_2 := P.out.c 2 rfl; replace p_3 := P.out.c 3 rfl; replace p_4 := P.out.c 4 rfl; replace p_5 := P.out.c 5 rfl; replace p_6 := P.out.c 6 rfl; replace p_7 := P.out.c 7 rfl; replace p_8 := P.out.c 8 rfl; replace p_9 := P.out.c 9 rfl; replace p_l := P.out.lt; replace q_0 := Q.out.c 0 rfl; replace q_1 := Q.out.c 1 rfl; replace q_2 := Q.out.c 2 rfl; replace q_3 := Q.out.c 3 rfl; replace q_4 := Q.out.c 4 rfl; replace q_5 := Q.out.c 5 rfl; replace q_6 := Q.out.c 6 rfl; replace q_7 := Q.out.c 7 rfl; replace q_8 := Q.out.c 8 rfl; replace q_9 := Q.out.c 9 rfl; replace q_l := Q.out.lt; clear b1 HD)
      | (go_at_call 20; (with_reducible refine (CR.out _).mono ?_); rintro e w2 ⟨rfl, b2⟩; replace R := Lib.hid (R.out.below b2 R.out.lt); replace S := Lib.hid (S.out.below b2 S.out.lt); replace P := Lib.hid (P.out.below b2 P.out.lt); replace Q := Lib.hid (Q.out.below b2 Q.out.lt); replace BB := Lib.hid (below_more BB.out b2); replace r_0 := R.out.c0; replace r_1 := R.out.c1; replace r_2 := R.out.c2; replace r_3 := R.out.c3; replace r_l := R.out.lt; replace s_0 := S.out.c0; replace s_1 := S.out.c1; replace s_2 := S.out.c2; replace s_3 := S.out.c3; replace s_l := S.out.lt; replace p_0 := P.out.c 0 rfl; replace p_1 := P.out.c 1 rfl; replace p_2 := P.out.c 2 rfl; replace p_3 := P.out.c 3 rfl; replace p_4 := P.out.c 4 rfl; replace p_5 := P.out.c 5 rfl; replace p_6 := P.out.c 6 rfl; replace p_7 := P.out.c 7 rfl; replace p_8 := P.out.c 8 rfl; replace p_9 := P.out.c 9 rfl; replace p_l := P.out.lt; replace q_0 := Q.out.c 0 rfl; replace q_1 := Q.out.c 1 rfl; replace q_2 := Q.out.c 2 rfl; replace q_3 := Q.out.c 3 rfl; replace q_4 := Q.out.c 4 rfl; replace q_5 := Q.out.c 5 rfl; replace q_6 := Q.out.c 6 rfl; replace q_7 := Q.out.c 7 rfl; replace q_8 := Q.out.c 8 rfl; replace q_9 := Q.out.c 9 rfl; replace q_l := Q.out.lt; clear b2 CR)
      | (go_at_call 21; (with_reducible refine (CP.out _).mono ?_); rintro e w3 ⟨rfl, b3⟩; replace R := Lib.hid (R.out.below b3 R.out.lt); replace S := Lib.hid (S.out.below b3 S.out.lt); replace P := Lib.hid (P.out.below b3 P.out.lt); replace Q := Lib.hid (Q.out.below b3 Q.out.lt); replace BB := Lib.hid (below_more BB.out b3); replace r_0 := R.out.c0; replace r_1 := R.out.c1; replace r_2 := R.out.c2; replace r_3 := R.out.c3; replace r_l := R.out.lt; replace s_0 := S.out.c0; replace s_1 := S.out.c1; replace s_2 := S.out.c2; replace s_3 := S.out.c3; replace s_l := S.out.lt; replace p_0 := P.out.c 0 rfl; replace p_1 := P.out.c 1 rfl; replace p_2 := P.out.c 2 rfl; replace p_3 := P.out.c 3 rfl; replace p_4 := P.out.c 4 rfl; replace p_5 := P.out.c 5 rfl; replace p_6 := P.out.c 6 rfl; replace p_7 := P.out.c 7 rfl; replace p_8 := P.out.c 8 rfl; replace p_9 := P.out.c 9 rfl; replace p_l := P.out.lt; replace q_0 := Q.out.c 0 rfl; replace q_1 := Q.out.c 1 rfl; replace q_2 := Q.out.c 2 rfl; replace q_3 := Q.out.c 3 rfl; replace q_4 := Q.out.c 4 rfl; replace q_5 := Q.out.c 5 rfl; replace q_6 := Q.out.c 6 rfl; replace q_7 := Q.out.c 7 rfl; replace q_8 := Q.out.c 8 rfl; replace q_9 := Q.out.c 9 rfl; replace q_l := Q.out.lt; clear b3 CP)
      | (go_at_call 21; (with_reducible refine (CQ.out _).mono ?_); rintro e w4 ⟨rfl, b4⟩; replace R := Lib.hid (R.out.below b4 R.out.lt); replace S := Lib.hid (S.out.below b4 S.out.lt); replace P := Lib.hid (P.out.below b4 P.out.lt); replace Q := Lib.hid (Q.out.below b4 Q.out.lt); replace BB := Lib.hid (below_more BB.out b4); replace r_0 := R.out.c0; replace r_1 := R.out.c1; replace r_2 := R.out.c2; replace r_3 := R.out.c3; replace r_l := R.out.lt; replace s_0 := S.out.c0; replace s_1 := S.out.c1; replace s_2 := S.out.c2; replace s_3 := S.out.c3; replace s_l := S.out.lt; replace p_0 := P.out.c 0 rfl; replace p_1 := P.out.c 1 rfl; replace p_2 := P.out.c 2 rfl; replace p_3 := P.out.c 3 rfl; replace p_4 := P.out.c 4 rfl; replace p_5 := P.out.c 5 rfl; replace p_6 := P.out.c 6 rfl; replace p_7 := P.out.c 7 rfl; replace p_8 := P.out.c 8 rfl; replace p_9 := P.out.c 9 rfl; replace p_l := P.out.lt; replace q_0 := Q.out.c 0 rfl; replace q_1 := Q.out.c 1 rfl; replace q_2 := Q.out.c 2 rfl; replace q_3 := Q.out.c 3 rfl; replace q_4 := Q.out.c 4 rfl; replace q_5 := Q.out.c 5 rfl; replace q_6 := Q.out.c 6 rfl; replace q_7 := Q.out.c 7 rfl; replace q_8 := Q.out.c 8 rfl; replace q_9 := Q.out.c 9 rfl; replace q_l := Q.out.lt; clear b4 CQ)
      | (go_at_call 16; (with_reducible refine (PP.out _).mono ?_); rintro e w5 ⟨ARD, nRD, cRD, rfl, hcRD, hmRD, r5, b5⟩; replace R := Lib.hid (R.out.below b5 R.out.lt); replace S := Lib.hid (S.out.below b5 S.out.lt); replace P := Lib.hid (P.out.below b5 P.out.lt); replace Q := Lib.hid (Q.out.below b5 Q.out.lt); replace BB := Lib.hid (below_more BB.out b5); replace r_0 := R.out.c0; replace r_1 := R.out.c1; replace r_2 := R.out.c2; replace r_3 := R.out.c3; replace r_l := R.out.lt; replace s_0 := S.out.c0; replace s_1 := S.out.c1; replace s_2 := S.out.c2; replace s_3 := S.out.c3; replace s_l := S.out.lt; replace p_0 := P.out.c 0 rfl; replace p_1 := P.out.c 1 rfl; replace p_2 := P.out.c 2 rfl; replace p_3 := P.out.c 3 rfl; replace p_4 := P.out.c 4 rfl; replace p_5 := P.out.c 5 rfl; replace p_6 := P.out.c 6 rfl; replace p_7 := P.out.c 7 rfl; replace p_8 := P.out.c 8 rfl; replace p_9 := P.out.c 9 rfl; replace p_l := P.out.lt; replace q_0 := Q.out.c 0 rfl; replace q_1 := Q.out.c 1 rfl; replace q_2 := Q.out.c 2 rfl; replace q_3 := Q.out.c 3 rfl; replace q_4 := Q.out.c 4 rfl; replace q_5 := Q.out.c 5 rfl; replace q_6 := Q.out.c 6 rfl; replace q_7 := Q.out.c 7 rfl; replace q_8 := Q.out.c 8 rfl; replace q_9 := Q.out.c 9 rfl; replace q_l := Q.out.lt; have RD := Lib.hid r5; clear b5 PP r5)
      | (go_at_call 16; (with_reducible refine (PQ.out _).mono ?_); rintro e w6 ⟨ARE, nRE, cRE, rfl, hcRE, hmRE, r6, b6⟩; replace R := Lib.hid (R.out.below b6 R.out.lt); replace S := Lib.hid (S.out.below b6 S.out.lt); replace P := Lib.hid (P.out.below b6 P.out.lt); replace Q := Lib.hid (Q.out.below b6 Q.out.lt); replace BB := Lib.hid (below_more BB.out b6); replace RD := Lib.hid (RD.out.step b6); replace r_0 := R.out.c0; replace r_1 := R.out.c1; replace r_2 := R.out.c2; replace r_3 := R.out.c3; replace r_l := R.out.lt; replace s_0 := S.out.c0; replace s_1 := S.out.c1; replace s_2 := S.out.c2; replace s_3 := S.out.c3; replace s_l := S.out.lt; replace p_0 := P.out.c 0 rfl; replace p_1 := P.out.c 1 rfl; replace p_2 := P.out.c 2 rfl; replace p_3 := P.out.c 3 rfl; replace p_4 := P.out.c 4 rfl; replace p_5 := P.out.c 5 rfl; replace p_6 := P.out.c 6 rfl; replace p_7 := P.out.c 7 rfl; replace p_8 := P.out.c 8 rfl; replace p_9 := P.out.c 9 rfl; replace p_l := P.out.lt; replace q_0 := Q.out.c 0 rfl; replace q_1 := Q.out.c 1 rfl; replace q_2 := Q.out.c 2 rfl; replace q_3 := Q.out.c 3 rfl; replace q_4 := Q.out.c 4 rfl; replace q_5 := Q.out.c 5 rfl; replace q_6 := Q.out.c 6 rfl; replace q_7 := Q.out.c 7 rfl; replace q_8 := Q.out.c 8 rfl; replace q_9 := Q.out.c 9 rfl; replace q_l := Q.out.lt; have RE := Lib.hid r6; clear b6 PQ r6))
    have BB9 : Hid (Below w.heap.size w w6.drew) := BB.out.drew
    have R9 : Hid (Four w6.drew (w.heap.size) 24 (.int .i64 h0) (.int .i64 a0) (.int .i64 r0) (.int .u64 n0)) := R.out
    have S9 : Hid (Four w6.drew (w.heap.size + 1) 24 (.int .i64 h1) (.int .i64 a1) (.int .i64 r1) (.int .u64 n1)) := S.out
    have P9 : Hid (Cells w6.drew (w.heap.size + 1 + 1) 30 #[.int .i64 a2, .int .i64 h2, .int .i64 r2, .int .u64 n2, .int .i64 l2, .int .i64 g2, .int .i64 k2, .int .i64 t2, .int .i64 c2, .int .i64 s2]) := P.out
    have Q9 : Hid (Cells w6.drew (w.heap.size + 1 + 1 + 1) 30 #[.int .i64 a3, .int .i64 h3, .int .i64 r3, .int .u64 n3, .int .i64 l3, .int .i64 g3, .int .i64 k3, .int .i64 t3, .int .i64 c3, .int .i64 s3]) := Q.out
    have RD9 := Lib.hid (RD.out.step ((Drew.one w6).below w6.heap.size))
    have RE9 := Lib.hid (RE.out.step ((Drew.one w6).below w6.heap.size))
    go_region_held3 (fun w' => w'.cell? ⟨w.heap.size + 1 + 1, 0, none⟩ = some (.int .i64 a2) ∧ w'.cell? ⟨w.heap.size + 1 + 1, 1, none⟩ = some (.int .i64 h2) ∧ w'.cell? ⟨w.heap.size + 1 + 1, 2, none⟩ = some (.int .i64 r2) ∧ w'.cell? ⟨w.heap.size + 1 + 1, 3, none⟩ = some (.int .u64 n2) ∧ w'.cell? ⟨w.heap.size + 1 + 1, 4, none⟩ = some (.int .i64 l2) ∧ w'.cell? ⟨w.heap.size + 1 + 1, 5, none⟩ = some (.int .i64 g2) ∧ w'.cell? ⟨w.heap.size + 1 + 1, 6, none⟩ = some (.int .i64 k2) ∧ w'.cell? ⟨w.heap.size + 1 + 1, 7, none⟩ = some (.int .i64 t2) ∧ w'.cell? ⟨w.heap.size + 1 + 1, 8, none⟩ = some (.int .i64 c2) ∧ w'.cell? ⟨w.heap.size + 1 + 1, 9, none⟩ = some (.int .i64 s2) ∧ w'.cell? ⟨w.heap.size + 1 + 1 + 1, 0, none⟩ = some (.int .i64 a3) ∧ w'.cell? ⟨w.heap.size + 1 + 1 + 1, 1, none⟩ = some (.int .i64 h3) ∧ w'.cell? ⟨w.heap.size + 1 + 1 + 1, 2, none⟩ = some (.int .i64 r3) ∧ w'.cell? ⟨w.heap.size + 1 + 1 + 1, 3, none⟩ = some (.int .u64 n3) ∧ w'.cell? ⟨w.heap.size + 1 + 1 + 1, 4, none⟩ = some (.int .i64 l3) ∧ w'.cell? ⟨w.heap.size + 1 + 1 + 1, 5, none⟩ = some (.int .i64 g3) ∧ w'.cell? ⟨w.heap.size + 1 + 1 + 1, 6, none⟩ = some (.int .i64 k3) ∧ w'.cell? ⟨w.heap.size + 1 + 1 + 1, 7, none⟩ = some (.int .i64 t3) ∧ w'.cell? ⟨w.heap.size + 1 + 1 + 1, 8, none⟩ = some (.int .i64 c3) ∧ w'.cell? ⟨w.heap.size + 1 + 1 + 1, 9, none⟩ = some (.int .i64 s3)) (go_keep)
      ((go_at_call 13; (with_reducible refine (SN.out _ _ _ _ _ _ _ RD9.out RE9.out).mono ?_); rintro e w7 ⟨rfl, b7⟩; replace R := Lib.hid (R9.out.below b7 R9.out.lt); replace S := Lib.hid (S9.out.below b7 S9.out.lt); replace P := Lib.hid (P9.out.below b7 P9.out.lt); replace Q := Lib.hid (Q9.out.below b7 Q9.out.lt); replace BB := Lib.hid (below_more BB9.out b7); replace r_0 := R.out.c0; replace r_1 := R.out.c1; replace r_2 := R.out.c2; replace r_3 := R.out.c3; replace r_l := R.out.lt; replace s_0 := S.out.c0; replace s_1 := S.out.c1; replace s_2 := S.out.c2; replace s_3 := S.out.c3; replace s_l := S.out.lt; replace p_0 := P.out.c 0 rfl; replace p_1 := P.out.c 1 rfl; replace p_2 := P.out.c 2 rfl; replace p_3 := P.out.c 3 rfl; replace p_4 := P.out.c 4 rfl; replace p_5 := P.out.c 5 rfl; replace p_6 := P.out.c 6 rfl; replace p_7 := P.out.c 7 rfl; replace p_8 := P.out.c 8 rfl; replace p_9 := P.out.c 9 rfl; replace p_l := P.out.lt; replace q_0 := Q.out.c 0 rfl; replace q_1 := Q.out.c 1 rfl; replace q_2 := Q.out.c 2 rfl; replace q_3 := Q.out.c 3 rfl; replace q_4 := Q.out.c 4 rfl; replace q_5 := Q.out.c 5 rfl; replace q_6 := Q.out.c 6 rfl; replace q_7 := Q.out.c 7 rfl; replace q_8 := Q.out.c 8 rfl; replace q_9 := Q.out.c 9 rfl; replace q_l := Q.out.lt; clear R9 S9 P9 Q9 BB9 RD9 RE9 b7))
    go_wp2_with fail
    go_ret
    exact ⟨by simp, BB.out⟩
  by_cases os : s.Ok
  case neg =>
    have CR := Lib.hid (rreq_any r true (by simp [or]))
    have CS := Lib.hid (rreq_any s false (by simp [os]))
    by_cases op : p.Ok
    case neg =>
      have CP := Lib.hid (rrep_any p false (by simp [op]))
      clear G ir is ip iq or os op
      obtain ⟨h0, a0, r0, n0⟩ := r
      obtain ⟨h1, a1, r1, n1⟩ := s
      obtain ⟨a2, h2, r2, n2, l2, g2, k2, t2, c2, s2⟩ := p
      obtain ⟨a3, h3, r3, n3, l3, g3, k3, t3, c3, s3⟩ := q
      unfold rqV at CR CS ⊢
      unfold rpV at CP ⊢
      dsimp only at CR CS CP ⊢
      obtain ⟨W, hW⟩ : ∃ W, ((((w.alloc (.cells #[.int .i64 h0, .int .i64 a0, .int .i64 r0, .int .u64 n0] 24)).alloc (.cells #[.int .i64 h1, .int .i64 a1, .int .i64 r1, .int .u64 n1] 24)).alloc (.cells #[.int .i64 a2, .int .i64 h2, .int .i64 r2, .int .u64 n2, .int .i64 l2, .int .i64 g2, .int .i64 k2, .int .i64 t2, .int .i64 c2, .int .i64 s2] 30)).alloc (.cells #[.int .i64 a3, .int .i64 h3, .int .i64 r3, .int .u64 n3, .int .i64 l3, .int .i64 g3, .int .i64 k3, .int .i64 t3, .int .i64 c3, .int .i64 s3] 30)) = W := ⟨_, rfl⟩
      have R : Hid (Four W (w.heap.size) 24 (.int .i64 h0) (.int .i64 a0) (.int .i64 r0) (.int .u64 n0)) := by
        rw [← hW]
        have k := Four.new w 24 (.int .i64 h0) (.int .i64 a0) (.int .i64 r0) (.int .u64 n0)
        exact (((k).alloc _).alloc _).alloc _
      have S : Hid (Four W (w.heap.size + 1) 24 (.int .i64 h1) (.int .i64 a1) (.int .i64 r1) (.int .u64 n1)) := by
        rw [← hW]
        have k := Four.new (w.alloc (.cells #[.int .i64 h0, .int .i64 a0, .int .i64 r0, .int .u64 n0] 24)) 24 (.int .i64 h1) (.int .i64 a1) (.int .i64 r1) (.int .u64 n1)
        rw [show (w.alloc (.cells #[.int .i64 h0, .int .i64 a0, .int .i64 r0, .int .u64 n0] 24)).heap.size = w.heap.size + 1 by simp] at k
        exact ((k).alloc _).alloc _
      have P : Hid (Cells W (w.heap.size + 1 + 1) 30 #[.int .i64 a2, .int .i64 h2, .int .i64 r2, .int .u64 n2, .int .i64 l2, .int .i64 g2, .int .i64 k2, .int .i64 t2, .int .i64 c2, .int .i64 s2]) := by
        rw [← hW]
        have k := Cells.new ((w.alloc (.cells #[.int .i64 h0, .int .i64 a0, .int .i64 r0, .int .u64 n0] 24)).alloc (.cells #[.int .i64 h1, .int .i64 a1, .int .i64 r1, .int .u64 n1] 24)) 30 #[.int .i64 a2, .int .i64 h2, .int .i64 r2, .int .u64 n2, .int .i64 l2, .int .i64 g2, .int .i64 k2, .int .i64 t2, .int .i64 c2, .int .i64 s2]
        rw [show ((w.alloc (.cells #[.int .i64 h0, .int .i64 a0, .int .i64 r0, .int .u64 n0] 24)).alloc (.cells #[.int .i64 h1, .int .i64 a1, .int .i64 r1, .int .u64 n1] 24)).heap.size = w.heap.size + 1 + 1 by simp] at k
        exact (k).alloc _
      have Q : Hid (Cells W (w.heap.size + 1 + 1 + 1) 30 #[.int .i64 a3, .int .i64 h3, .int .i64 r3, .int .u64 n3, .int .i64 l3, .int .i64 g3, .int .i64 k3, .int .i64 t3, .int .i64 c3, .int .i64 s3]) := by
        rw [← hW]
        have k := Cells.new (((w.alloc (.cells #[.int .i64 h0, .int .i64 a0, .int .i64 r0, .int .u64 n0] 24)).alloc (.cells #[.int .i64 h1, .int .i64 a1, .int .i64 r1, .int .u64 n1] 24)).alloc (.cells #[.int .i64 a2, .int .i64 h2, .int .i64 r2, .int .u64 n2, .int .i64 l2, .int .i64 g2, .int .i64 k2, .int .i64 t2, .int .i64 c2, .int .i64 s2] 30)) 30 #[.int .i64 a3, .int .i64 h3, .int .i64 r3, .int .u64 n3, .int .i64 l3, .int .i64 g3, .int .i64 k3, .int .i64 t3, .int .i64 c3, .int .i64 s3]
        rw [show (((w.alloc (.cells #[.int .i64 h0, .int .i64 a0, .int .i64 r0, .int .u64 n0] 24)).alloc (.cells #[.int .i64 h1, .int .i64 a1, .int .i64 r1, .int .u64 n1] 24)).alloc (.cells #[.int .i64 a2, .int .i64 h2, .int .i64 r2, .int .u64 n2, .int .i64 l2, .int .i64 g2, .int .i64 k2, .int .i64 t2, .int .i64 c2, .int .i64 s2] 30)).heap.size = w.heap.size + 1 + 1 + 1 by simp] at k
        exact k
      have BB : Hid (Below w.heap.size w W) := by rw [← hW]; exact (((below_alloc w _).alloc (by simp) _).alloc (by simp; omega) _).alloc (by simp; omega) _
      have r_0 := R.out.c0
      have r_1 := R.out.c1
      have r_2 := R.out.c2
      have r_3 := R.out.c3
      have r_l := R.out.lt
      have s_0 := S.out.c0
      have s_1 := S.out.c1
      have s_2 := S.out.c2
      have s_3 := S.out.c3
      have s_l := S.out.lt
      have p_0 := P.out.c 0 rfl
      have p_1 := P.out.c 1 rfl
      have p_2 := P.out.c 2 rfl
      have p_3 := P.out.c 3 rfl
      have p_4 := P.out.c 4 rfl
      have p_5 := P.out.c 5 rfl
      have p_6 := P.out.c 6 rfl
      have p_7 := P.out.c 7 rfl
      have p_8 := P.out.c 8 rfl
      have p_9 := P.out.c 9 rfl
      have p_l := P.out.lt
      have q_0 := Q.out.c 0 rfl
      have q_1 := Q.out.c 1 rfl
      have q_2 := Q.out.c 2 rfl
      have q_3 := Q.out.c 3 rfl
      have q_4 := Q.out.c 4 rfl
      have q_5 := Q.out.c 5 rfl
      have q_6 := Q.out.c 6 rfl
      have q_7 := Q.out.c 7 rfl
      have q_8 := Q.out.c 8 rfl
      have q_9 := Q.out.c 9 rfl
      have q_l := Q.out.lt
      go_enter Try.func8, Try.ntmps8
      go_wp2_with (first
        | (go_at_call 10; (with_reducible refine (HD.out _).mono ?_); rintro e w1 ⟨rfl, b1⟩; replace R := Lib.hid (R.out.below b1 R.out.lt); replace S := Lib.hid (S.out.below b1 S.out.lt); replace P := Lib.hid (P.out.below b1 P.out.lt); replace Q := Lib.hid (Q.out.below b1 Q.out.lt); replace BB := Lib.hid (below_more BB.out b1); replace r_0 := R.out.c0; replace r_1 := R.out.c1; replace r_2 := R.out.c2; replace r_3 := R.out.c3; replace r_l := R.out.lt; replace s_0 := S.out.c0; replace s_1 := S.out.c1; replace s_2 := S.out.c2; replace s_3 := S.out.c3; replace s_l := S.out.lt; replace p_0 := P.out.c 0 rfl; replace p_1 := P.out.c 1 rfl; replace p_2 := P.out.c 2 rfl; replace p_3 := P.out.c 3 rfl; replace p_4 := P.out.c 4 rfl; replace p_5 := P.out.c 5 rfl; replace p_6 := P.out.c 6 rfl; replace p_7 := P.out.c 7 rfl; replace p_8 := P.out.c 8 rfl; replace p_9 := P.out.c 9 rfl; replace p_l := P.out.lt; replace q_0 := Q.out.c 0 rfl; replace q_1 := Q.out.c 1 rfl; replace q_2 := Q.out.c 2 rfl; replace q_3 := Q.out.c 3 rfl; replace q_4 := Q.out.c 4 rfl; replace q_5 := Q.out.c 5 rfl; replace q_6 := Q.out.c 6 rfl; replace q_7 := Q.out.c 7 rfl; replace q_8 := Q.out.c 8 rfl; replace q_9 := Q.out.c 9 rfl; replace q_l := Q.out.lt; clear b1 HD)
        | (go_at_call 20; (with_reducible refine (CR.out _).mono ?_); rintro e w2 ⟨rfl, b2⟩; replace R := Lib.hid (R.out.below b2 R.out.lt); replace S := Lib.hid (S.out.below b2 S.out.lt); replace P := Lib.hid (P.out.below b2 P.out.lt); replace Q := Lib.hid (Q.out.below b2 Q.out.lt); replace BB := Lib.hid (below_more BB.out b2); replace r_0 := R.out.c0; replace r_1 := R.out.c1; replace r_2 := R.out.c2; replace r_3 := R.out.c3; replace r_l := R.out.lt; replace s_0 := S.out.c0; replace s_1 := S.out.c1; replace s_2 := S.out.c2; replace s_3 := S.out.c3; replace s_l := S.out.lt; replace p_0 := P.out.c 0 rfl; replace p_1 := P.out.c 1 rfl; replace p_2 := P.out.c 2 rfl; replace p_3 := P.out.c 3 rfl; replace p_4 := P.out.c 4 rfl; replace p_5 := P.out.c 5 rfl; replace p_6 := P.out.c 6 rfl; replace p_7 := P.out.c 7 rfl; replace p_8 := P.out.c 8 rfl; replace p_9 := P.out.c 9 rfl; replace p_l := P.out.lt; replace q_0 := Q.out.c 0 rfl; replace q_1 := Q.out.c 1 rfl; replace q_2 := Q.out.c 2 rfl; replace q_3 := Q.out.c 3 rfl; replace q_4 := Q.out.c 4 rfl; replace q_5 := Q.out.c 5 rfl; replace q_6 := Q.out.c 6 rfl; replace q_7 := Q.out.c 7 rfl; replace q_8 := Q.out.c 8 rfl; replace q_9 := Q.out.c 9 rfl; replace q_l := Q.out.lt; clear b2 CR)
        | (go_at_call 20; (with_reducible refine (CS.out _).mono ?_); rintro e w3 ⟨rfl, b3⟩; replace R := Lib.hid (R.out.below b3 R.out.lt); replace S := Lib.hid (S.out.below b3 S.out.lt); replace P := Lib.hid (P.out.below b3 P.out.lt); replace Q := Lib.hid (Q.out.below b3 Q.out.lt); replace BB := Lib.hid (below_more BB.out b3); replace r_0 := R.out.c0; replace r_1 := R.out.c1; replace r_2 := R.out.c2; replace r_3 := R.out.c3; replace r_l := R.out.lt; replace s_0 := S.out.c0; replace s_1 := S.out.c1; replace s_2 := S.out.c2; replace s_3 := S.out.c3; replace s_l := S.out.lt; replace p_0 := P.out.c 0 rfl; replace p_1 := P.out.c 1 rfl; replace p_2 := P.out.c 2 rfl; replace p_3 := P.out.c 3 rfl; replace p_4 := P.out.c 4 rfl; replace p_5 := P.out.c 5 rfl; replace p_6 := P.out.c 6 rfl; replace p_7 := P.out.c 7 rfl; replace p_8 := P.out.c 8 rfl; replace p_9 := P.out.c 9 rfl; replace p_l := P.out.lt; replace q_0 := Q.out.c 0 rfl; replace q_1 := Q.out.c 1 rfl; replace q_2 := Q.out.c 2 rfl; replace q_3 := Q.out.c 3 rfl; replace q_4 := Q.out.c 4 rfl; replace q_5 := Q.out.c 5 rfl; replace q_6 := Q.out.c 6 rfl; replace q_7 := Q.out.c 7 rfl; replace q_8 := Q.out.c 8 rfl; replace q_9 := Q.out.c 9 rfl; replace q_l := Q.out.lt; clear b3 CS)
        | (go_at_call 21; (with_reducible refine (CP.out _).mono ?_); rintro e w4 ⟨rfl, b4⟩; replace R := Lib.hid (R.out.below b4 R.out.lt); replace S := Lib.hid (S.out.below b4 S.out.lt); replace P := Lib.hid (P.out.below b4 P.out.lt); replace Q := Lib.hid (Q.out.below b4 Q.out.lt); replace BB := Lib.hid (below_more BB.out b4); replace r_0 := R.out.c0; replace r_1 := R.out.c1; replace r_2 := R.out.c2; replace r_3 := R.out.c3; replace r_l := R.out.lt; replace s_0 := S.out.c0; replace s_1 := S.out.c1; replace s_2 := S.out.c2; replace s_3 := S.out.c3; replace s_l := S.out.lt; replace p_0 := P.out.c 0 rfl; replace p_1 := P.out.c 1 rfl; replace p_2 := P.out.c 2 rfl; replace p_3 := P.out.c 3 rfl; replace p_4 := P.out.c 4 rfl; replace p_5 := P.out.c 5 rfl; replace p_6 := P.out.c 6 rfl; replace p_7 := P.out.c 7 rfl; replace p_8 := P.out.c 8 rfl; replace p_9 := P.out.c 9 rfl; replace p_l := P.out.lt; replace q_0 := Q.out.c 0 rfl; replace q_1 := Q.out.c 1 rfl; replace q_2 := Q.out.c 2 rfl; replace q_3 := Q.out.c 3 rfl; replace q_4 := Q.out.c 4 rfl; replace q_5 := Q.out.c 5 rfl; replace q_6 := Q.out.c 6 rfl; replace q_7 := Q.out.c 7 rfl; replace q_8 := Q.out.c 8 rfl; replace q_9 := Q.out.c 9 rfl; replace q_l := Q.out.lt; clear b4 CP))
      go_ret
      exact ⟨by simp, BB.out⟩
    by_cases oq : q.Ok
    case neg =>
      have CP := Lib.hid (rrep_any p true (by simp [op]))
      have CQ := Lib.hid (rrep_any q false (by simp [oq]))
      clear G ir is ip iq or os op oq
      obtain ⟨h0, a0, r0, n0⟩ := r
      obtain ⟨h1, a1, r1, n1⟩ := s
      obtain ⟨a2, h2, r2, n2, l2, g2, k2, t2, c2, s2⟩ := p
      obtain ⟨a3, h3, r3, n3, l3, g3, k3, t3, c3, s3⟩ := q
      unfold rqV at CR CS ⊢
      unfold rpV at CP CQ ⊢
      dsimp only at CR CS CP CQ ⊢
      obtain ⟨W, hW⟩ : ∃ W, ((((w.alloc (.cells #[.int .i64 h0, .int .i64 a0, .int .i64 r0, .int .u64 n0] 24)).alloc (.cells #[.int .i64 h1, .int .i64 a1, .int .i64 r1, .int .u64 n1] 24)).alloc (.cells #[.int .i64 a2, .int .i64 h2, .int .i64 r2, .int .u64 n2, .int .i64 l2, .int .i64 g2, .int .i64 k2, .int .i64 t2, .int .i64 c2, .int .i64 s2] 30)).alloc (.cells #[.int .i64 a3, .int .i64 h3, .int .i64 r3, .int .u64 n3, .int .i64 l3, .int .i64 g3, .int .i64 k3, .int .i64 t3, .int .i64 c3, .int .i64 s3] 30)) = W := ⟨_, rfl⟩
      have R : Hid (Four W (w.heap.size) 24 (.int .i64 h0) (.int .i64 a0) (.int .i64 r0) (.int .u64 n0)) := by
        rw [← hW]
        have k := Four.new w 24 (.int .i64 h0) (.int .i64 a0) (.int .i64 r0) (.int .u64 n0)
        exact (((k).alloc _).alloc _).alloc _
      have S : Hid (Four W (w.heap.size + 1) 24 (.int .i64 h1) (.int .i64 a1) (.int .i64 r1) (.int .u64 n1)) := by
        rw [← hW]
        have k := Four.new (w.alloc (.cells #[.int .i64 h0, .int .i64 a0, .int .i64 r0, .int .u64 n0] 24)) 24 (.int .i64 h1) (.int .i64 a1) (.int .i64 r1) (.int .u64 n1)
        rw [show (w.alloc (.cells #[.int .i64 h0, .int .i64 a0, .int .i64 r0, .int .u64 n0] 24)).heap.size = w.heap.size + 1 by simp] at k
        exact ((k).alloc _).alloc _
      have P : Hid (Cells W (w.heap.size + 1 + 1) 30 #[.int .i64 a2, .int .i64 h2, .int .i64 r2, .int .u64 n2, .int .i64 l2, .int .i64 g2, .int .i64 k2, .int .i64 t2, .int .i64 c2, .int .i64 s2]) := by
        rw [← hW]
        have k := Cells.new ((w.alloc (.cells #[.int .i64 h0, .int .i64 a0, .int .i64 r0, .int .u64 n0] 24)).alloc (.cells #[.int .i64 h1, .int .i64 a1, .int .i64 r1, .int .u64 n1] 24)) 30 #[.int .i64 a2, .int .i64 h2, .int .i64 r2, .int .u64 n2, .int .i64 l2, .int .i64 g2, .int .i64 k2, .int .i64 t2, .int .i64 c2, .int .i64 s2]
        rw [show ((w.alloc (.cells #[.int .i64 h0, .int .i64 a0, .int .i64 r0, .int .u64 n0] 24)).alloc (.cells #[.int .i64 h1, .int .i64 a1, .int .i64 r1, .int .u64 n1] 24)).heap.size = w.heap.size + 1 + 1 by simp] at k
        exact (k).alloc _
      have Q : Hid (Cells W (w.heap.size + 1 + 1 + 1) 30 #[.int .i64 a3, .int .i64 h3, .int .i64 r3, .int .u64 n3, .int .i64 l3, .int .i64 g3, .int .i64 k3, .int .i64 t3, .int .i64 c3, .int .i64 s3]) := by
        rw [← hW]
        have k := Cells.new (((w.alloc (.cells #[.int .i64 h0, .int .i64 a0, .int .i64 r0, .int .u64 n0] 24)).alloc (.cells #[.int .i64 h1, .int .i64 a1, .int .i64 r1, .int .u64 n1] 24)).alloc (.cells #[.int .i64 a2, .int .i64 h2, .int .i64 r2, .int .u64 n2, .int .i64 l2, .int .i64 g2, .int .i64 k2, .int .i64 t2, .int .i64 c2, .int .i64 s2] 30)) 30 #[.int .i64 a3, .int .i64 h3, .int .i64 r3, .int .u64 n3, .int .i64 l3, .int .i64 g3, .int .i64 k3, .int .i64 t3, .int .i64 c3, .int .i64 s3]
        rw [show (((w.alloc (.cells #[.int .i64 h0, .int .i64 a0, .int .i64 r0, .int .u64 n0] 24)).alloc (.cells #[.int .i64 h1, .int .i64 a1, .int .i64 r1, .int .u64 n1] 24)).alloc (.cells #[.int .i64 a2, .int .i64 h2, .int .i64 r2, .int .u64 n2, .int .i64 l2, .int .i64 g2, .int .i64 k2, .int .i64 t2, .int .i64 c2, .int .i64 s2] 30)).heap.size = w.heap.size + 1 + 1 + 1 by simp] at k
        exact k
      have BB : Hid (Below w.heap.size w W) := by rw [← hW]; exact (((below_alloc w _).alloc (by simp) _).alloc (by simp; omega) _).alloc (by simp; omega) _
      have r_0 := R.out.c0
      have r_1 := R.out.c1
      have r_2 := R.out.c2
      have r_3 := R.out.c3
      have r_l := R.out.lt
      have s_0 := S.out.c0
      have s_1 := S.out.c1
      have s_2 := S.out.c2
      have s_3 := S.out.c3
      have s_l := S.out.lt
      have p_0 := P.out.c 0 rfl
      have p_1 := P.out.c 1 rfl
      have p_2 := P.out.c 2 rfl
      have p_3 := P.out.c 3 rfl
      have p_4 := P.out.c 4 rfl
      have p_5 := P.out.c 5 rfl
      have p_6 := P.out.c 6 rfl
      have p_7 := P.out.c 7 rfl
      have p_8 := P.out.c 8 rfl
      have p_9 := P.out.c 9 rfl
      have p_l := P.out.lt
      have q_0 := Q.out.c 0 rfl
      have q_1 := Q.out.c 1 rfl
      have q_2 := Q.out.c 2 rfl
      have q_3 := Q.out.c 3 rfl
      have q_4 := Q.out.c 4 rfl
      have q_5 := Q.out.c 5 rfl
      have q_6 := Q.out.c 6 rfl
      have q_7 := Q.out.c 7 rfl
      have q_8 := Q.out.c 8 rfl
      have q_9 := Q.out.c 9 rfl
      have q_l := Q.out.lt
      go_enter Try.func8, Try.ntmps8
      go_wp2_with (first
        | (go_at_call 10; (with_reducible refine (HD.out _).mono ?_); rintro e w1 ⟨rfl, b1⟩; replace R := Lib.hid (R.out.below b1 R.out.lt); replace S := Lib.hid (S.out.below b1 S.out.lt); replace P := Lib.hid (P.out.below b1 P.out.lt); replace Q := Lib.hid (Q.out.below b1 Q.out.lt); replace BB := Lib.hid (below_more BB.out b1); replace r_0 := R.out.c0; replace r_1 := R.out.c1; replace r_2 := R.out.c2; replace r_3 := R.out.c3; replace r_l := R.out.lt; replace s_0 := S.out.c0; replace s_1 := S.out.c1; replace s_2 := S.out.c2; replace s_3 := S.out.c3; replace s_l := S.out.lt; replace p_0 := P.out.c 0 rfl; replace p_1 := P.out.c 1 rfl; replace p_2 := P.out.c 2 rfl; replace p_3 := P.out.c 3 rfl; replace p_4 := P.out.c 4 rfl; replace p_5 := P.out.c 5 rfl; replace p_6 := P.out.c 6 rfl; replace p_7 := P.out.c 7 rfl; replace p_8 := P.out.c 8 rfl; replace p_9 := P.out.c 9 rfl; replace p_l := P.out.lt; replace q_0 := Q.out.c 0 rfl; replace q_1 := Q.out.c 1 rfl; replace q_2 := Q.out.c 2 rfl; replace q_3 := Q.out.c 3 rfl; replace q_4 := Q.out.c 4 rfl; replace q_5 := Q.out.c 5 rfl; replace q_6 := Q.out.c 6 rfl; replace q_7 := Q.out.c 7 rfl; replace q_8 := Q.out.c 8 rfl; replace q_9 := Q.out.c 9 rfl; replace q_l := Q.out.lt; clear b1 HD)
        | (go_at_call 20; (with_reducible refine (CR.out _).mono ?_); rintro e w2 ⟨rfl, b2⟩; replace R := Lib.hid (R.out.below b2 R.out.lt); replace S := Lib.hid (S.out.below b2 S.out.lt); replace P := Lib.hid (P.out.below b2 P.out.lt); replace Q := Lib.hid (Q.out.below b2 Q.out.lt); replace BB := Lib.hid (below_more BB.out b2); replace r_0 := R.out.c0; replace r_1 := R.out.c1; replace r_2 := R.out.c2; replace r_3 := R.out.c3; replace r_l := R.out.lt; replace s_0 := S.out.c0; replace s_1 := S.out.c1; replace s_2 := S.out.c2; replace s_3 := S.out.c3; replace s_l := S.out.lt; replace p_0 := P.out.c 0 rfl; replace p_1 := P.out.c 1 rfl; replace p_2 := P.out.c 2 rfl; replace p_3 := P.out.c 3 rfl; replace p_4 := P.out.c 4 rfl; replace p_5 := P.out.c 5 rfl; replace p_6 := P.out.c 6 rfl; replace p_7 := P.out.c 7 rfl; replace p_8 := P.out.c 8 rfl; replace p_9 := P.out.c 9 rfl; replace p_l := P.out.lt; replace q_0 := Q.out.c 0 rfl; replace q_1 := Q.out.c 1 rfl; replace q_2 := Q.out.c 2 rfl; replace q_3 := Q.out.c 3 rfl; replace q_4 := Q.out.c 4 rfl; replace q_5 := Q.out.c 5 rfl; replace q_6 := Q.out.c 6 rfl; replace q_7 := Q.out.c 7 rfl; replace q_8 := Q.out.c 8 rfl; replace q_9 := Q.out.c 9 rfl; replace q_l := Q.out.lt; clear b2 CR)
        | (go_at_call 20; (with_reducible refine (CS.out _).mono ?_); rintro e w3 ⟨rfl, b3⟩; replace R := Lib.hid (R.out.below b3 R.out.lt); replace S := Lib.hid (S.out.below b3 S.out.lt); replace P := Lib.hid (P.out.below b3 P.out.lt); replace Q := Lib.hid (Q.out.below b3 Q.out.lt); replace BB := Lib.hid (below_more BB.out b3); replace r_0 := R.out.c0; replace r_1 := R.out.c1; replace r_2 := R.out.c2; replace r_3 := R.out.c3; replace r_l := R.out.lt; replace s_0 := S.out.c0; replace s_1 := S.out.c1; replace s_2 := S.out.c2; replace s_3 := S.out.c3; replace s_l := S.out.lt; replace p_0 := P.out.c 0 rfl; replace p_1 := P.out.c 1 rfl; replace p_2 := P.out.c 2 rfl; replace p_3 := P.out.c 3 rfl; replace p_4 := P.out.c 4 rfl; replace p_5 := P.out.c 5 rfl; replace p_6 := P.out.c 6 rfl; replace p_7 := P.out.c 7 rfl; replace p_8 := P.out.c 8 rfl; replace p_9 := P.out.c 9 rfl; replace p_l := P.out.lt; replace q_0 := Q.out.c 0 rfl; replace q_1 := Q.out.c 1 rfl; replace q_2 := Q.out.c 2 rfl; replace q_3 := Q.out.c 3 rfl; replace q_4 := Q.out.c 4 rfl; replace q_5 := Q.out.c 5 rfl; replace q_6 := Q.out.c 6 rfl; replace q_7 := Q.out.c 7 rfl; replace q_8 := Q.out.c 8 rfl; replace q_9 := Q.out.c 9 rfl; replace q_l := Q.out.lt; clear b3 CS)
        | (go_at_call 21; (with_reducible refine (CP.out _).mono ?_); rintro e w4 ⟨rfl, b4⟩; replace R := Lib.hid (R.out.below b4 R.out.lt); replace S := Lib.hid (S.out.below b4 S.out.lt); replace P := Lib.hid (P.out.below b4 P.out.lt); replace Q := Lib.hid (Q.out.below b4 Q.out.lt); replace BB := Lib.hid (below_more BB.out b4); replace r_0 := R.out.c0; replace r_1 := R.out.c1; replace r_2 := R.out.c2; replace r_3 := R.out.c3; replace r_l := R.out.lt; replace s_0 := S.out.c0; replace s_1 := S.out.c1; replace s_2 := S.out.c2; replace s_3 := S.out.c3; replace s_l := S.out.lt; replace p_0 := P.out.c 0 rfl; replace p_1 := P.out.c 1 rfl; replace p_2 := P.out.c 2 rfl; replace p_3 := P.out.c 3 rfl; replace p_4 := P.out.c 4 rfl; replace p_5 := P.out.c 5 rfl; replace p_6 := P.out.c 6 rfl; replace p_7 := P.out.c 7 rfl; replace p_8 := P.out.c 8 rfl; replace p_9 := P.out.c 9 rfl; replace p_l := P.out.lt; replace q_0 := Q.out.c 0 rfl; replace q_1 := Q.out.c 1 rfl; replace q_2 := Q.out.c 2 rfl; replace q_3 := Q.out.c 3 rfl; replace q_4 := Q.out.c 4 rfl; replace q_5 := Q.out.c 5 rfl; replace q_6 := Q.out.c 6 rfl; replace q_7 := Q.out.c 7 rfl; replace q_8 := Q.out.c 8 rfl; replace q_9 := Q.out.c 9 rfl; replace q_l := Q.out.lt; clear b4 CP)
        | (go_at_call 21; (with_reducible refine (CQ.out _).mono ?_); rintro e w5 ⟨rfl, b5⟩; replace R := Lib.hid (R.out.below b5 R.out.lt); replace S := Lib.hid (S.out.below b5 S.out.lt); replace P := Lib.hid (P.out.below b5 P.out.lt); replace Q := Lib.hid (Q.out.below b5 Q.out.lt); replace BB := Lib.hid (below_more BB.out b5); replace r_0 := R.out.c0; replace r_1 := R.out.c1; replace r_2 := R.out.c2; replace r_3 := R.out.c3; replace r_l := R.out.lt; replace s_0 := S.out.c0; replace s_1 := S.out.c1; replace s_2 := S.out.c2; replace s_3 := S.out.c3; replace s_l := S.out.lt; replace p_0 := P.out.c 0 rfl; replace p_1 := P.out.c 1 rfl; replace p_2 := P.out.c 2 rfl; replace p_3 := P.out.c 3 rfl; replace p_4 := P.out.c 4 rfl; replace p_5 := P.out.c 5 rfl; replace p_6 := P.out.c 6 rfl; replace p_7 := P.out.c 7 rfl; replace p_8 := P.out.c 8 rfl; replace p_9 := P.out.c 9 rfl; replace p_l := P.out.lt; replace q_0 := Q.out.c 0 rfl; replace q_1 := Q.out.c 1 rfl; replace q_2 := Q.out.c 2 rfl; replace q_3 := Q.out.c 3 rfl; replace q_4 := Q.out.c 4 rfl; replace q_5 := Q.out.c 5 rfl; replace q_6 := Q.out.c 6 rfl; replace q_7 := Q.out.c 7 rfl; replace q_8 := Q.out.c 8 rfl; replace q_9 := Q.out.c 9 rfl; replace q_l := Q.out.lt; clear b5 CQ))
      go_ret
      exact ⟨by simp, BB.out⟩
    have CP := Lib.hid (rrep_any p true (by simp [op]))
    have CQ := Lib.hid (rrep_any q true (by simp [oq]))
    have PP := Lib.hid (G.putp_yes op ip)
    have PQ := Lib.hid (G.putp_yes oq iq)
    have EP := fun W => eql_rpV p q W
    obtain ⟨xp, hdp⟩ : ∃ x, decide (p = q) = x := ⟨_, rfl⟩
    have SN := Lib.hid (fun A A' n n' c c' w hr hr' => same_c (xs := pkB 2 p.ints) (ys := pkB 2 q.ints) (b := xp) ((p_same op ip oq iq).trans hdp) A A' n n' c c' w hr hr' (by have := pk_len (k := 2) (pints_in ip) (by simp [Rp.ints]); omega) (by have := pk_len (k := 2) (pints_in iq) (by simp [Rp.ints]); omega))
    rw [hdp] at EP
    generalize pkB 2 p.ints = bp at PP SN
    generalize pkB 2 q.ints = bq at PQ SN
    clear hdp
    clear G ir is ip iq or os op oq
    obtain ⟨h0, a0, r0, n0⟩ := r
    obtain ⟨h1, a1, r1, n1⟩ := s
    obtain ⟨a2, h2, r2, n2, l2, g2, k2, t2, c2, s2⟩ := p
    obtain ⟨a3, h3, r3, n3, l3, g3, k3, t3, c3, s3⟩ := q
    unfold rqV at CR CS ⊢
    unfold rpV at CP CQ PP PQ EP ⊢
    dsimp only at CR CS CP CQ PP PQ EP ⊢
    obtain ⟨W, hW⟩ : ∃ W, ((((w.alloc (.cells #[.int .i64 h0, .int .i64 a0, .int .i64 r0, .int .u64 n0] 24)).alloc (.cells #[.int .i64 h1, .int .i64 a1, .int .i64 r1, .int .u64 n1] 24)).alloc (.cells #[.int .i64 a2, .int .i64 h2, .int .i64 r2, .int .u64 n2, .int .i64 l2, .int .i64 g2, .int .i64 k2, .int .i64 t2, .int .i64 c2, .int .i64 s2] 30)).alloc (.cells #[.int .i64 a3, .int .i64 h3, .int .i64 r3, .int .u64 n3, .int .i64 l3, .int .i64 g3, .int .i64 k3, .int .i64 t3, .int .i64 c3, .int .i64 s3] 30)) = W := ⟨_, rfl⟩
    have R : Hid (Four W (w.heap.size) 24 (.int .i64 h0) (.int .i64 a0) (.int .i64 r0) (.int .u64 n0)) := by
      rw [← hW]
      have k := Four.new w 24 (.int .i64 h0) (.int .i64 a0) (.int .i64 r0) (.int .u64 n0)
      exact (((k).alloc _).alloc _).alloc _
    have S : Hid (Four W (w.heap.size + 1) 24 (.int .i64 h1) (.int .i64 a1) (.int .i64 r1) (.int .u64 n1)) := by
      rw [← hW]
      have k := Four.new (w.alloc (.cells #[.int .i64 h0, .int .i64 a0, .int .i64 r0, .int .u64 n0] 24)) 24 (.int .i64 h1) (.int .i64 a1) (.int .i64 r1) (.int .u64 n1)
      rw [show (w.alloc (.cells #[.int .i64 h0, .int .i64 a0, .int .i64 r0, .int .u64 n0] 24)).heap.size = w.heap.size + 1 by simp] at k
      exact ((k).alloc _).alloc _
    have P : Hid (Cells W (w.heap.size + 1 + 1) 30 #[.int .i64 a2, .int .i64 h2, .int .i64 r2, .int .u64 n2, .int .i64 l2, .int .i64 g2, .int .i64 k2, .int .i64 t2, .int .i64 c2, .int .i64 s2]) := by
      rw [← hW]
      have k := Cells.new ((w.alloc (.cells #[.int .i64 h0, .int .i64 a0, .int .i64 r0, .int .u64 n0] 24)).alloc (.cells #[.int .i64 h1, .int .i64 a1, .int .i64 r1, .int .u64 n1] 24)) 30 #[.int .i64 a2, .int .i64 h2, .int .i64 r2, .int .u64 n2, .int .i64 l2, .int .i64 g2, .int .i64 k2, .int .i64 t2, .int .i64 c2, .int .i64 s2]
      rw [show ((w.alloc (.cells #[.int .i64 h0, .int .i64 a0, .int .i64 r0, .int .u64 n0] 24)).alloc (.cells #[.int .i64 h1, .int .i64 a1, .int .i64 r1, .int .u64 n1] 24)).heap.size = w.heap.size + 1 + 1 by simp] at k
      exact (k).alloc _
    have Q : Hid (Cells W (w.heap.size + 1 + 1 + 1) 30 #[.int .i64 a3, .int .i64 h3, .int .i64 r3, .int .u64 n3, .int .i64 l3, .int .i64 g3, .int .i64 k3, .int .i64 t3, .int .i64 c3, .int .i64 s3]) := by
      rw [← hW]
      have k := Cells.new (((w.alloc (.cells #[.int .i64 h0, .int .i64 a0, .int .i64 r0, .int .u64 n0] 24)).alloc (.cells #[.int .i64 h1, .int .i64 a1, .int .i64 r1, .int .u64 n1] 24)).alloc (.cells #[.int .i64 a2, .int .i64 h2, .int .i64 r2, .int .u64 n2, .int .i64 l2, .int .i64 g2, .int .i64 k2, .int .i64 t2, .int .i64 c2, .int .i64 s2] 30)) 30 #[.int .i64 a3, .int .i64 h3, .int .i64 r3, .int .u64 n3, .int .i64 l3, .int .i64 g3, .int .i64 k3, .int .i64 t3, .int .i64 c3, .int .i64 s3]
      rw [show (((w.alloc (.cells #[.int .i64 h0, .int .i64 a0, .int .i64 r0, .int .u64 n0] 24)).alloc (.cells #[.int .i64 h1, .int .i64 a1, .int .i64 r1, .int .u64 n1] 24)).alloc (.cells #[.int .i64 a2, .int .i64 h2, .int .i64 r2, .int .u64 n2, .int .i64 l2, .int .i64 g2, .int .i64 k2, .int .i64 t2, .int .i64 c2, .int .i64 s2] 30)).heap.size = w.heap.size + 1 + 1 + 1 by simp] at k
      exact k
    have BB : Hid (Below w.heap.size w W) := by rw [← hW]; exact (((below_alloc w _).alloc (by simp) _).alloc (by simp; omega) _).alloc (by simp; omega) _
    have r_0 := R.out.c0
    have r_1 := R.out.c1
    have r_2 := R.out.c2
    have r_3 := R.out.c3
    have r_l := R.out.lt
    have s_0 := S.out.c0
    have s_1 := S.out.c1
    have s_2 := S.out.c2
    have s_3 := S.out.c3
    have s_l := S.out.lt
    have p_0 := P.out.c 0 rfl
    have p_1 := P.out.c 1 rfl
    have p_2 := P.out.c 2 rfl
    have p_3 := P.out.c 3 rfl
    have p_4 := P.out.c 4 rfl
    have p_5 := P.out.c 5 rfl
    have p_6 := P.out.c 6 rfl
    have p_7 := P.out.c 7 rfl
    have p_8 := P.out.c 8 rfl
    have p_9 := P.out.c 9 rfl
    have p_l := P.out.lt
    have q_0 := Q.out.c 0 rfl
    have q_1 := Q.out.c 1 rfl
    have q_2 := Q.out.c 2 rfl
    have q_3 := Q.out.c 3 rfl
    have q_4 := Q.out.c 4 rfl
    have q_5 := Q.out.c 5 rfl
    have q_6 := Q.out.c 6 rfl
    have q_7 := Q.out.c 7 rfl
    have q_8 := Q.out.c 8 rfl
    have q_9 := Q.out.c 9 rfl
    have q_l := Q.out.lt
    go_enter Try.func8, Try.ntmps8
    go_wp2_with (first
      | (go_at_call 10; (with_reducible refine (HD.out _).mono ?_); rintro e w1 ⟨rfl, b1⟩; replace R := Lib.hid (R.out.below b1 R.out.lt); replace S := Lib.hid (S.out.below b1 S.out.lt); replace P := Lib.hid (P.out.below b1 P.out.lt); replace Q := Lib.hid (Q.out.below b1 Q.out.lt); replace BB := Lib.hid (below_more BB.out b1); replace r_0 := R.out.c0; replace r_1 := R.out.c1; replace r_2 := R.out.c2; replace r_3 := R.out.c3; replace r_l := R.out.lt; replace s_0 := S.out.c0; replace s_1 := S.out.c1; replace s_2 := S.out.c2; replace s_3 := S.out.c3; replace s_l := S.out.lt; replace p_0 := P.out.c 0 rfl; replace p_1 := P.out.c 1 rfl; replace p_2 := P.out.c 2 rfl; replace p_3 := P.out.c 3 rfl; replace p_4 := P.out.c 4 rfl; replace p_5 := P.out.c 5 rfl; replace p_6 := P.out.c 6 rfl; replace p_7 := P.out.c 7 rfl; replace p_8 := P.out.c 8 rfl; replace p_9 := P.out.c 9 rfl; replace p_l := P.out.lt; replace q_0 := Q.out.c 0 rfl; replace q_1 := Q.out.c 1 rfl; replace q_2 := Q.out.c 2 rfl; replace q_3 := Q.out.c 3 rfl; replace q_4 := Q.out.c 4 rfl; replace q_5 := Q.out.c 5 rfl; replace q_6 := Q.out.c 6 rfl; replace q_7 := Q.out.c 7 rfl; replace q_8 := Q.out.c 8 rfl; replace q_9 := Q.out.c 9 rfl; replace q_l := Q.out.lt; clear b1 HD)
      | (go_at_call 20; (with_reducible refine (CR.out _).mono ?_); rintro e w2 ⟨rfl, b2⟩; replace R := Lib.hid (R.out.below b2 R.out.lt); replace S := Lib.hid (S.out.below b2 S.out.lt); replace P := Lib.hid (P.out.below b2 P.out.lt); replace Q := Lib.hid (Q.out.below b2 Q.out.lt); replace BB := Lib.hid (below_more BB.out b2); replace r_0 := R.out.c0; replace r_1 := R.out.c1; replace r_2 := R.out.c2; replace r_3 := R.out.c3; replace r_l := R.out.lt; replace s_0 := S.out.c0; replace s_1 := S.out.c1; replace s_2 := S.out.c2; replace s_3 := S.out.c3; replace s_l := S.out.lt; replace p_0 := P.out.c 0 rfl; replace p_1 := P.out.c 1 rfl; replace p_2 := P.out.c 2 rfl; replace p_3 := P.out.c 3 rfl; replace p_4 := P.out.c 4 rfl; replace p_5 := P.out.c 5 rfl; replace p_6 := P.out.c 6 rfl; replace p_7 := P.out.c 7 rfl; replace p_8 := P.out.c 8 rfl; replace p_9 := P.out.c 9 rfl; replace p_l := P.out.lt; replace q_0 := Q.out.c 0 rfl; replace q_1 := Q.out.c 1 rfl; replace q_2 := Q.out.c 2 rfl; replace q_3 := Q.out.c 3 rfl; replace q_4 := Q.out.c 4 rfl; replace q_5 := Q.out.c 5 rfl; replace q_6 := Q.out.c 6 rfl; replace q_7 := Q.out.c 7 rfl; replace q_8 := Q.out.c 8 rfl; replace q_9 := Q.out.c 9 rfl; replace q_l := Q.out.lt; clear b2 CR)
      | (go_at_call 20; (with_reducible refine (CS.out _).mono ?_); rintro e w3 ⟨rfl, b3⟩; replace R := Lib.hid (R.out.below b3 R.out.lt); replace S := Lib.hid (S.out.below b3 S.out.lt); replace P := Lib.hid (P.out.below b3 P.out.lt); replace Q := Lib.hid (Q.out.below b3 Q.out.lt); replace BB := Lib.hid (below_more BB.out b3); replace r_0 := R.out.c0; replace r_1 := R.out.c1; replace r_2 := R.out.c2; replace r_3 := R.out.c3; replace r_l := R.out.lt; replace s_0 := S.out.c0; replace s_1 := S.out.c1; replace s_2 := S.out.c2; replace s_3 := S.out.c3; replace s_l := S.out.lt; replace p_0 := P.out.c 0 rfl; replace p_1 := P.out.c 1 rfl; replace p_2 := P.out.c 2 rfl; replace p_3 := P.out.c 3 rfl; replace p_4 := P.out.c 4 rfl; replace p_5 := P.out.c 5 rfl; replace p_6 := P.out.c 6 rfl; replace p_7 := P.out.c 7 rfl; replace p_8 := P.out.c 8 rfl; replace p_9 := P.out.c 9 rfl; replace p_l := P.out.lt; replace q_0 := Q.out.c 0 rfl; replace q_1 := Q.out.c 1 rfl; replace q_2 := Q.out.c 2 rfl; replace q_3 := Q.out.c 3 rfl; replace q_4 := Q.out.c 4 rfl; replace q_5 := Q.out.c 5 rfl; replace q_6 := Q.out.c 6 rfl; replace q_7 := Q.out.c 7 rfl; replace q_8 := Q.out.c 8 rfl; replace q_9 := Q.out.c 9 rfl; replace q_l := Q.out.lt; clear b3 CS)
      | (go_at_call 21; (with_reducible refine (CP.out _).mono ?_); rintro e w4 ⟨rfl, b4⟩; replace R := Lib.hid (R.out.below b4 R.out.lt); replace S := Lib.hid (S.out.below b4 S.out.lt); replace P := Lib.hid (P.out.below b4 P.out.lt); replace Q := Lib.hid (Q.out.below b4 Q.out.lt); replace BB := Lib.hid (below_more BB.out b4); replace r_0 := R.out.c0; replace r_1 := R.out.c1; replace r_2 := R.out.c2; replace r_3 := R.out.c3; replace r_l := R.out.lt; replace s_0 := S.out.c0; replace s_1 := S.out.c1; replace s_2 := S.out.c2; replace s_3 := S.out.c3; replace s_l := S.out.lt; replace p_0 := P.out.c 0 rfl; replace p_1 := P.out.c 1 rfl; replace p_2 := P.out.c 2 rfl; replace p_3 := P.out.c 3 rfl; replace p_4 := P.out.c 4 rfl; replace p_5 := P.out.c 5 rfl; replace p_6 := P.out.c 6 rfl; replace p_7 := P.out.c 7 rfl; replace p_8 := P.out.c 8 rfl; replace p_9 := P.out.c 9 rfl; replace p_l := P.out.lt; replace q_0 := Q.out.c 0 rfl; replace q_1 := Q.out.c 1 rfl; replace q_2 := Q.out.c 2 rfl; replace q_3 := Q.out.c 3 rfl; replace q_4 := Q.out.c 4 rfl; replace q_5 := Q.out.c 5 rfl; replace q_6 := Q.out.c 6 rfl; replace q_7 := Q.out.c 7 rfl; replace q_8 := Q.out.c 8 rfl; replace q_9 := Q.out.c 9 rfl; replace q_l := Q.out.lt; clear b4 CP)
      | (go_at_call 21; (with_reducible refine (CQ.out _).mono ?_); rintro e w5 ⟨rfl, b5⟩; replace R := Lib.hid (R.out.below b5 R.out.lt); replace S := Lib.hid (S.out.below b5 S.out.lt); replace P := Lib.hid (P.out.below b5 P.out.lt); replace Q := Lib.hid (Q.out.below b5 Q.out.lt); replace BB := Lib.hid (below_more BB.out b5); replace r_0 := R.out.c0; replace r_1 := R.out.c1; replace r_2 := R.out.c2; replace r_3 := R.out.c3; replace r_l := R.out.lt; replace s_0 := S.out.c0; replace s_1 := S.out.c1; replace s_2 := S.out.c2; replace s_3 := S.out.c3; replace s_l := S.out.lt; replace p_0 := P.out.c 0 rfl; replace p_1 := P.out.c 1 rfl; replace p_2 := P.out.c 2 rfl; replace p_3 := P.out.c 3 rfl; replace p_4 := P.out.c 4 rfl; replace p_5 := P.out.c 5 rfl; replace p_6 := P.out.c 6 rfl; replace p_7 := P.out.c 7 rfl; replace p_8 := P.out.c 8 rfl; replace p_9 := P.out.c 9 rfl; replace p_l := P.out.lt; replace q_0 := Q.out.c 0 rfl; replace q_1 := Q.out.c 1 rfl; replace q_2 := Q.out.c 2 rfl; replace q_3 := Q.out.c 3 rfl; replace q_4 := Q.out.c 4 rfl; replace q_5 := Q.out.c 5 rfl; replace q_6 := Q.out.c 6 rfl; replace q_7 := Q.out.c 7 rfl; replace q_8 := Q.out.c 8 rfl; replace q_9 := Q.out.c 9 rfl; replace q_l := Q.out.lt; clear b5 CQ)
      | (go_at_call 16; (with_reducible refine (PP.out _).mono ?_); rintro e w6 ⟨ARD, nRD, cRD, rfl, hcRD, hmRD, r6, b6⟩; replace R := Lib.hid (R.out.below b6 R.out.lt); replace S := Lib.hid (S.out.below b6 S.out.lt); replace P := Lib.hid (P.out.below b6 P.out.lt); replace Q := Lib.hid (Q.out.below b6 Q.out.lt); replace BB := Lib.hid (below_more BB.out b6); replace r_0 := R.out.c0; replace r_1 := R.out.c1; replace r_2 := R.out.c2; replace r_3 := R.out.c3; replace r_l := R.out.lt; replace s_0 := S.out.c0; replace s_1 := S.out.c1; replace s_2 := S.out.c2; replace s_3 := S.out.c3; replace s_l := S.out.lt; replace p_0 := P.out.c 0 rfl; replace p_1 := P.out.c 1 rfl; replace p_2 := P.out.c 2 rfl; replace p_3 := P.out.c 3 rfl; replace p_4 := P.out.c 4 rfl; replace p_5 := P.out.c 5 rfl; replace p_6 := P.out.c 6 rfl; replace p_7 := P.out.c 7 rfl; replace p_8 := P.out.c 8 rfl; replace p_9 := P.out.c 9 rfl; replace p_l := P.out.lt; replace q_0 := Q.out.c 0 rfl; replace q_1 := Q.out.c 1 rfl; replace q_2 := Q.out.c 2 rfl; replace q_3 := Q.out.c 3 rfl; replace q_4 := Q.out.c 4 rfl; replace q_5 := Q.out.c 5 rfl; replace q_6 := Q.out.c 6 rfl; replace q_7 := Q.out.c 7 rfl; replace q_8 := Q.out.c 8 rfl; replace q_9 := Q.out.c 9 rfl; replace q_l := Q.out.lt; have RD := Lib.hid r6; clear b6 PP r6)
      | (go_at_call 16; (with_reducible refine (PQ.out _).mono ?_); rintro e w7 ⟨ARE, nRE, cRE, rfl, hcRE, hmRE, r7, b7⟩; replace R := Lib.hid (R.out.below b7 R.out.lt); replace S := Lib.hid (S.out.below b7 S.out.lt); replace P := Lib.hid (P.out.below b7 P.out.lt); replace Q := Lib.hid (Q.out.below b7 Q.out.lt); replace BB := Lib.hid (below_more BB.out b7); replace RD := Lib.hid (RD.out.step b7); replace r_0 := R.out.c0; replace r_1 := R.out.c1; replace r_2 := R.out.c2; replace r_3 := R.out.c3; replace r_l := R.out.lt; replace s_0 := S.out.c0; replace s_1 := S.out.c1; replace s_2 := S.out.c2; replace s_3 := S.out.c3; replace s_l := S.out.lt; replace p_0 := P.out.c 0 rfl; replace p_1 := P.out.c 1 rfl; replace p_2 := P.out.c 2 rfl; replace p_3 := P.out.c 3 rfl; replace p_4 := P.out.c 4 rfl; replace p_5 := P.out.c 5 rfl; replace p_6 := P.out.c 6 rfl; replace p_7 := P.out.c 7 rfl; replace p_8 := P.out.c 8 rfl; replace p_9 := P.out.c 9 rfl; replace p_l := P.out.lt; replace q_0 := Q.out.c 0 rfl; replace q_1 := Q.out.c 1 rfl; replace q_2 := Q.out.c 2 rfl; replace q_3 := Q.out.c 3 rfl; replace q_4 := Q.out.c 4 rfl; replace q_5 := Q.out.c 5 rfl; replace q_6 := Q.out.c 6 rfl; replace q_7 := Q.out.c 7 rfl; replace q_8 := Q.out.c 8 rfl; replace q_9 := Q.out.c 9 rfl; replace q_l := Q.out.lt; have RE := Lib.hid r7; clear b7 PQ r7))
    have BB9 : Hid (Below w.heap.size w w7.drew) := BB.out.drew
    have R9 : Hid (Four w7.drew (w.heap.size) 24 (.int .i64 h0) (.int .i64 a0) (.int .i64 r0) (.int .u64 n0)) := R.out
    have S9 : Hid (Four w7.drew (w.heap.size + 1) 24 (.int .i64 h1) (.int .i64 a1) (.int .i64 r1) (.int .u64 n1)) := S.out
    have P9 : Hid (Cells w7.drew (w.heap.size + 1 + 1) 30 #[.int .i64 a2, .int .i64 h2, .int .i64 r2, .int .u64 n2, .int .i64 l2, .int .i64 g2, .int .i64 k2, .int .i64 t2, .int .i64 c2, .int .i64 s2]) := P.out
    have Q9 : Hid (Cells w7.drew (w.heap.size + 1 + 1 + 1) 30 #[.int .i64 a3, .int .i64 h3, .int .i64 r3, .int .u64 n3, .int .i64 l3, .int .i64 g3, .int .i64 k3, .int .i64 t3, .int .i64 c3, .int .i64 s3]) := Q.out
    have RD9 := Lib.hid (RD.out.step ((Drew.one w7).below w7.heap.size))
    have RE9 := Lib.hid (RE.out.step ((Drew.one w7).below w7.heap.size))
    go_region_held3 (fun w' => w'.cell? ⟨w.heap.size + 1 + 1, 0, none⟩ = some (.int .i64 a2) ∧ w'.cell? ⟨w.heap.size + 1 + 1, 1, none⟩ = some (.int .i64 h2) ∧ w'.cell? ⟨w.heap.size + 1 + 1, 2, none⟩ = some (.int .i64 r2) ∧ w'.cell? ⟨w.heap.size + 1 + 1, 3, none⟩ = some (.int .u64 n2) ∧ w'.cell? ⟨w.heap.size + 1 + 1, 4, none⟩ = some (.int .i64 l2) ∧ w'.cell? ⟨w.heap.size + 1 + 1, 5, none⟩ = some (.int .i64 g2) ∧ w'.cell? ⟨w.heap.size + 1 + 1, 6, none⟩ = some (.int .i64 k2) ∧ w'.cell? ⟨w.heap.size + 1 + 1, 7, none⟩ = some (.int .i64 t2) ∧ w'.cell? ⟨w.heap.size + 1 + 1, 8, none⟩ = some (.int .i64 c2) ∧ w'.cell? ⟨w.heap.size + 1 + 1, 9, none⟩ = some (.int .i64 s2) ∧ w'.cell? ⟨w.heap.size + 1 + 1 + 1, 0, none⟩ = some (.int .i64 a3) ∧ w'.cell? ⟨w.heap.size + 1 + 1 + 1, 1, none⟩ = some (.int .i64 h3) ∧ w'.cell? ⟨w.heap.size + 1 + 1 + 1, 2, none⟩ = some (.int .i64 r3) ∧ w'.cell? ⟨w.heap.size + 1 + 1 + 1, 3, none⟩ = some (.int .u64 n3) ∧ w'.cell? ⟨w.heap.size + 1 + 1 + 1, 4, none⟩ = some (.int .i64 l3) ∧ w'.cell? ⟨w.heap.size + 1 + 1 + 1, 5, none⟩ = some (.int .i64 g3) ∧ w'.cell? ⟨w.heap.size + 1 + 1 + 1, 6, none⟩ = some (.int .i64 k3) ∧ w'.cell? ⟨w.heap.size + 1 + 1 + 1, 7, none⟩ = some (.int .i64 t3) ∧ w'.cell? ⟨w.heap.size + 1 + 1 + 1, 8, none⟩ = some (.int .i64 c3) ∧ w'.cell? ⟨w.heap.size + 1 + 1 + 1, 9, none⟩ = some (.int .i64 s3)) (go_keep)
      ((go_at_call 13; (with_reducible refine (SN.out _ _ _ _ _ _ _ RD9.out RE9.out).mono ?_); rintro e w8 ⟨rfl, b8⟩; replace R := Lib.hid (R9.out.below b8 R9.out.lt); replace S := Lib.hid (S9.out.below b8 S9.out.lt); replace P := Lib.hid (P9.out.below b8 P9.out.lt); replace Q := Lib.hid (Q9.out.below b8 Q9.out.lt); replace BB := Lib.hid (below_more BB9.out b8); replace r_0 := R.out.c0; replace r_1 := R.out.c1; replace r_2 := R.out.c2; replace r_3 := R.out.c3; replace r_l := R.out.lt; replace s_0 := S.out.c0; replace s_1 := S.out.c1; replace s_2 := S.out.c2; replace s_3 := S.out.c3; replace s_l := S.out.lt; replace p_0 := P.out.c 0 rfl; replace p_1 := P.out.c 1 rfl; replace p_2 := P.out.c 2 rfl; replace p_3 := P.out.c 3 rfl; replace p_4 := P.out.c 4 rfl; replace p_5 := P.out.c 5 rfl; replace p_6 := P.out.c 6 rfl; replace p_7 := P.out.c 7 rfl; replace p_8 := P.out.c 8 rfl; replace p_9 := P.out.c 9 rfl; replace p_l := P.out.lt; replace q_0 := Q.out.c 0 rfl; replace q_1 := Q.out.c 1 rfl; replace q_2 := Q.out.c 2 rfl; replace q_3 := Q.out.c 3 rfl; replace q_4 := Q.out.c 4 rfl; replace q_5 := Q.out.c 5 rfl; replace q_6 := Q.out.c 6 rfl; replace q_7 := Q.out.c 7 rfl; replace q_8 := Q.out.c 8 rfl; replace q_9 := Q.out.c 9 rfl; replace q_l := Q.out.lt; clear R9 S9 P9 Q9 BB9 RD9 RE9 b8))
    go_wp2_with fail
    go_ret
    exact ⟨by simp, BB.out⟩
  have CR := Lib.hid (rreq_any r true (by simp [or]))
  have CS := Lib.hid (rreq_any s true (by simp [os]))
  have PR := Lib.hid (G.putq_yes or ir)
  have PS := Lib.hid (G.putq_yes os is)
  have EQ := fun W => eql_rqV r s W
  obtain ⟨xr, hdr⟩ : ∃ x, decide (r = s) = x := ⟨_, rfl⟩
  have SM := Lib.hid (fun A A' n n' c c' w hr hr' => same_c (xs := pkB 1 r.ints) (ys := pkB 1 s.ints) (b := xr) ((q_same or ir os is).trans hdr) A A' n n' c c' w hr hr' (by have := pk_len (k := 1) (ints_in ir) (by simp [Rq.ints]); omega) (by have := pk_len (k := 1) (ints_in is) (by simp [Rq.ints]); omega))
  rw [hdr] at EQ
  generalize pkB 1 r.ints = br at PR SM
  generalize pkB 1 s.ints = bs at PS SM
  clear hdr
  by_cases op : p.Ok
  case neg =>
    have CP := Lib.hid (rrep_any p false (by simp [op]))
    clear G ir is ip iq or os op
    obtain ⟨h0, a0, r0, n0⟩ := r
    obtain ⟨h1, a1, r1, n1⟩ := s
    obtain ⟨a2, h2, r2, n2, l2, g2, k2, t2, c2, s2⟩ := p
    obtain ⟨a3, h3, r3, n3, l3, g3, k3, t3, c3, s3⟩ := q
    unfold rqV at CR CS PR PS EQ ⊢
    unfold rpV at CP ⊢
    dsimp only at CR CS PR PS EQ CP ⊢
    obtain ⟨W, hW⟩ : ∃ W, ((((w.alloc (.cells #[.int .i64 h0, .int .i64 a0, .int .i64 r0, .int .u64 n0] 24)).alloc (.cells #[.int .i64 h1, .int .i64 a1, .int .i64 r1, .int .u64 n1] 24)).alloc (.cells #[.int .i64 a2, .int .i64 h2, .int .i64 r2, .int .u64 n2, .int .i64 l2, .int .i64 g2, .int .i64 k2, .int .i64 t2, .int .i64 c2, .int .i64 s2] 30)).alloc (.cells #[.int .i64 a3, .int .i64 h3, .int .i64 r3, .int .u64 n3, .int .i64 l3, .int .i64 g3, .int .i64 k3, .int .i64 t3, .int .i64 c3, .int .i64 s3] 30)) = W := ⟨_, rfl⟩
    have R : Hid (Four W (w.heap.size) 24 (.int .i64 h0) (.int .i64 a0) (.int .i64 r0) (.int .u64 n0)) := by
      rw [← hW]
      have k := Four.new w 24 (.int .i64 h0) (.int .i64 a0) (.int .i64 r0) (.int .u64 n0)
      exact (((k).alloc _).alloc _).alloc _
    have S : Hid (Four W (w.heap.size + 1) 24 (.int .i64 h1) (.int .i64 a1) (.int .i64 r1) (.int .u64 n1)) := by
      rw [← hW]
      have k := Four.new (w.alloc (.cells #[.int .i64 h0, .int .i64 a0, .int .i64 r0, .int .u64 n0] 24)) 24 (.int .i64 h1) (.int .i64 a1) (.int .i64 r1) (.int .u64 n1)
      rw [show (w.alloc (.cells #[.int .i64 h0, .int .i64 a0, .int .i64 r0, .int .u64 n0] 24)).heap.size = w.heap.size + 1 by simp] at k
      exact ((k).alloc _).alloc _
    have P : Hid (Cells W (w.heap.size + 1 + 1) 30 #[.int .i64 a2, .int .i64 h2, .int .i64 r2, .int .u64 n2, .int .i64 l2, .int .i64 g2, .int .i64 k2, .int .i64 t2, .int .i64 c2, .int .i64 s2]) := by
      rw [← hW]
      have k := Cells.new ((w.alloc (.cells #[.int .i64 h0, .int .i64 a0, .int .i64 r0, .int .u64 n0] 24)).alloc (.cells #[.int .i64 h1, .int .i64 a1, .int .i64 r1, .int .u64 n1] 24)) 30 #[.int .i64 a2, .int .i64 h2, .int .i64 r2, .int .u64 n2, .int .i64 l2, .int .i64 g2, .int .i64 k2, .int .i64 t2, .int .i64 c2, .int .i64 s2]
      rw [show ((w.alloc (.cells #[.int .i64 h0, .int .i64 a0, .int .i64 r0, .int .u64 n0] 24)).alloc (.cells #[.int .i64 h1, .int .i64 a1, .int .i64 r1, .int .u64 n1] 24)).heap.size = w.heap.size + 1 + 1 by simp] at k
      exact (k).alloc _
    have Q : Hid (Cells W (w.heap.size + 1 + 1 + 1) 30 #[.int .i64 a3, .int .i64 h3, .int .i64 r3, .int .u64 n3, .int .i64 l3, .int .i64 g3, .int .i64 k3, .int .i64 t3, .int .i64 c3, .int .i64 s3]) := by
      rw [← hW]
      have k := Cells.new (((w.alloc (.cells #[.int .i64 h0, .int .i64 a0, .int .i64 r0, .int .u64 n0] 24)).alloc (.cells #[.int .i64 h1, .int .i64 a1, .int .i64 r1, .int .u64 n1] 24)).alloc (.cells #[.int .i64 a2, .int .i64 h2, .int .i64 r2, .int .u64 n2, .int .i64 l2, .int .i64 g2, .int .i64 k2, .int .i64 t2, .int .i64 c2, .int .i64 s2] 30)) 30 #[.int .i64 a3, .int .i64 h3, .int .i64 r3, .int .u64 n3, .int .i64 l3, .int .i64 g3, .int .i64 k3, .int .i64 t3, .int .i64 c3, .int .i64 s3]
      rw [show (((w.alloc (.cells #[.int .i64 h0, .int .i64 a0, .int .i64 r0, .int .u64 n0] 24)).alloc (.cells #[.int .i64 h1, .int .i64 a1, .int .i64 r1, .int .u64 n1] 24)).alloc (.cells #[.int .i64 a2, .int .i64 h2, .int .i64 r2, .int .u64 n2, .int .i64 l2, .int .i64 g2, .int .i64 k2, .int .i64 t2, .int .i64 c2, .int .i64 s2] 30)).heap.size = w.heap.size + 1 + 1 + 1 by simp] at k
      exact k
    have BB : Hid (Below w.heap.size w W) := by rw [← hW]; exact (((below_alloc w _).alloc (by simp) _).alloc (by simp; omega) _).alloc (by simp; omega) _
    have r_0 := R.out.c0
    have r_1 := R.out.c1
    have r_2 := R.out.c2
    have r_3 := R.out.c3
    have r_l := R.out.lt
    have s_0 := S.out.c0
    have s_1 := S.out.c1
    have s_2 := S.out.c2
    have s_3 := S.out.c3
    have s_l := S.out.lt
    have p_0 := P.out.c 0 rfl
    have p_1 := P.out.c 1 rfl
    have p_2 := P.out.c 2 rfl
    have p_3 := P.out.c 3 rfl
    have p_4 := P.out.c 4 rfl
    have p_5 := P.out.c 5 rfl
    have p_6 := P.out.c 6 rfl
    have p_7 := P.out.c 7 rfl
    have p_8 := P.out.c 8 rfl
    have p_9 := P.out.c 9 rfl
    have p_l := P.out.lt
    have q_0 := Q.out.c 0 rfl
    have q_1 := Q.out.c 1 rfl
    have q_2 := Q.out.c 2 rfl
    have q_3 := Q.out.c 3 rfl
    have q_4 := Q.out.c 4 rfl
    have q_5 := Q.out.c 5 rfl
    have q_6 := Q.out.c 6 rfl
    have q_7 := Q.out.c 7 rfl
    have q_8 := Q.out.c 8 rfl
    have q_9 := Q.out.c 9 rfl
    have q_l := Q.out.lt
    go_enter Try.func8, Try.ntmps8
    go_wp2_with (first
      | (go_at_call 10; (with_reducible refine (HD.out _).mono ?_); rintro e w1 ⟨rfl, b1⟩; replace R := Lib.hid (R.out.below b1 R.out.lt); replace S := Lib.hid (S.out.below b1 S.out.lt); replace P := Lib.hid (P.out.below b1 P.out.lt); replace Q := Lib.hid (Q.out.below b1 Q.out.lt); replace BB := Lib.hid (below_more BB.out b1); replace r_0 := R.out.c0; replace r_1 := R.out.c1; replace r_2 := R.out.c2; replace r_3 := R.out.c3; replace r_l := R.out.lt; replace s_0 := S.out.c0; replace s_1 := S.out.c1; replace s_2 := S.out.c2; replace s_3 := S.out.c3; replace s_l := S.out.lt; replace p_0 := P.out.c 0 rfl; replace p_1 := P.out.c 1 rfl; replace p_2 := P.out.c 2 rfl; replace p_3 := P.out.c 3 rfl; replace p_4 := P.out.c 4 rfl; replace p_5 := P.out.c 5 rfl; replace p_6 := P.out.c 6 rfl; replace p_7 := P.out.c 7 rfl; replace p_8 := P.out.c 8 rfl; replace p_9 := P.out.c 9 rfl; replace p_l := P.out.lt; replace q_0 := Q.out.c 0 rfl; replace q_1 := Q.out.c 1 rfl; replace q_2 := Q.out.c 2 rfl; replace q_3 := Q.out.c 3 rfl; replace q_4 := Q.out.c 4 rfl; replace q_5 := Q.out.c 5 rfl; replace q_6 := Q.out.c 6 rfl; replace q_7 := Q.out.c 7 rfl; replace q_8 := Q.out.c 8 rfl; replace q_9 := Q.out.c 9 rfl; replace q_l := Q.out.lt; clear b1 HD)
      | (go_at_call 20; (with_reducible refine (CR.out _).mono ?_); rintro e w2 ⟨rfl, b2⟩; replace R := Lib.hid (R.out.below b2 R.out.lt); replace S := Lib.hid (S.out.below b2 S.out.lt); replace P := Lib.hid (P.out.below b2 P.out.lt); replace Q := Lib.hid (Q.out.below b2 Q.out.lt); replace BB := Lib.hid (below_more BB.out b2); replace r_0 := R.out.c0; replace r_1 := R.out.c1; replace r_2 := R.out.c2; replace r_3 := R.out.c3; replace r_l := R.out.lt; replace s_0 := S.out.c0; replace s_1 := S.out.c1; replace s_2 := S.out.c2; replace s_3 := S.out.c3; replace s_l := S.out.lt; replace p_0 := P.out.c 0 rfl; replace p_1 := P.out.c 1 rfl; replace p_2 := P.out.c 2 rfl; replace p_3 := P.out.c 3 rfl; replace p_4 := P.out.c 4 rfl; replace p_5 := P.out.c 5 rfl; replace p_6 := P.out.c 6 rfl; replace p_7 := P.out.c 7 rfl; replace p_8 := P.out.c 8 rfl; replace p_9 := P.out.c 9 rfl; replace p_l := P.out.lt; replace q_0 := Q.out.c 0 rfl; replace q_1 := Q.out.c 1 rfl; replace q_2 := Q.out.c 2 rfl; replace q_3 := Q.out.c 3 rfl; replace q_4 := Q.out.c 4 rfl; replace q_5 := Q.out.c 5 rfl; replace q_6 := Q.out.c 6 rfl; replace q_7 := Q.out.c 7 rfl; replace q_8 := Q.out.c 8 rfl; replace q_9 := Q.out.c 9 rfl; replace q_l := Q.out.lt; clear b2 CR)
      | (go_at_call 20; (with_reducible refine (CS.out _).mono ?_); rintro e w3 ⟨rfl, b3⟩; replace R := Lib.hid (R.out.below b3 R.out.lt); replace S := Lib.hid (S.out.below b3 S.out.lt); replace P := Lib.hid (P.out.below b3 P.out.lt); replace Q := Lib.hid (Q.out.below b3 Q.out.lt); replace BB := Lib.hid (below_more BB.out b3); replace r_0 := R.out.c0; replace r_1 := R.out.c1; replace r_2 := R.out.c2; replace r_3 := R.out.c3; replace r_l := R.out.lt; replace s_0 := S.out.c0; replace s_1 := S.out.c1; replace s_2 := S.out.c2; replace s_3 := S.out.c3; replace s_l := S.out.lt; replace p_0 := P.out.c 0 rfl; replace p_1 := P.out.c 1 rfl; replace p_2 := P.out.c 2 rfl; replace p_3 := P.out.c 3 rfl; replace p_4 := P.out.c 4 rfl; replace p_5 := P.out.c 5 rfl; replace p_6 := P.out.c 6 rfl; replace p_7 := P.out.c 7 rfl; replace p_8 := P.out.c 8 rfl; replace p_9 := P.out.c 9 rfl; replace p_l := P.out.lt; replace q_0 := Q.out.c 0 rfl; replace q_1 := Q.out.c 1 rfl; replace q_2 := Q.out.c 2 rfl; replace q_3 := Q.out.c 3 rfl; replace q_4 := Q.out.c 4 rfl; replace q_5 := Q.out.c 5 rfl; replace q_6 := Q.out.c 6 rfl; replace q_7 := Q.out.c 7 rfl; replace q_8 := Q.out.c 8 rfl; replace q_9 := Q.out.c 9 rfl; replace q_l := Q.out.lt; clear b3 CS)
      | (go_at_call 11; (with_reducible refine (PR.out _).mono ?_); rintro e w4 ⟨ARB, nRB, cRB, rfl, hcRB, hmRB, r4, b4⟩; replace R := Lib.hid (R.out.below b4 R.out.lt); replace S := Lib.hid (S.out.below b4 S.out.lt); replace P := Lib.hid (P.out.below b4 P.out.lt); replace Q := Lib.hid (Q.out.below b4 Q.out.lt); replace BB := Lib.hid (below_more BB.out b4); replace r_0 := R.out.c0; replace r_1 := R.out.c1; replace r_2 := R.out.c2; replace r_3 := R.out.c3; replace r_l := R.out.lt; replace s_0 := S.out.c0; replace s_1 := S.out.c1; replace s_2 := S.out.c2; replace s_3 := S.out.c3; replace s_l := S.out.lt; replace p_0 := P.out.c 0 rfl; replace p_1 := P.out.c 1 rfl; replace p_2 := P.out.c 2 rfl; replace p_3 := P.out.c 3 rfl; replace p_4 := P.out.c 4 rfl; replace p_5 := P.out.c 5 rfl; replace p_6 := P.out.c 6 rfl; replace p_7 := P.out.c 7 rfl; replace p_8 := P.out.c 8 rfl; replace p_9 := P.out.c 9 rfl; replace p_l := P.out.lt; replace q_0 := Q.out.c 0 rfl; replace q_1 := Q.out.c 1 rfl; replace q_2 := Q.out.c 2 rfl; replace q_3 := Q.out.c 3 rfl; replace q_4 := Q.out.c 4 rfl; replace q_5 := Q.out.c 5 rfl; replace q_6 := Q.out.c 6 rfl; replace q_7 := Q.out.c 7 rfl; replace q_8 := Q.out.c 8 rfl; replace q_9 := Q.out.c 9 rfl; replace q_l := Q.out.lt; have RB := Lib.hid r4; clear b4 PR r4)
      | (go_at_call 11; (with_reducible refine (PS.out _).mono ?_); rintro e w5 ⟨ARC, nRC, cRC, rfl, hcRC, hmRC, r5, b5⟩; replace R := Lib.hid (R.out.below b5 R.out.lt); replace S := Lib.hid (S.out.below b5 S.out.lt); replace P := Lib.hid (P.out.below b5 P.out.lt); replace Q := Lib.hid (Q.out.below b5 Q.out.lt); replace BB := Lib.hid (below_more BB.out b5); replace RB := Lib.hid (RB.out.step b5); replace r_0 := R.out.c0; replace r_1 := R.out.c1; replace r_2 := R.out.c2; replace r_3 := R.out.c3; replace r_l := R.out.lt; replace s_0 := S.out.c0; replace s_1 := S.out.c1; replace s_2 := S.out.c2; replace s_3 := S.out.c3; replace s_l := S.out.lt; replace p_0 := P.out.c 0 rfl; replace p_1 := P.out.c 1 rfl; replace p_2 := P.out.c 2 rfl; replace p_3 := P.out.c 3 rfl; replace p_4 := P.out.c 4 rfl; replace p_5 := P.out.c 5 rfl; replace p_6 := P.out.c 6 rfl; replace p_7 := P.out.c 7 rfl; replace p_8 := P.out.c 8 rfl; replace p_9 := P.out.c 9 rfl; replace p_l := P.out.lt; replace q_0 := Q.out.c 0 rfl; replace q_1 := Q.out.c 1 rfl; replace q_2 := Q.out.c 2 rfl; replace q_3 := Q.out.c 3 rfl; replace q_4 := Q.out.c 4 rfl; replace q_5 := Q.out.c 5 rfl; replace q_6 := Q.out.c 6 rfl; replace q_7 := Q.out.c 7 rfl; replace q_8 := Q.out.c 8 rfl; replace q_9 := Q.out.c 9 rfl; replace q_l := Q.out.lt; have RC := Lib.hid r5; clear b5 PS r5))
    have BB9 : Hid (Below w.heap.size w w5.drew) := BB.out.drew
    have R9 : Hid (Four w5.drew (w.heap.size) 24 (.int .i64 h0) (.int .i64 a0) (.int .i64 r0) (.int .u64 n0)) := R.out
    have S9 : Hid (Four w5.drew (w.heap.size + 1) 24 (.int .i64 h1) (.int .i64 a1) (.int .i64 r1) (.int .u64 n1)) := S.out
    have P9 : Hid (Cells w5.drew (w.heap.size + 1 + 1) 30 #[.int .i64 a2, .int .i64 h2, .int .i64 r2, .int .u64 n2, .int .i64 l2, .int .i64 g2, .int .i64 k2, .int .i64 t2, .int .i64 c2, .int .i64 s2]) := P.out
    have Q9 : Hid (Cells w5.drew (w.heap.size + 1 + 1 + 1) 30 #[.int .i64 a3, .int .i64 h3, .int .i64 r3, .int .u64 n3, .int .i64 l3, .int .i64 g3, .int .i64 k3, .int .i64 t3, .int .i64 c3, .int .i64 s3]) := Q.out
    have RB9 := Lib.hid (RB.out.step ((Drew.one w5).below w5.heap.size))
    have RC9 := Lib.hid (RC.out.step ((Drew.one w5).below w5.heap.size))
    go_region_held3 (fun w' => w'.cell? ⟨w.heap.size, 0, none⟩ = some (.int .i64 h0) ∧ w'.cell? ⟨w.heap.size, 1, none⟩ = some (.int .i64 a0) ∧ w'.cell? ⟨w.heap.size, 2, none⟩ = some (.int .i64 r0) ∧ w'.cell? ⟨w.heap.size, 3, none⟩ = some (.int .u64 n0) ∧ w'.cell? ⟨w.heap.size + 1, 0, none⟩ = some (.int .i64 h1) ∧ w'.cell? ⟨w.heap.size + 1, 1, none⟩ = some (.int .i64 a1) ∧ w'.cell? ⟨w.heap.size + 1, 2, none⟩ = some (.int .i64 r1) ∧ w'.cell? ⟨w.heap.size + 1, 3, none⟩ = some (.int .u64 n1)) (go_keep)
      ((go_at_call 13; (with_reducible refine (SM.out _ _ _ _ _ _ _ RB9.out RC9.out).mono ?_); rintro e w6 ⟨rfl, b6⟩; replace R := Lib.hid (R9.out.below b6 R9.out.lt); replace S := Lib.hid (S9.out.below b6 S9.out.lt); replace P := Lib.hid (P9.out.below b6 P9.out.lt); replace Q := Lib.hid (Q9.out.below b6 Q9.out.lt); replace BB := Lib.hid (below_more BB9.out b6); replace r_0 := R.out.c0; replace r_1 := R.out.c1; replace r_2 := R.out.c2; replace r_3 := R.out.c3; replace r_l := R.out.lt; replace s_0 := S.out.c0; replace s_1 := S.out.c1; replace s_2 := S.out.c2; replace s_3 := S.out.c3; replace s_l := S.out.lt; replace p_0 := P.out.c 0 rfl; replace p_1 := P.out.c 1 rfl; replace p_2 := P.out.c 2 rfl; replace p_3 := P.out.c 3 rfl; replace p_4 := P.out.c 4 rfl; replace p_5 := P.out.c 5 rfl; replace p_6 := P.out.c 6 rfl; replace p_7 := P.out.c 7 rfl; replace p_8 := P.out.c 8 rfl; replace p_9 := P.out.c 9 rfl; replace p_l := P.out.lt; replace q_0 := Q.out.c 0 rfl; replace q_1 := Q.out.c 1 rfl; replace q_2 := Q.out.c 2 rfl; replace q_3 := Q.out.c 3 rfl; replace q_4 := Q.out.c 4 rfl; replace q_5 := Q.out.c 5 rfl; replace q_6 := Q.out.c 6 rfl; replace q_7 := Q.out.c 7 rfl; replace q_8 := Q.out.c 8 rfl; replace q_9 := Q.out.c 9 rfl; replace q_l := Q.out.lt; clear R9 S9 P9 Q9 BB9 RB9 RC9 b6))
    go_wp2_with (go_at_call 21; (with_reducible refine (CP.out _).mono ?_); rintro e w7 ⟨rfl, b7⟩; replace R := Lib.hid (R.out.below b7 R.out.lt); replace S := Lib.hid (S.out.below b7 S.out.lt); replace P := Lib.hid (P.out.below b7 P.out.lt); replace Q := Lib.hid (Q.out.below b7 Q.out.lt); replace BB := Lib.hid (below_more BB.out b7); replace r_0 := R.out.c0; replace r_1 := R.out.c1; replace r_2 := R.out.c2; replace r_3 := R.out.c3; replace r_l := R.out.lt; replace s_0 := S.out.c0; replace s_1 := S.out.c1; replace s_2 := S.out.c2; replace s_3 := S.out.c3; replace s_l := S.out.lt; replace p_0 := P.out.c 0 rfl; replace p_1 := P.out.c 1 rfl; replace p_2 := P.out.c 2 rfl; replace p_3 := P.out.c 3 rfl; replace p_4 := P.out.c 4 rfl; replace p_5 := P.out.c 5 rfl; replace p_6 := P.out.c 6 rfl; replace p_7 := P.out.c 7 rfl; replace p_8 := P.out.c 8 rfl; replace p_9 := P.out.c 9 rfl; replace p_l := P.out.lt; replace q_0 := Q.out.c 0 rfl; replace q_1 := Q.out.c 1 rfl; replace q_2 := Q.out.c 2 rfl; replace q_3 := Q.out.c 3 rfl; replace q_4 := Q.out.c 4 rfl; replace q_5 := Q.out.c 5 rfl; replace q_6 := Q.out.c 6 rfl; replace q_7 := Q.out.c 7 rfl; replace q_8 := Q.out.c 8 rfl; replace q_9 := Q.out.c 9 rfl; replace q_l := Q.out.lt; clear b7 CP)
    go_ret
    exact ⟨by simp, BB.out⟩
  by_cases oq : q.Ok
  case neg =>
    have CP := Lib.hid (rrep_any p true (by simp [op]))
    have CQ := Lib.hid (rrep_any q false (by simp [oq]))
    clear G ir is ip iq or os op oq
    obtain ⟨h0, a0, r0, n0⟩ := r
    obtain ⟨h1, a1, r1, n1⟩ := s
    obtain ⟨a2, h2, r2, n2, l2, g2, k2, t2, c2, s2⟩ := p
    obtain ⟨a3, h3, r3, n3, l3, g3, k3, t3, c3, s3⟩ := q
    unfold rqV at CR CS PR PS EQ ⊢
    unfold rpV at CP CQ ⊢
    dsimp only at CR CS PR PS EQ CP CQ ⊢
    obtain ⟨W, hW⟩ : ∃ W, ((((w.alloc (.cells #[.int .i64 h0, .int .i64 a0, .int .i64 r0, .int .u64 n0] 24)).alloc (.cells #[.int .i64 h1, .int .i64 a1, .int .i64 r1, .int .u64 n1] 24)).alloc (.cells #[.int .i64 a2, .int .i64 h2, .int .i64 r2, .int .u64 n2, .int .i64 l2, .int .i64 g2, .int .i64 k2, .int .i64 t2, .int .i64 c2, .int .i64 s2] 30)).alloc (.cells #[.int .i64 a3, .int .i64 h3, .int .i64 r3, .int .u64 n3, .int .i64 l3, .int .i64 g3, .int .i64 k3, .int .i64 t3, .int .i64 c3, .int .i64 s3] 30)) = W := ⟨_, rfl⟩
    have R : Hid (Four W (w.heap.size) 24 (.int .i64 h0) (.int .i64 a0) (.int .i64 r0) (.int .u64 n0)) := by
      rw [← hW]
      have k := Four.new w 24 (.int .i64 h0) (.int .i64 a0) (.int .i64 r0) (.int .u64 n0)
      exact (((k).alloc _).alloc _).alloc _
    have S : Hid (Four W (w.heap.size + 1) 24 (.int .i64 h1) (.int .i64 a1) (.int .i64 r1) (.int .u64 n1)) := by
      rw [← hW]
      have k := Four.new (w.alloc (.cells #[.int .i64 h0, .int .i64 a0, .int .i64 r0, .int .u64 n0] 24)) 24 (.int .i64 h1) (.int .i64 a1) (.int .i64 r1) (.int .u64 n1)
      rw [show (w.alloc (.cells #[.int .i64 h0, .int .i64 a0, .int .i64 r0, .int .u64 n0] 24)).heap.size = w.heap.size + 1 by simp] at k
      exact ((k).alloc _).alloc _
    have P : Hid (Cells W (w.heap.size + 1 + 1) 30 #[.int .i64 a2, .int .i64 h2, .int .i64 r2, .int .u64 n2, .int .i64 l2, .int .i64 g2, .int .i64 k2, .int .i64 t2, .int .i64 c2, .int .i64 s2]) := by
      rw [← hW]
      have k := Cells.new ((w.alloc (.cells #[.int .i64 h0, .int .i64 a0, .int .i64 r0, .int .u64 n0] 24)).alloc (.cells #[.int .i64 h1, .int .i64 a1, .int .i64 r1, .int .u64 n1] 24)) 30 #[.int .i64 a2, .int .i64 h2, .int .i64 r2, .int .u64 n2, .int .i64 l2, .int .i64 g2, .int .i64 k2, .int .i64 t2, .int .i64 c2, .int .i64 s2]
      rw [show ((w.alloc (.cells #[.int .i64 h0, .int .i64 a0, .int .i64 r0, .int .u64 n0] 24)).alloc (.cells #[.int .i64 h1, .int .i64 a1, .int .i64 r1, .int .u64 n1] 24)).heap.size = w.heap.size + 1 + 1 by simp] at k
      exact (k).alloc _
    have Q : Hid (Cells W (w.heap.size + 1 + 1 + 1) 30 #[.int .i64 a3, .int .i64 h3, .int .i64 r3, .int .u64 n3, .int .i64 l3, .int .i64 g3, .int .i64 k3, .int .i64 t3, .int .i64 c3, .int .i64 s3]) := by
      rw [← hW]
      have k := Cells.new (((w.alloc (.cells #[.int .i64 h0, .int .i64 a0, .int .i64 r0, .int .u64 n0] 24)).alloc (.cells #[.int .i64 h1, .int .i64 a1, .int .i64 r1, .int .u64 n1] 24)).alloc (.cells #[.int .i64 a2, .int .i64 h2, .int .i64 r2, .int .u64 n2, .int .i64 l2, .int .i64 g2, .int .i64 k2, .int .i64 t2, .int .i64 c2, .int .i64 s2] 30)) 30 #[.int .i64 a3, .int .i64 h3, .int .i64 r3, .int .u64 n3, .int .i64 l3, .int .i64 g3, .int .i64 k3, .int .i64 t3, .int .i64 c3, .int .i64 s3]
      rw [show (((w.alloc (.cells #[.int .i64 h0, .int .i64 a0, .int .i64 r0, .int .u64 n0] 24)).alloc (.cells #[.int .i64 h1, .int .i64 a1, .int .i64 r1, .int .u64 n1] 24)).alloc (.cells #[.int .i64 a2, .int .i64 h2, .int .i64 r2, .int .u64 n2, .int .i64 l2, .int .i64 g2, .int .i64 k2, .int .i64 t2, .int .i64 c2, .int .i64 s2] 30)).heap.size = w.heap.size + 1 + 1 + 1 by simp] at k
      exact k
    have BB : Hid (Below w.heap.size w W) := by rw [← hW]; exact (((below_alloc w _).alloc (by simp) _).alloc (by simp; omega) _).alloc (by simp; omega) _
    have r_0 := R.out.c0
    have r_1 := R.out.c1
    have r_2 := R.out.c2
    have r_3 := R.out.c3
    have r_l := R.out.lt
    have s_0 := S.out.c0
    have s_1 := S.out.c1
    have s_2 := S.out.c2
    have s_3 := S.out.c3
    have s_l := S.out.lt
    have p_0 := P.out.c 0 rfl
    have p_1 := P.out.c 1 rfl
    have p_2 := P.out.c 2 rfl
    have p_3 := P.out.c 3 rfl
    have p_4 := P.out.c 4 rfl
    have p_5 := P.out.c 5 rfl
    have p_6 := P.out.c 6 rfl
    have p_7 := P.out.c 7 rfl
    have p_8 := P.out.c 8 rfl
    have p_9 := P.out.c 9 rfl
    have p_l := P.out.lt
    have q_0 := Q.out.c 0 rfl
    have q_1 := Q.out.c 1 rfl
    have q_2 := Q.out.c 2 rfl
    have q_3 := Q.out.c 3 rfl
    have q_4 := Q.out.c 4 rfl
    have q_5 := Q.out.c 5 rfl
    have q_6 := Q.out.c 6 rfl
    have q_7 := Q.out.c 7 rfl
    have q_8 := Q.out.c 8 rfl
    have q_9 := Q.out.c 9 rfl
    have q_l := Q.out.lt
    go_enter Try.func8, Try.ntmps8
    go_wp2_with (first
      | (go_at_call 10; (with_reducible refine (HD.out _).mono ?_); rintro e w1 ⟨rfl, b1⟩; replace R := Lib.hid (R.out.below b1 R.out.lt); replace S := Lib.hid (S.out.below b1 S.out.lt); replace P := Lib.hid (P.out.below b1 P.out.lt); replace Q := Lib.hid (Q.out.below b1 Q.out.lt); replace BB := Lib.hid (below_more BB.out b1); replace r_0 := R.out.c0; replace r_1 := R.out.c1; replace r_2 := R.out.c2; replace r_3 := R.out.c3; replace r_l := R.out.lt; replace s_0 := S.out.c0; replace s_1 := S.out.c1; replace s_2 := S.out.c2; replace s_3 := S.out.c3; replace s_l := S.out.lt; replace p_0 := P.out.c 0 rfl; replace p_1 := P.out.c 1 rfl; replace p_2 := P.out.c 2 rfl; replace p_3 := P.out.c 3 rfl; replace p_4 := P.out.c 4 rfl; replace p_5 := P.out.c 5 rfl; replace p_6 := P.out.c 6 rfl; replace p_7 := P.out.c 7 rfl; replace p_8 := P.out.c 8 rfl; replace p_9 := P.out.c 9 rfl; replace p_l := P.out.lt; replace q_0 := Q.out.c 0 rfl; replace q_1 := Q.out.c 1 rfl; replace q_2 := Q.out.c 2 rfl; replace q_3 := Q.out.c 3 rfl; replace q_4 := Q.out.c 4 rfl; replace q_5 := Q.out.c 5 rfl; replace q_6 := Q.out.c 6 rfl; replace q_7 := Q.out.c 7 rfl; replace q_8 := Q.out.c 8 rfl; replace q_9 := Q.out.c 9 rfl; replace q_l := Q.out.lt; clear b1 HD)
      | (go_at_call 20; (with_reducible refine (CR.out _).mono ?_); rintro e w2 ⟨rfl, b2⟩; replace R := Lib.hid (R.out.below b2 R.out.lt); replace S := Lib.hid (S.out.below b2 S.out.lt); replace P := Lib.hid (P.out.below b2 P.out.lt); replace Q := Lib.hid (Q.out.below b2 Q.out.lt); replace BB := Lib.hid (below_more BB.out b2); replace r_0 := R.out.c0; replace r_1 := R.out.c1; replace r_2 := R.out.c2; replace r_3 := R.out.c3; replace r_l := R.out.lt; replace s_0 := S.out.c0; replace s_1 := S.out.c1; replace s_2 := S.out.c2; replace s_3 := S.out.c3; replace s_l := S.out.lt; replace p_0 := P.out.c 0 rfl; replace p_1 := P.out.c 1 rfl; replace p_2 := P.out.c 2 rfl; replace p_3 := P.out.c 3 rfl; replace p_4 := P.out.c 4 rfl; replace p_5 := P.out.c 5 rfl; replace p_6 := P.out.c 6 rfl; replace p_7 := P.out.c 7 rfl; replace p_8 := P.out.c 8 rfl; replace p_9 := P.out.c 9 rfl; replace p_l := P.out.lt; replace q_0 := Q.out.c 0 rfl; replace q_1 := Q.out.c 1 rfl; replace q_2 := Q.out.c 2 rfl; replace q_3 := Q.out.c 3 rfl; replace q_4 := Q.out.c 4 rfl; replace q_5 := Q.out.c 5 rfl; replace q_6 := Q.out.c 6 rfl; replace q_7 := Q.out.c 7 rfl; replace q_8 := Q.out.c 8 rfl; replace q_9 := Q.out.c 9 rfl; replace q_l := Q.out.lt; clear b2 CR)
      | (go_at_call 20; (with_reducible refine (CS.out _).mono ?_); rintro e w3 ⟨rfl, b3⟩; replace R := Lib.hid (R.out.below b3 R.out.lt); replace S := Lib.hid (S.out.below b3 S.out.lt); replace P := Lib.hid (P.out.below b3 P.out.lt); replace Q := Lib.hid (Q.out.below b3 Q.out.lt); replace BB := Lib.hid (below_more BB.out b3); replace r_0 := R.out.c0; replace r_1 := R.out.c1; replace r_2 := R.out.c2; replace r_3 := R.out.c3; replace r_l := R.out.lt; replace s_0 := S.out.c0; replace s_1 := S.out.c1; replace s_2 := S.out.c2; replace s_3 := S.out.c3; replace s_l := S.out.lt; replace p_0 := P.out.c 0 rfl; replace p_1 := P.out.c 1 rfl; replace p_2 := P.out.c 2 rfl; replace p_3 := P.out.c 3 rfl; replace p_4 := P.out.c 4 rfl; replace p_5 := P.out.c 5 rfl; replace p_6 := P.out.c 6 rfl; replace p_7 := P.out.c 7 rfl; replace p_8 := P.out.c 8 rfl; replace p_9 := P.out.c 9 rfl; replace p_l := P.out.lt; replace q_0 := Q.out.c 0 rfl; replace q_1 := Q.out.c 1 rfl; replace q_2 := Q.out.c 2 rfl; replace q_3 := Q.out.c 3 rfl; replace q_4 := Q.out.c 4 rfl; replace q_5 := Q.out.c 5 rfl; replace q_6 := Q.out.c 6 rfl; replace q_7 := Q.out.c 7 rfl; replace q_8 := Q.out.c 8 rfl; replace q_9 := Q.out.c 9 rfl; replace q_l := Q.out.lt; clear b3 CS)
      | (go_at_call 11; (with_reducible refine (PR.out _).mono ?_); rintro e w4 ⟨ARB, nRB, cRB, rfl, hcRB, hmRB, r4, b4⟩; replace R := Lib.hid (R.out.below b4 R.out.lt); replace S := Lib.hid (S.out.below b4 S.out.lt); replace P := Lib.hid (P.out.below b4 P.out.lt); replace Q := Lib.hid (Q.out.below b4 Q.out.lt); replace BB := Lib.hid (below_more BB.out b4); replace r_0 := R.out.c0; replace r_1 := R.out.c1; replace r_2 := R.out.c2; replace r_3 := R.out.c3; replace r_l := R.out.lt; replace s_0 := S.out.c0; replace s_1 := S.out.c1; replace s_2 := S.out.c2; replace s_3 := S.out.c3; replace s_l := S.out.lt; replace p_0 := P.out.c 0 rfl; replace p_1 := P.out.c 1 rfl; replace p_2 := P.out.c 2 rfl; replace p_3 := P.out.c 3 rfl; replace p_4 := P.out.c 4 rfl; replace p_5 := P.out.c 5 rfl; replace p_6 := P.out.c 6 rfl; replace p_7 := P.out.c 7 rfl; replace p_8 := P.out.c 8 rfl; replace p_9 := P.out.c 9 rfl; replace p_l := P.out.lt; replace q_0 := Q.out.c 0 rfl; replace q_1 := Q.out.c 1 rfl; replace q_2 := Q.out.c 2 rfl; replace q_3 := Q.out.c 3 rfl; replace q_4 := Q.out.c 4 rfl; replace q_5 := Q.out.c 5 rfl; replace q_6 := Q.out.c 6 rfl; replace q_7 := Q.out.c 7 rfl; replace q_8 := Q.out.c 8 rfl; replace q_9 := Q.out.c 9 rfl; replace q_l := Q.out.lt; have RB := Lib.hid r4; clear b4 PR r4)
      | (go_at_call 11; (with_reducible refine (PS.out _).mono ?_); rintro e w5 ⟨ARC, nRC, cRC, rfl, hcRC, hmRC, r5, b5⟩; replace R := Lib.hid (R.out.below b5 R.out.lt); replace S := Lib.hid (S.out.below b5 S.out.lt); replace P := Lib.hid (P.out.below b5 P.out.lt); replace Q := Lib.hid (Q.out.below b5 Q.out.lt); replace BB := Lib.hid (below_more BB.out b5); replace RB := Lib.hid (RB.out.step b5); replace r_0 := R.out.c0; replace r_1 := R.out.c1; replace r_2 := R.out.c2; replace r_3 := R.out.c3; replace r_l := R.out.lt; replace s_0 := S.out.c0; replace s_1 := S.out.c1; replace s_2 := S.out.c2; replace s_3 := S.out.c3; replace s_l := S.out.lt; replace p_0 := P.out.c 0 rfl; replace p_1 := P.out.c 1 rfl; replace p_2 := P.out.c 2 rfl; replace p_3 := P.out.c 3 rfl; replace p_4 := P.out.c 4 rfl; replace p_5 := P.out.c 5 rfl; replace p_6 := P.out.c 6 rfl; replace p_7 := P.out.c 7 rfl; replace p_8 := P.out.c 8 rfl; replace p_9 := P.out.c 9 rfl; replace p_l := P.out.lt; replace q_0 := Q.out.c 0 rfl; replace q_1 := Q.out.c 1 rfl; replace q_2 := Q.out.c 2 rfl; replace q_3 := Q.out.c 3 rfl; replace q_4 := Q.out.c 4 rfl; replace q_5 := Q.out.c 5 rfl; replace q_6 := Q.out.c 6 rfl; replace q_7 := Q.out.c 7 rfl; replace q_8 := Q.out.c 8 rfl; replace q_9 := Q.out.c 9 rfl; replace q_l := Q.out.lt; have RC := Lib.hid r5; clear b5 PS r5))
    have BB9 : Hid (Below w.heap.size w w5.drew) := BB.out.drew
    have R9 : Hid (Four w5.drew (w.heap.size) 24 (.int .i64 h0) (.int .i64 a0) (.int .i64 r0) (.int .u64 n0)) := R.out
    have S9 : Hid (Four w5.drew (w.heap.size + 1) 24 (.int .i64 h1) (.int .i64 a1) (.int .i64 r1) (.int .u64 n1)) := S.out
    have P9 : Hid (Cells w5.drew (w.heap.size + 1 + 1) 30 #[.int .i64 a2, .int .i64 h2, .int .i64 r2, .int .u64 n2, .int .i64 l2, .int .i64 g2, .int .i64 k2, .int .i64 t2, .int .i64 c2, .int .i64 s2]) := P.out
    have Q9 : Hid (Cells w5.drew (w.heap.size + 1 + 1 + 1) 30 #[.int .i64 a3, .int .i64 h3, .int .i64 r3, .int .u64 n3, .int .i64 l3, .int .i64 g3, .int .i64 k3, .int .i64 t3, .int .i64 c3, .int .i64 s3]) := Q.out
    have RB9 := Lib.hid (RB.out.step ((Drew.one w5).below w5.heap.size))
    have RC9 := Lib.hid (RC.out.step ((Drew.one w5).below w5.heap.size))
    go_region_held3 (fun w' => w'.cell? ⟨w.heap.size, 0, none⟩ = some (.int .i64 h0) ∧ w'.cell? ⟨w.heap.size, 1, none⟩ = some (.int .i64 a0) ∧ w'.cell? ⟨w.heap.size, 2, none⟩ = some (.int .i64 r0) ∧ w'.cell? ⟨w.heap.size, 3, none⟩ = some (.int .u64 n0) ∧ w'.cell? ⟨w.heap.size + 1, 0, none⟩ = some (.int .i64 h1) ∧ w'.cell? ⟨w.heap.size + 1, 1, none⟩ = some (.int .i64 a1) ∧ w'.cell? ⟨w.heap.size + 1, 2, none⟩ = some (.int .i64 r1) ∧ w'.cell? ⟨w.heap.size + 1, 3, none⟩ = some (.int .u64 n1)) (go_keep)
      ((go_at_call 13; (with_reducible refine (SM.out _ _ _ _ _ _ _ RB9.out RC9.out).mono ?_); rintro e w6 ⟨rfl, b6⟩; replace R := Lib.hid (R9.out.below b6 R9.out.lt); replace S := Lib.hid (S9.out.below b6 S9.out.lt); replace P := Lib.hid (P9.out.below b6 P9.out.lt); replace Q := Lib.hid (Q9.out.below b6 Q9.out.lt); replace BB := Lib.hid (below_more BB9.out b6); replace r_0 := R.out.c0; replace r_1 := R.out.c1; replace r_2 := R.out.c2; replace r_3 := R.out.c3; replace r_l := R.out.lt; replace s_0 := S.out.c0; replace s_1 := S.out.c1; replace s_2 := S.out.c2; replace s_3 := S.out.c3; replace s_l := S.out.lt; replace p_0 := P.out.c 0 rfl; replace p_1 := P.out.c 1 rfl; replace p_2 := P.out.c 2 rfl; replace p_3 := P.out.c 3 rfl; replace p_4 := P.out.c 4 rfl; replace p_5 := P.out.c 5 rfl; replace p_6 := P.out.c 6 rfl; replace p_7 := P.out.c 7 rfl; replace p_8 := P.out.c 8 rfl; replace p_9 := P.out.c 9 rfl; replace p_l := P.out.lt; replace q_0 := Q.out.c 0 rfl; replace q_1 := Q.out.c 1 rfl; replace q_2 := Q.out.c 2 rfl; replace q_3 := Q.out.c 3 rfl; replace q_4 := Q.out.c 4 rfl; replace q_5 := Q.out.c 5 rfl; replace q_6 := Q.out.c 6 rfl; replace q_7 := Q.out.c 7 rfl; replace q_8 := Q.out.c 8 rfl; replace q_9 := Q.out.c 9 rfl; replace q_l := Q.out.lt; clear R9 S9 P9 Q9 BB9 RB9 RC9 b6))
    go_wp2_with (first
      | (go_at_call 21; (with_reducible refine (CP.out _).mono ?_); rintro e w7 ⟨rfl, b7⟩; replace R := Lib.hid (R.out.below b7 R.out.lt); replace S := Lib.hid (S.out.below b7 S.out.lt); replace P := Lib.hid (P.out.below b7 P.out.lt); replace Q := Lib.hid (Q.out.below b7 Q.out.lt); replace BB := Lib.hid (below_more BB.out b7); replace r_0 := R.out.c0; replace r_1 := R.out.c1; replace r_2 := R.out.c2; replace r_3 := R.out.c3; replace r_l := R.out.lt; replace s_0 := S.out.c0; replace s_1 := S.out.c1; replace s_2 := S.out.c2; replace s_3 := S.out.c3; replace s_l := S.out.lt; replace p_0 := P.out.c 0 rfl; replace p_1 := P.out.c 1 rfl; replace p_2 := P.out.c 2 rfl; replace p_3 := P.out.c 3 rfl; replace p_4 := P.out.c 4 rfl; replace p_5 := P.out.c 5 rfl; replace p_6 := P.out.c 6 rfl; replace p_7 := P.out.c 7 rfl; replace p_8 := P.out.c 8 rfl; replace p_9 := P.out.c 9 rfl; replace p_l := P.out.lt; replace q_0 := Q.out.c 0 rfl; replace q_1 := Q.out.c 1 rfl; replace q_2 := Q.out.c 2 rfl; replace q_3 := Q.out.c 3 rfl; replace q_4 := Q.out.c 4 rfl; replace q_5 := Q.out.c 5 rfl; replace q_6 := Q.out.c 6 rfl; replace q_7 := Q.out.c 7 rfl; replace q_8 := Q.out.c 8 rfl; replace q_9 := Q.out.c 9 rfl; replace q_l := Q.out.lt; clear b7 CP)
      | (go_at_call 21; (with_reducible refine (CQ.out _).mono ?_); rintro e w8 ⟨rfl, b8⟩; replace R := Lib.hid (R.out.below b8 R.out.lt); replace S := Lib.hid (S.out.below b8 S.out.lt); replace P := Lib.hid (P.out.below b8 P.out.lt); replace Q := Lib.hid (Q.out.below b8 Q.out.lt); replace BB := Lib.hid (below_more BB.out b8); replace r_0 := R.out.c0; replace r_1 := R.out.c1; replace r_2 := R.out.c2; replace r_3 := R.out.c3; replace r_l := R.out.lt; replace s_0 := S.out.c0; replace s_1 := S.out.c1; replace s_2 := S.out.c2; replace s_3 := S.out.c3; replace s_l := S.out.lt; replace p_0 := P.out.c 0 rfl; replace p_1 := P.out.c 1 rfl; replace p_2 := P.out.c 2 rfl; replace p_3 := P.out.c 3 rfl; replace p_4 := P.out.c 4 rfl; replace p_5 := P.out.c 5 rfl; replace p_6 := P.out.c 6 rfl; replace p_7 := P.out.c 7 rfl; replace p_8 := P.out.c 8 rfl; replace p_9 := P.out.c 9 rfl; replace p_l := P.out.lt; replace q_0 := Q.out.c 0 rfl; replace q_1 := Q.out.c 1 rfl; replace q_2 := Q.out.c 2 rfl; replace q_3 := Q.out.c 3 rfl; replace q_4 := Q.out.c 4 rfl; replace q_5 := Q.out.c 5 rfl; replace q_6 := Q.out.c 6 rfl; replace q_7 := Q.out.c 7 rfl; replace q_8 := Q.out.c 8 rfl; replace q_9 := Q.out.c 9 rfl; replace q_l := Q.out.lt; clear b8 CQ))
    go_ret
    exact ⟨by simp, BB.out⟩
  have CP := Lib.hid (rrep_any p true (by simp [op]))
  have CQ := Lib.hid (rrep_any q true (by simp [oq]))
  have PP := Lib.hid (G.putp_yes op ip)
  have PQ := Lib.hid (G.putp_yes oq iq)
  have EP := fun W => eql_rpV p q W
  obtain ⟨xp, hdp⟩ : ∃ x, decide (p = q) = x := ⟨_, rfl⟩
  have SN := Lib.hid (fun A A' n n' c c' w hr hr' => same_c (xs := pkB 2 p.ints) (ys := pkB 2 q.ints) (b := xp) ((p_same op ip oq iq).trans hdp) A A' n n' c c' w hr hr' (by have := pk_len (k := 2) (pints_in ip) (by simp [Rp.ints]); omega) (by have := pk_len (k := 2) (pints_in iq) (by simp [Rp.ints]); omega))
  rw [hdp] at EP
  generalize pkB 2 p.ints = bp at PP SN
  generalize pkB 2 q.ints = bq at PQ SN
  clear hdp
  clear G ir is ip iq or os op oq
  obtain ⟨h0, a0, r0, n0⟩ := r
  obtain ⟨h1, a1, r1, n1⟩ := s
  obtain ⟨a2, h2, r2, n2, l2, g2, k2, t2, c2, s2⟩ := p
  obtain ⟨a3, h3, r3, n3, l3, g3, k3, t3, c3, s3⟩ := q
  unfold rqV at CR CS PR PS EQ ⊢
  unfold rpV at CP CQ PP PQ EP ⊢
  dsimp only at CR CS PR PS EQ CP CQ PP PQ EP ⊢
  obtain ⟨W, hW⟩ : ∃ W, ((((w.alloc (.cells #[.int .i64 h0, .int .i64 a0, .int .i64 r0, .int .u64 n0] 24)).alloc (.cells #[.int .i64 h1, .int .i64 a1, .int .i64 r1, .int .u64 n1] 24)).alloc (.cells #[.int .i64 a2, .int .i64 h2, .int .i64 r2, .int .u64 n2, .int .i64 l2, .int .i64 g2, .int .i64 k2, .int .i64 t2, .int .i64 c2, .int .i64 s2] 30)).alloc (.cells #[.int .i64 a3, .int .i64 h3, .int .i64 r3, .int .u64 n3, .int .i64 l3, .int .i64 g3, .int .i64 k3, .int .i64 t3, .int .i64 c3, .int .i64 s3] 30)) = W := ⟨_, rfl⟩
  have R : Hid (Four W (w.heap.size) 24 (.int .i64 h0) (.int .i64 a0) (.int .i64 r0) (.int .u64 n0)) := by
    rw [← hW]
    have k := Four.new w 24 (.int .i64 h0) (.int .i64 a0) (.int .i64 r0) (.int .u64 n0)
    exact (((k).alloc _).alloc _).alloc _
  have S : Hid (Four W (w.heap.size + 1) 24 (.int .i64 h1) (.int .i64 a1) (.int .i64 r1) (.int .u64 n1)) := by
    rw [← hW]
    have k := Four.new (w.alloc (.cells #[.int .i64 h0, .int .i64 a0, .int .i64 r0, .int .u64 n0] 24)) 24 (.int .i64 h1) (.int .i64 a1) (.int .i64 r1) (.int .u64 n1)
    rw [show (w.alloc (.cells #[.int .i64 h0, .int .i64 a0, .int .i64 r0, .int .u64 n0] 24)).heap.size = w.heap.size + 1 by simp] at k
    exact ((k).alloc _).alloc _
  have P : Hid (Cells W (w.heap.size + 1 + 1) 30 #[.int .i64 a2, .int .i64 h2, .int .i64 r2, .int .u64 n2, .int .i64 l2, .int .i64 g2, .int .i64 k2, .int .i64 t2, .int .i64 c2, .int .i64 s2]) := by
    rw [← hW]
    have k := Cells.new ((w.alloc (.cells #[.int .i64 h0, .int .i64 a0, .int .i64 r0, .int .u64 n0] 24)).alloc (.cells #[.int .i64 h1, .int .i64 a1, .int .i64 r1, .int .u64 n1] 24)) 30 #[.int .i64 a2, .int .i64 h2, .int .i64 r2, .int .u64 n2, .int .i64 l2, .int .i64 g2, .int .i64 k2, .int .i64 t2, .int .i64 c2, .int .i64 s2]
    rw [show ((w.alloc (.cells #[.int .i64 h0, .int .i64 a0, .int .i64 r0, .int .u64 n0] 24)).alloc (.cells #[.int .i64 h1, .int .i64 a1, .int .i64 r1, .int .u64 n1] 24)).heap.size = w.heap.size + 1 + 1 by simp] at k
    exact (k).alloc _
  have Q : Hid (Cells W (w.heap.size + 1 + 1 + 1) 30 #[.int .i64 a3, .int .i64 h3, .int .i64 r3, .int .u64 n3, .int .i64 l3, .int .i64 g3, .int .i64 k3, .int .i64 t3, .int .i64 c3, .int .i64 s3]) := by
    rw [← hW]
    have k := Cells.new (((w.alloc (.cells #[.int .i64 h0, .int .i64 a0, .int .i64 r0, .int .u64 n0] 24)).alloc (.cells #[.int .i64 h1, .int .i64 a1, .int .i64 r1, .int .u64 n1] 24)).alloc (.cells #[.int .i64 a2, .int .i64 h2, .int .i64 r2, .int .u64 n2, .int .i64 l2, .int .i64 g2, .int .i64 k2, .int .i64 t2, .int .i64 c2, .int .i64 s2] 30)) 30 #[.int .i64 a3, .int .i64 h3, .int .i64 r3, .int .u64 n3, .int .i64 l3, .int .i64 g3, .int .i64 k3, .int .i64 t3, .int .i64 c3, .int .i64 s3]
    rw [show (((w.alloc (.cells #[.int .i64 h0, .int .i64 a0, .int .i64 r0, .int .u64 n0] 24)).alloc (.cells #[.int .i64 h1, .int .i64 a1, .int .i64 r1, .int .u64 n1] 24)).alloc (.cells #[.int .i64 a2, .int .i64 h2, .int .i64 r2, .int .u64 n2, .int .i64 l2, .int .i64 g2, .int .i64 k2, .int .i64 t2, .int .i64 c2, .int .i64 s2] 30)).heap.size = w.heap.size + 1 + 1 + 1 by simp] at k
    exact k
  have BB : Hid (Below w.heap.size w W) := by rw [← hW]; exact (((below_alloc w _).alloc (by simp) _).alloc (by simp; omega) _).alloc (by simp; omega) _
  have r_0 := R.out.c0
  have r_1 := R.out.c1
  have r_2 := R.out.c2
  have r_3 := R.out.c3
  have r_l := R.out.lt
  have s_0 := S.out.c0
  have s_1 := S.out.c1
  have s_2 := S.out.c2
  have s_3 := S.out.c3
  have s_l := S.out.lt
  have p_0 := P.out.c 0 rfl
  have p_1 := P.out.c 1 rfl
  have p_2 := P.out.c 2 rfl
  have p_3 := P.out.c 3 rfl
  have p_4 := P.out.c 4 rfl
  have p_5 := P.out.c 5 rfl
  have p_6 := P.out.c 6 rfl
  have p_7 := P.out.c 7 rfl
  have p_8 := P.out.c 8 rfl
  have p_9 := P.out.c 9 rfl
  have p_l := P.out.lt
  have q_0 := Q.out.c 0 rfl
  have q_1 := Q.out.c 1 rfl
  have q_2 := Q.out.c 2 rfl
  have q_3 := Q.out.c 3 rfl
  have q_4 := Q.out.c 4 rfl
  have q_5 := Q.out.c 5 rfl
  have q_6 := Q.out.c 6 rfl
  have q_7 := Q.out.c 7 rfl
  have q_8 := Q.out.c 8 rfl
  have q_9 := Q.out.c 9 rfl
  have q_l := Q.out.lt
  go_enter Try.func8, Try.ntmps8
  go_wp2_with (first
    | (go_at_call 10; (with_reducible refine (HD.out _).mono ?_); rintro e w1 ⟨rfl, b1⟩; replace R := Lib.hid (R.out.below b1 R.out.lt); replace S := Lib.hid (S.out.below b1 S.out.lt); replace P := Lib.hid (P.out.below b1 P.out.lt); replace Q := Lib.hid (Q.out.below b1 Q.out.lt); replace BB := Lib.hid (below_more BB.out b1); replace r_0 := R.out.c0; replace r_1 := R.out.c1; replace r_2 := R.out.c2; replace r_3 := R.out.c3; replace r_l := R.out.lt; replace s_0 := S.out.c0; replace s_1 := S.out.c1; replace s_2 := S.out.c2; replace s_3 := S.out.c3; replace s_l := S.out.lt; replace p_0 := P.out.c 0 rfl; replace p_1 := P.out.c 1 rfl; replace p_2 := P.out.c 2 rfl; replace p_3 := P.out.c 3 rfl; replace p_4 := P.out.c 4 rfl; replace p_5 := P.out.c 5 rfl; replace p_6 := P.out.c 6 rfl; replace p_7 := P.out.c 7 rfl; replace p_8 := P.out.c 8 rfl; replace p_9 := P.out.c 9 rfl; replace p_l := P.out.lt; replace q_0 := Q.out.c 0 rfl; replace q_1 := Q.out.c 1 rfl; replace q_2 := Q.out.c 2 rfl; replace q_3 := Q.out.c 3 rfl; replace q_4 := Q.out.c 4 rfl; replace q_5 := Q.out.c 5 rfl; replace q_6 := Q.out.c 6 rfl; replace q_7 := Q.out.c 7 rfl; replace q_8 := Q.out.c 8 rfl; replace q_9 := Q.out.c 9 rfl; replace q_l := Q.out.lt; clear b1 HD)
    | (go_at_call 20; (with_reducible refine (CR.out _).mono ?_); rintro e w2 ⟨rfl, b2⟩; replace R := Lib.hid (R.out.below b2 R.out.lt); replace S := Lib.hid (S.out.below b2 S.out.lt); replace P := Lib.hid (P.out.below b2 P.out.lt); replace Q := Lib.hid (Q.out.below b2 Q.out.lt); replace BB := Lib.hid (below_more BB.out b2); replace r_0 := R.out.c0; replace r_1 := R.out.c1; replace r_2 := R.out.c2; replace r_3 := R.out.c3; replace r_l := R.out.lt; replace s_0 := S.out.c0; replace s_1 := S.out.c1; replace s_2 := S.out.c2; replace s_3 := S.out.c3; replace s_l := S.out.lt; replace p_0 := P.out.c 0 rfl; replace p_1 := P.out.c 1 rfl; replace p_2 := P.out.c 2 rfl; replace p_3 := P.out.c 3 rfl; replace p_4 := P.out.c 4 rfl; replace p_5 := P.out.c 5 rfl; replace p_6 := P.out.c 6 rfl; replace p_7 := P.out.c 7 rfl; replace p_8 := P.out.c 8 rfl; replace p_9 := P.out.c 9 rfl; replace p_l := P.out.lt; replace q_0 := Q.out.c 0 rfl; replace q_1 := Q.out.c 1 rfl; replace q_2 := Q.out.c 2 rfl; replace q_3 := Q.out.c 3 rfl; replace q_4 := Q.out.c 4 rfl; replace q_5 := Q.out.c 5 rfl; replace q_6 := Q.out.c 6 rfl; replace q_7 := Q.out.c 7 rfl; replace q_8 := Q.out.c 8 rfl; replace q_9 := Q.out.c 9 rfl; replace q_l := Q.out.lt; clear b2 CR)
    | (go_at_call 20; (with_reducible refine (CS.out _).mono ?_); rintro e w3 ⟨rfl, b3⟩; replace R := Lib.hid (R.out.below b3 R.out.lt); replace S := Lib.hid (S.out.below b3 S.out.lt); replace P := Lib.hid (P.out.below b3 P.out.lt); replace Q := Lib.hid (Q.out.below b3 Q.out.lt); replace BB := Lib.hid (below_more BB.out b3); replace r_0 := R.out.c0; replace r_1 := R.out.c1; replace r_2 := R.out.c2; replace r_3 := R.out.c3; replace r_l := R.out.lt; replace s_0 := S.out.c0; replace s_1 := S.out.c1; replace s_2 := S.out.c2; replace s_3 := S.out.c3; replace s_l := S.out.lt; replace p_0 := P.out.c 0 rfl; replace p_1 := P.out.c 1 rfl; replace p_2 := P.out.c 2 rfl; replace p_3 := P.out.c 3 rfl; replace p_4 := P.out.c 4 rfl; replace p_5 := P.out.c 5 rfl; replace p_6 := P.out.c 6 rfl; replace p_7 := P.out.c 7 rfl; replace p_8 := P.out.c 8 rfl; replace p_9 := P.out.c 9 rfl; replace p_l := P.out.lt; replace q_0 := Q.out.c 0 rfl; replace q_1 := Q.out.c 1 rfl; replace q_2 := Q.out.c 2 rfl; replace q_3 := Q.out.c 3 rfl; replace q_4 := Q.out.c 4 rfl; replace q_5 := Q.out.c 5 rfl; replace q_6 := Q.out.c 6 rfl; replace q_7 := Q.out.c 7 rfl; replace q_8 := Q.out.c 8 rfl; replace q_9 := Q.out.c 9 rfl; replace q_l := Q.out.lt; clear b3 CS)
    | (go_at_call 11; (with_reducible refine (PR.out _).mono ?_); rintro e w4 ⟨ARB, nRB, cRB, rfl, hcRB, hmRB, r4, b4⟩; replace R := Lib.hid (R.out.below b4 R.out.lt); replace S := Lib.hid (S.out.below b4 S.out.lt); replace P := Lib.hid (P.out.below b4 P.out.lt); replace Q := Lib.hid (Q.out.below b4 Q.out.lt); replace BB := Lib.hid (below_more BB.out b4); replace r_0 := R.out.c0; replace r_1 := R.out.c1; replace r_2 := R.out.c2; replace r_3 := R.out.c3; replace r_l := R.out.lt; replace s_0 := S.out.c0; replace s_1 := S.out.c1; replace s_2 := S.out.c2; replace s_3 := S.out.c3; replace s_l := S.out.lt; replace p_0 := P.out.c 0 rfl; replace p_1 := P.out.c 1 rfl; replace p_2 := P.out.c 2 rfl; replace p_3 := P.out.c 3 rfl; replace p_4 := P.out.c 4 rfl; replace p_5 := P.out.c 5 rfl; replace p_6 := P.out.c 6 rfl; replace p_7 := P.out.c 7 rfl; replace p_8 := P.out.c 8 rfl; replace p_9 := P.out.c 9 rfl; replace p_l := P.out.lt; replace q_0 := Q.out.c 0 rfl; replace q_1 := Q.out.c 1 rfl; replace q_2 := Q.out.c 2 rfl; replace q_3 := Q.out.c 3 rfl; replace q_4 := Q.out.c 4 rfl; replace q_5 := Q.out.c 5 rfl; replace q_6 := Q.out.c 6 rfl; replace q_7 := Q.out.c 7 rfl; replace q_8 := Q.out.c 8 rfl; replace q_9 := Q.out.c 9 rfl; replace q_l := Q.out.lt; have RB := Lib.hid r4; clear b4 PR r4)
    | (go_at_call 11; (with_reducible refine (PS.out _).mono ?_); rintro e w5 ⟨ARC, nRC, cRC, rfl, hcRC, hmRC, r5, b5⟩; replace R := Lib.hid (R.out.below b5 R.out.lt); replace S := Lib.hid (S.out.below b5 S.out.lt); replace P := Lib.hid (P.out.below b5 P.out.lt); replace Q := Lib.hid (Q.out.below b5 Q.out.lt); replace BB := Lib.hid (below_more BB.out b5); replace RB := Lib.hid (RB.out.step b5); replace r_0 := R.out.c0; replace r_1 := R.out.c1; replace r_2 := R.out.c2; replace r_3 := R.out.c3; replace r_l := R.out.lt; replace s_0 := S.out.c0; replace s_1 := S.out.c1; replace s_2 := S.out.c2; replace s_3 := S.out.c3; replace s_l := S.out.lt; replace p_0 := P.out.c 0 rfl; replace p_1 := P.out.c 1 rfl; replace p_2 := P.out.c 2 rfl; replace p_3 := P.out.c 3 rfl; replace p_4 := P.out.c 4 rfl; replace p_5 := P.out.c 5 rfl; replace p_6 := P.out.c 6 rfl; replace p_7 := P.out.c 7 rfl; replace p_8 := P.out.c 8 rfl; replace p_9 := P.out.c 9 rfl; replace p_l := P.out.lt; replace q_0 := Q.out.c 0 rfl; replace q_1 := Q.out.c 1 rfl; replace q_2 := Q.out.c 2 rfl; replace q_3 := Q.out.c 3 rfl; replace q_4 := Q.out.c 4 rfl; replace q_5 := Q.out.c 5 rfl; replace q_6 := Q.out.c 6 rfl; replace q_7 := Q.out.c 7 rfl; replace q_8 := Q.out.c 8 rfl; replace q_9 := Q.out.c 9 rfl; replace q_l := Q.out.lt; have RC := Lib.hid r5; clear b5 PS r5))
  have BB9 : Hid (Below w.heap.size w w5.drew) := BB.out.drew
  have R9 : Hid (Four w5.drew (w.heap.size) 24 (.int .i64 h0) (.int .i64 a0) (.int .i64 r0) (.int .u64 n0)) := R.out
  have S9 : Hid (Four w5.drew (w.heap.size + 1) 24 (.int .i64 h1) (.int .i64 a1) (.int .i64 r1) (.int .u64 n1)) := S.out
  have P9 : Hid (Cells w5.drew (w.heap.size + 1 + 1) 30 #[.int .i64 a2, .int .i64 h2, .int .i64 r2, .int .u64 n2, .int .i64 l2, .int .i64 g2, .int .i64 k2, .int .i64 t2, .int .i64 c2, .int .i64 s2]) := P.out
  have Q9 : Hid (Cells w5.drew (w.heap.size + 1 + 1 + 1) 30 #[.int .i64 a3, .int .i64 h3, .int .i64 r3, .int .u64 n3, .int .i64 l3, .int .i64 g3, .int .i64 k3, .int .i64 t3, .int .i64 c3, .int .i64 s3]) := Q.out
  have RB9 := Lib.hid (RB.out.step ((Drew.one w5).below w5.heap.size))
  have RC9 := Lib.hid (RC.out.step ((Drew.one w5).below w5.heap.size))
  go_region_held3 (fun w' => w'.cell? ⟨w.heap.size, 0, none⟩ = some (.int .i64 h0) ∧ w'.cell? ⟨w.heap.size, 1, none⟩ = some (.int .i64 a0) ∧ w'.cell? ⟨w.heap.size, 2, none⟩ = some (.int .i64 r0) ∧ w'.cell? ⟨w.heap.size, 3, none⟩ = some (.int .u64 n0) ∧ w'.cell? ⟨w.heap.size + 1, 0, none⟩ = some (.int .i64 h1) ∧ w'.cell? ⟨w.heap.size + 1, 1, none⟩ = some (.int .i64 a1) ∧ w'.cell? ⟨w.heap.size + 1, 2, none⟩ = some (.int .i64 r1) ∧ w'.cell? ⟨w.heap.size + 1, 3, none⟩ = some (.int .u64 n1)) (go_keep)
    ((go_at_call 13; (with_reducible refine (SM.out _ _ _ _ _ _ _ RB9.out RC9.out).mono ?_); rintro e w6 ⟨rfl, b6⟩; replace R := Lib.hid (R9.out.below b6 R9.out.lt); replace S := Lib.hid (S9.out.below b6 S9.out.lt); replace P := Lib.hid (P9.out.below b6 P9.out.lt); replace Q := Lib.hid (Q9.out.below b6 Q9.out.lt); replace BB := Lib.hid (below_more BB9.out b6); replace r_0 := R.out.c0; replace r_1 := R.out.c1; replace r_2 := R.out.c2; replace r_3 := R.out.c3; replace r_l := R.out.lt; replace s_0 := S.out.c0; replace s_1 := S.out.c1; replace s_2 := S.out.c2; replace s_3 := S.out.c3; replace s_l := S.out.lt; replace p_0 := P.out.c 0 rfl; replace p_1 := P.out.c 1 rfl; replace p_2 := P.out.c 2 rfl; replace p_3 := P.out.c 3 rfl; replace p_4 := P.out.c 4 rfl; replace p_5 := P.out.c 5 rfl; replace p_6 := P.out.c 6 rfl; replace p_7 := P.out.c 7 rfl; replace p_8 := P.out.c 8 rfl; replace p_9 := P.out.c 9 rfl; replace p_l := P.out.lt; replace q_0 := Q.out.c 0 rfl; replace q_1 := Q.out.c 1 rfl; replace q_2 := Q.out.c 2 rfl; replace q_3 := Q.out.c 3 rfl; replace q_4 := Q.out.c 4 rfl; replace q_5 := Q.out.c 5 rfl; replace q_6 := Q.out.c 6 rfl; replace q_7 := Q.out.c 7 rfl; replace q_8 := Q.out.c 8 rfl; replace q_9 := Q.out.c 9 rfl; replace q_l := Q.out.lt; clear R9 S9 P9 Q9 BB9 RB9 RC9 b6))
  go_wp2_with (first
    | (go_at_call 21; (with_reducible refine (CP.out _).mono ?_); rintro e w7 ⟨rfl, b7⟩; replace R := Lib.hid (R.out.below b7 R.out.lt); replace S := Lib.hid (S.out.below b7 S.out.lt); replace P := Lib.hid (P.out.below b7 P.out.lt); replace Q := Lib.hid (Q.out.below b7 Q.out.lt); replace BB := Lib.hid (below_more BB.out b7); replace r_0 := R.out.c0; replace r_1 := R.out.c1; replace r_2 := R.out.c2; replace r_3 := R.out.c3; replace r_l := R.out.lt; replace s_0 := S.out.c0; replace s_1 := S.out.c1; replace s_2 := S.out.c2; replace s_3 := S.out.c3; replace s_l := S.out.lt; replace p_0 := P.out.c 0 rfl; replace p_1 := P.out.c 1 rfl; replace p_2 := P.out.c 2 rfl; replace p_3 := P.out.c 3 rfl; replace p_4 := P.out.c 4 rfl; replace p_5 := P.out.c 5 rfl; replace p_6 := P.out.c 6 rfl; replace p_7 := P.out.c 7 rfl; replace p_8 := P.out.c 8 rfl; replace p_9 := P.out.c 9 rfl; replace p_l := P.out.lt; replace q_0 := Q.out.c 0 rfl; replace q_1 := Q.out.c 1 rfl; replace q_2 := Q.out.c 2 rfl; replace q_3 := Q.out.c 3 rfl; replace q_4 := Q.out.c 4 rfl; replace q_5 := Q.out.c 5 rfl; replace q_6 := Q.out.c 6 rfl; replace q_7 := Q.out.c 7 rfl; replace q_8 := Q.out.c 8 rfl; replace q_9 := Q.out.c 9 rfl; replace q_l := Q.out.lt; clear b7 CP)
    | (go_at_call 21; (with_reducible refine (CQ.out _).mono ?_); rintro e w8 ⟨rfl, b8⟩; replace R := Lib.hid (R.out.below b8 R.out.lt); replace S := Lib.hid (S.out.below b8 S.out.lt); replace P := Lib.hid (P.out.below b8 P.out.lt); replace Q := Lib.hid (Q.out.below b8 Q.out.lt); replace BB := Lib.hid (below_more BB.out b8); replace r_0 := R.out.c0; replace r_1 := R.out.c1; replace r_2 := R.out.c2; replace r_3 := R.out.c3; replace r_l := R.out.lt; replace s_0 := S.out.c0; replace s_1 := S.out.c1; replace s_2 := S.out.c2; replace s_3 := S.out.c3; replace s_l := S.out.lt; replace p_0 := P.out.c 0 rfl; replace p_1 := P.out.c 1 rfl; replace p_2 := P.out.c 2 rfl; replace p_3 := P.out.c 3 rfl; replace p_4 := P.out.c 4 rfl; replace p_5 := P.out.c 5 rfl; replace p_6 := P.out.c 6 rfl; replace p_7 := P.out.c 7 rfl; replace p_8 := P.out.c 8 rfl; replace p_9 := P.out.c 9 rfl; replace p_l := P.out.lt; replace q_0 := Q.out.c 0 rfl; replace q_1 := Q.out.c 1 rfl; replace q_2 := Q.out.c 2 rfl; replace q_3 := Q.out.c 3 rfl; replace q_4 := Q.out.c 4 rfl; replace q_5 := Q.out.c 5 rfl; replace q_6 := Q.out.c 6 rfl; replace q_7 := Q.out.c 7 rfl; replace q_8 := Q.out.c 8 rfl; replace q_9 := Q.out.c 9 rfl; replace q_l := Q.out.lt; clear b8 CQ)
    | (go_at_call 16; (with_reducible refine (PP.out _).mono ?_); rintro e w9 ⟨ARD, nRD, cRD, rfl, hcRD, hmRD, r9, b9⟩; replace R := Lib.hid (R.out.below b9 R.out.lt); replace S := Lib.hid (S.out.below b9 S.out.lt); replace P := Lib.hid (P.out.below b9 P.out.lt); replace Q := Lib.hid (Q.out.below b9 Q.out.lt); replace BB := Lib.hid (below_more BB.out b9); replace r_0 := R.out.c0; replace r_1 := R.out.c1; replace r_2 := R.out.c2; replace r_3 := R.out.c3; replace r_l := R.out.lt; replace s_0 := S.out.c0; replace s_1 := S.out.c1; replace s_2 := S.out.c2; replace s_3 := S.out.c3; replace s_l := S.out.lt; replace p_0 := P.out.c 0 rfl; replace p_1 := P.out.c 1 rfl; replace p_2 := P.out.c 2 rfl; replace p_3 := P.out.c 3 rfl; replace p_4 := P.out.c 4 rfl; replace p_5 := P.out.c 5 rfl; replace p_6 := P.out.c 6 rfl; replace p_7 := P.out.c 7 rfl; replace p_8 := P.out.c 8 rfl; replace p_9 := P.out.c 9 rfl; replace p_l := P.out.lt; replace q_0 := Q.out.c 0 rfl; replace q_1 := Q.out.c 1 rfl; replace q_2 := Q.out.c 2 rfl; replace q_3 := Q.out.c 3 rfl; replace q_4 := Q.out.c 4 rfl; replace q_5 := Q.out.c 5 rfl; replace q_6 := Q.out.c 6 rfl; replace q_7 := Q.out.c 7 rfl; replace q_8 := Q.out.c 8 rfl; replace q_9 := Q.out.c 9 rfl; replace q_l := Q.out.lt; have RD := Lib.hid r9; clear b9 PP r9)
    | (go_at_call 16; (with_reducible refine (PQ.out _).mono ?_); rintro e w10 ⟨ARE, nRE, cRE, rfl, hcRE, hmRE, r10, b10⟩; replace R := Lib.hid (R.out.below b10 R.out.lt); replace S := Lib.hid (S.out.below b10 S.out.lt); replace P := Lib.hid (P.out.below b10 P.out.lt); replace Q := Lib.hid (Q.out.below b10 Q.out.lt); replace BB := Lib.hid (below_more BB.out b10); replace RD := Lib.hid (RD.out.step b10); replace r_0 := R.out.c0; replace r_1 := R.out.c1; replace r_2 := R.out.c2; replace r_3 := R.out.c3; replace r_l := R.out.lt; replace s_0 := S.out.c0; replace s_1 := S.out.c1; replace s_2 := S.out.c2; replace s_3 := S.out.c3; replace s_l := S.out.lt; replace p_0 := P.out.c 0 rfl; replace p_1 := P.out.c 1 rfl; replace p_2 := P.out.c 2 rfl; replace p_3 := P.out.c 3 rfl; replace p_4 := P.out.c 4 rfl; replace p_5 := P.out.c 5 rfl; replace p_6 := P.out.c 6 rfl; replace p_7 := P.out.c 7 rfl; replace p_8 := P.out.c 8 rfl; replace p_9 := P.out.c 9 rfl; replace p_l := P.out.lt; replace q_0 := Q.out.c 0 rfl; replace q_1 := Q.out.c 1 rfl; replace q_2 := Q.out.c 2 rfl; replace q_3 := Q.out.c 3 rfl; replace q_4 := Q.out.c 4 rfl; replace q_5 := Q.out.c 5 rfl; replace q_6 := Q.out.c 6 rfl; replace q_7 := Q.out.c 7 rfl; replace q_8 := Q.out.c 8 rfl; replace q_9 := Q.out.c 9 rfl; replace q_l := Q.out.lt; have RE := Lib.hid r10; clear b10 PQ r10))
  have BB9 : Hid (Below w.heap.size w w10.drew) := BB.out.drew
  have R9 : Hid (Four w10.drew (w.heap.size) 24 (.int .i64 h0) (.int .i64 a0) (.int .i64 r0) (.int .u64 n0)) := R.out
  have S9 : Hid (Four w10.drew (w.heap.size + 1) 24 (.int .i64 h1) (.int .i64 a1) (.int .i64 r1) (.int .u64 n1)) := S.out
  have P9 : Hid (Cells w10.drew (w.heap.size + 1 + 1) 30 #[.int .i64 a2, .int .i64 h2, .int .i64 r2, .int .u64 n2, .int .i64 l2, .int .i64 g2, .int .i64 k2, .int .i64 t2, .int .i64 c2, .int .i64 s2]) := P.out
  have Q9 : Hid (Cells w10.drew (w.heap.size + 1 + 1 + 1) 30 #[.int .i64 a3, .int .i64 h3, .int .i64 r3, .int .u64 n3, .int .i64 l3, .int .i64 g3, .int .i64 k3, .int .i64 t3, .int .i64 c3, .int .i64 s3]) := Q.out
  have RD9 := Lib.hid (RD.out.step ((Drew.one w10).below w10.heap.size))
  have RE9 := Lib.hid (RE.out.step ((Drew.one w10).below w10.heap.size))
  go_region_held3 (fun w' => w'.cell? ⟨w.heap.size + 1 + 1, 0, none⟩ = some (.int .i64 a2) ∧ w'.cell? ⟨w.heap.size + 1 + 1, 1, none⟩ = some (.int .i64 h2) ∧ w'.cell? ⟨w.heap.size + 1 + 1, 2, none⟩ = some (.int .i64 r2) ∧ w'.cell? ⟨w.heap.size + 1 + 1, 3, none⟩ = some (.int .u64 n2) ∧ w'.cell? ⟨w.heap.size + 1 + 1, 4, none⟩ = some (.int .i64 l2) ∧ w'.cell? ⟨w.heap.size + 1 + 1, 5, none⟩ = some (.int .i64 g2) ∧ w'.cell? ⟨w.heap.size + 1 + 1, 6, none⟩ = some (.int .i64 k2) ∧ w'.cell? ⟨w.heap.size + 1 + 1, 7, none⟩ = some (.int .i64 t2) ∧ w'.cell? ⟨w.heap.size + 1 + 1, 8, none⟩ = some (.int .i64 c2) ∧ w'.cell? ⟨w.heap.size + 1 + 1, 9, none⟩ = some (.int .i64 s2) ∧ w'.cell? ⟨w.heap.size + 1 + 1 + 1, 0, none⟩ = some (.int .i64 a3) ∧ w'.cell? ⟨w.heap.size + 1 + 1 + 1, 1, none⟩ = some (.int .i64 h3) ∧ w'.cell? ⟨w.heap.size + 1 + 1 + 1, 2, none⟩ = some (.int .i64 r3) ∧ w'.cell? ⟨w.heap.size + 1 + 1 + 1, 3, none⟩ = some (.int .u64 n3) ∧ w'.cell? ⟨w.heap.size + 1 + 1 + 1, 4, none⟩ = some (.int .i64 l3) ∧ w'.cell? ⟨w.heap.size + 1 + 1 + 1, 5, none⟩ = some (.int .i64 g3) ∧ w'.cell? ⟨w.heap.size + 1 + 1 + 1, 6, none⟩ = some (.int .i64 k3) ∧ w'.cell? ⟨w.heap.size + 1 + 1 + 1, 7, none⟩ = some (.int .i64 t3) ∧ w'.cell? ⟨w.heap.size + 1 + 1 + 1, 8, none⟩ = some (.int .i64 c3) ∧ w'.cell? ⟨w.heap.size + 1 + 1 + 1, 9, none⟩ = some (.int .i64 s3)) (go_keep)
    ((go_at_call 13; (with_reducible refine (SN.out _ _ _ _ _ _ _ RD9.out RE9.out).mono ?_); rintro e w11 ⟨rfl, b11⟩; replace R := Lib.hid (R9.out.below b11 R9.out.lt); replace S := Lib.hid (S9.out.below b11 S9.out.lt); replace P := Lib.hid (P9.out.below b11 P9.out.lt); replace Q := Lib.hid (Q9.out.below b11 Q9.out.lt); replace BB := Lib.hid (below_more BB9.out b11); replace r_0 := R.out.c0; replace r_1 := R.out.c1; replace r_2 := R.out.c2; replace r_3 := R.out.c3; replace r_l := R.out.lt; replace s_0 := S.out.c0; replace s_1 := S.out.c1; replace s_2 := S.out.c2; replace s_3 := S.out.c3; replace s_l := S.out.lt; replace p_0 := P.out.c 0 rfl; replace p_1 := P.out.c 1 rfl; replace p_2 := P.out.c 2 rfl; replace p_3 := P.out.c 3 rfl; replace p_4 := P.out.c 4 rfl; replace p_5 := P.out.c 5 rfl; replace p_6 := P.out.c 6 rfl; replace p_7 := P.out.c 7 rfl; replace p_8 := P.out.c 8 rfl; replace p_9 := P.out.c 9 rfl; replace p_l := P.out.lt; replace q_0 := Q.out.c 0 rfl; replace q_1 := Q.out.c 1 rfl; replace q_2 := Q.out.c 2 rfl; replace q_3 := Q.out.c 3 rfl; replace q_4 := Q.out.c 4 rfl; replace q_5 := Q.out.c 5 rfl; replace q_6 := Q.out.c 6 rfl; replace q_7 := Q.out.c 7 rfl; replace q_8 := Q.out.c 8 rfl; replace q_9 := Q.out.c 9 rfl; replace q_l := Q.out.lt; clear R9 S9 P9 Q9 BB9 RD9 RE9 b11))
  go_wp2_with fail
  go_ret
  exact ⟨by simp, BB.out⟩
end Go.Proofs.Ytmfbnajaocaikaa
