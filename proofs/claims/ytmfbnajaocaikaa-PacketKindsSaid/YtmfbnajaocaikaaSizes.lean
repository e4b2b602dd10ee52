/- Layer 11: PacketSizes (gen/gen_laws.py writes this). -/
import Derived.Test.YtmfbnajaocaikaaKinds
namespace Go.Proofs.Ytmfbnajaocaikaa
open Go.RowKit Go.Sort Go
set_option linter.unusedVariables false
set_option linter.unusedSimpArgs false

theorem int_le (k : Nat) {x : Int} (h0 : 0 ≤ x) (h : (2 * x).toNat < 128 ^ (k + 1)) : (intB x).length ≤ k + 1 := by
  unfold intB
  refine digs_le k _ ?_
  unfold num
  rw [if_neg (by omega)]
  exact h
theorem pk_length (k : UInt8) (l : List Int) (h : l.length < 64) : (pkB k l).length = 2 + (l.flatMap intB).length := by
  have e : (intB (l.length : Int)).length = 1 := by
    have a := int_le 0 (x := (l.length : Int)) (by omega) (by omega)
    have b := intB_pos (l.length : Int)
    omega
  unfold pkB listB
  rw [List.length_cons, List.length_append, e]; omega
theorem q_size {q : Rq} (h : q.Ok) (hi : q.In) : 7 ≤ (pkB 1 q.ints).length ∧ (pkB 1 q.ints).length ≤ 17 := by
  rw [pk_length _ _ (by simp [Rq.ints])]
  obtain ⟨h, a, r, n⟩ := q
  obtain ⟨⟨h1, h2⟩, ⟨a1, a2⟩, r1, r2⟩ := h
  obtain ⟨⟨u1, u2⟩, ⟨v1, v2⟩, _⟩ := half_parts hi.2.2.2
  simp only [Rq.ints, List.flatMap_cons, List.flatMap_nil, List.length_append, List.length_nil] at *
  have s0 := int_le 1 (x := h) (by omega) (by omega)
  have p0 := intB_pos (h)
  have s1 := int_le 0 (x := a) (by omega) (by omega)
  have p1 := intB_pos (a)
  have s2 := int_le 1 (x := r) (by omega) (by omega)
  have p2 := intB_pos (r)
  have s3 := int_le 4 (x := n / 4294967296) (by omega) (by omega)
  have p3 := intB_pos (n / 4294967296)
  have s4 := int_le 4 (x := n % 4294967296) (by omega) (by omega)
  have p4 := intB_pos (n % 4294967296)
  omega
theorem p_size {p : Rp} (h : p.Ok) (hi : p.In) : 13 ≤ (pkB 2 p.ints).length ∧ (pkB 2 p.ints).length ≤ 47 := by
  rw [pk_length _ _ (by simp [Rp.ints])]
  obtain ⟨a, h, r, n, l, g, k, t, c, s⟩ := p
  obtain ⟨⟨⟨h1, h2⟩, ⟨a1, a2⟩, r1, r2⟩, ⟨i1, i2, i3⟩, ⟨k1, k2⟩, ⟨t1, t2⟩, ⟨c1, c2⟩, y1, y2⟩ := h
  obtain ⟨⟨u1, u2⟩, ⟨v1, v2⟩, _⟩ := half_parts hi.2.2.2.1
  simp only [Rp.ints, List.flatMap_cons, List.flatMap_nil, List.length_append, List.length_nil] at *
  have s0 := int_le 0 (x := a) (by omega) (by omega)
  have p0 := intB_pos (a)
  have s1 := int_le 1 (x := h) (by omega) (by omega)
  have p1 := intB_pos (h)
  have s2 := int_le 1 (x := r) (by omega) (by omega)
  have p2 := intB_pos (r)
  have s3 := int_le 4 (x := n / 4294967296) (by omega) (by omega)
  have p3 := intB_pos (n / 4294967296)
  have s4 := int_le 4 (x := n % 4294967296) (by omega) (by omega)
  have p4 := intB_pos (n % 4294967296)
  have s5 := int_le 7 (x := l) (by omega) (by omega)
  have p5 := intB_pos (l)
  have s6 := int_le 7 (x := g) (by omega) (by omega)
  have p6 := intB_pos (g)
  have s7 := int_le 1 (x := k) (by omega) (by omega)
  have p7 := intB_pos (k)
  have s8 := int_le 1 (x := t) (by omega) (by omega)
  have p8 := intB_pos (t)
  have s9 := int_le 4 (x := c) (by omega) (by omega)
  have p9 := intB_pos (c)
  have s10 := int_le 4 (x := s) (by omega) (by omega)
  have p10 := intB_pos (s)
  omega
theorem Row8.first {B : Nat} {w : World} {A : Option Addr} {n : Nat} {c : UInt8} {l : List Int} (h : Row8 B w A n (pkB c l)) : ∃ p, A = some p ∧ w.cell? p = some (.int .u8 ((c.toNat : Nat) : Int)) := by
  have e := h.1
  unfold pkB at e h
  rw [List.length_cons] at e
  obtain ⟨p, rfl, _, hx⟩ := h.2 (by omega)
  have x0 := hx 0 (by omega)
  rw [addr_add0] at x0
  exact ⟨p, rfl, x0⟩
set_option maxRecDepth 100000 in
set_option maxHeartbeats 16000000 in
theorem sizes_walk (G : Pkt) (q : Rq) (p : Rp) (hq : q.In) (hp : p.In) (w : World) :
    Calls Try.prog 9 #[rqV q, rpV p] w (Gives (.bool true) w) := by
  have HD := Lib.hid (head_true G)
  by_cases oq : q.Ok
  · have CQ := Lib.hid (rreq_any q true (by simp [oq]))
    have PQ := Lib.hid (G.putq_yes oq hq)
    have SQ := Lib.hid (q_size oq hq)
    by_cases op : p.Ok
    · have CP := Lib.hid (rrep_any p true (by simp [op]))
      have PP := Lib.hid (G.putp_yes op hp)
      have SP := Lib.hid (p_size op hp)
      clear G oq op hq hp
      obtain ⟨h0, a0, r0, n0⟩ := q
      obtain ⟨a1, h1, r1, n1, l1, g1, k1, t1, c1, s1⟩ := p
      unfold rqV at CQ PQ ⊢
      unfold rpV at CP PP ⊢
      dsimp only at CQ CP PQ PP ⊢
      obtain ⟨W, hW⟩ : ∃ W, ((w.alloc (.cells #[.int .i64 h0, .int .i64 a0, .int .i64 r0, .int .u64 n0] 24)).alloc (.cells #[.int .i64 a1, .int .i64 h1, .int .i64 r1, .int .u64 n1, .int .i64 l1, .int .i64 g1, .int .i64 k1, .int .i64 t1, .int .i64 c1, .int .i64 s1] 30)) = W := ⟨_, rfl⟩
      have Q : Hid (Four W (w.heap.size) 24 (.int .i64 h0) (.int .i64 a0) (.int .i64 r0) (.int .u64 n0)) := by
        rw [← hW]
        have k := Four.new w 24 (.int .i64 h0) (.int .i64 a0) (.int .i64 r0) (.int .u64 n0)
        exact (k).alloc _
      have P : Hid (Cells W (w.heap.size + 1) 30 #[.int .i64 a1, .int .i64 h1, .int .i64 r1, .int .u64 n1, .int .i64 l1, .int .i64 g1, .int .i64 k1, .int .i64 t1, .int .i64 c1, .int .i64 s1]) := by
        rw [← hW]
        have k := Cells.new (w.alloc (.cells #[.int .i64 h0, .int .i64 a0, .int .i64 r0, .int .u64 n0] 24)) 30 #[.int .i64 a1, .int .i64 h1, .int .i64 r1, .int .u64 n1, .int .i64 l1, .int .i64 g1, .int .i64 k1, .int .i64 t1, .int .i64 c1, .int .i64 s1]
        rw [show (w.alloc (.cells #[.int .i64 h0, .int .i64 a0, .int .i64 r0, .int .u64 n0] 24)).heap.size = w.heap.size + 1 by simp] at k
        exact k
      have BB : Hid (Below w.heap.size w W) := by rw [← hW]; exact (below_alloc w _).alloc (by simp) _
      have q_0 := Q.out.c0
      have q_1 := Q.out.c1
      have q_2 := Q.out.c2
      have q_3 := Q.out.c3
      have q_l := Q.out.lt
      have p_0 := P.out.c 0 rfl
      have p_1 := P.out.c 1 rfl
      have p_2 := P.out.c 2 rfl
      have p_3 := P.out.c 3 rfl
      have p_4 := P.out.c 4 rfl
      have p_5 := P.out.c 5 rfl
      have p_6 := P.out.c 6 rfl
      have p_7 := P.out.c 7 rfl
      have p_8 := P.out.c 8 rfl
      have p_9 := P.out.c 9 rfl
      have p_l := P.out.lt
      go_enter Try.func9, Try.ntmps9
      go_wp2_with (first
        | (go_at_call 10; (with_reducible refine (HD.out _).mono ?_); rintro e w1 ⟨rfl, b1⟩; replace Q := Lib.hid (Q.out.below b1 Q.out.lt); replace P := Lib.hid (P.out.below b1 P.out.lt); replace BB := Lib.hid (below_more BB.out b1); replace q_0 := Q.out.c0; replace q_1 := Q.out.c1; replace q_2 := Q.out.c2; replace q_3 := Q.out.c3; replace q_l := Q.out.lt; replace p_0 := P.out.c 0 rfl; replace p_1 := P.out.c 1 rfl; replace p_2 := P.out.c 2 rfl; replace p_3 := P.out.c 3 rfl; replace p_4 := P.out.c 4 rfl; replace p_5 := P.out.c 5 rfl; replace p_6 := P.out.c 6 rfl; replace p_7 := P.out.c 7 rfl; replace p_8 := P.out.c 8 rfl; replace p_9 := P.out.c 9 rfl; replace p_l := P.out.lt; clear b1 HD)
        | (go_at_call 20; (with_reducible refine (CQ.out _).mono ?_); rintro e w2 ⟨rfl, b2⟩; replace Q := Lib.hid (Q.out.below b2 Q.out.lt); replace P := Lib.hid (P.out.below b2 P.out.lt); replace BB := Lib.hid (below_more BB.out b2); replace q_0 := Q.out.c0; replace q_1 := Q.out.c1; replace q_2 := Q.out.c2; replace q_3 := Q.out.c3; replace q_l := Q.out.lt; replace p_0 := P.out.c 0 rfl; replace p_1 := P.out.c 1 rfl; replace p_2 := P.out.c 2 rfl; replace p_3 := P.out.c 3 rfl; replace p_4 := P.out.c 4 rfl; replace p_5 := P.out.c 5 rfl; replace p_6 := P.out.c 6 rfl; replace p_7 := P.out.c 7 rfl; replace p_8 := P.out.c 8 rfl; replace p_9 := P.out.c 9 rfl; replace p_l := P.out.lt; clear b2 CQ)
        | (go_at_call 11; (with_reducible refine (PQ.out _).mono ?_); rintro e w3 ⟨ARB, nRB, cRB, rfl, hcRB, hmRB, r3, b3⟩; replace Q := Lib.hid (Q.out.below b3 Q.out.lt); replace P := Lib.hid (P.out.below b3 P.out.lt); replace BB := Lib.hid (below_more BB.out b3); replace q_0 := Q.out.c0; replace q_1 := Q.out.c1; replace q_2 := Q.out.c2; replace q_3 := Q.out.c3; replace q_l := Q.out.lt; replace p_0 := P.out.c 0 rfl; replace p_1 := P.out.c 1 rfl; replace p_2 := P.out.c 2 rfl; replace p_3 := P.out.c 3 rfl; replace p_4 := P.out.c 4 rfl; replace p_5 := P.out.c 5 rfl; replace p_6 := P.out.c 6 rfl; replace p_7 := P.out.c 7 rfl; replace p_8 := P.out.c 8 rfl; replace p_9 := P.out.c 9 rfl; replace p_l := P.out.lt; have RB := Lib.hid r3; have l1 : (7 : Int) ≤ (nRB : Int) := (by have := RB.out.1; have := SQ.out.1; omega); have l2 : (nRB : Int) ≤ 17 := (by have := RB.out.1; have := SQ.out.2; omega); obtain ⟨pRB, rfl, xRB⟩ := RB.out.first; clear b3 PQ r3)
        | (go_at_call 21; (with_reducible refine (CP.out _).mono ?_); rintro e w4 ⟨rfl, b4⟩; replace Q := Lib.hid (Q.out.below b4 Q.out.lt); replace P := Lib.hid (P.out.below b4 P.out.lt); replace BB := Lib.hid (below_more BB.out b4); replace RB := Lib.hid (RB.out.step b4); replace q_0 := Q.out.c0; replace q_1 := Q.out.c1; replace q_2 := Q.out.c2; replace q_3 := Q.out.c3; replace q_l := Q.out.lt; replace p_0 := P.out.c 0 rfl; replace p_1 := P.out.c 1 rfl; replace p_2 := P.out.c 2 rfl; replace p_3 := P.out.c 3 rfl; replace p_4 := P.out.c 4 rfl; replace p_5 := P.out.c 5 rfl; replace p_6 := P.out.c 6 rfl; replace p_7 := P.out.c 7 rfl; replace p_8 := P.out.c 8 rfl; replace p_9 := P.out.c 9 rfl; replace p_l := P.out.lt; clear b4 CP)
        | (go_at_call 16; (with_reducible refine (PP.out _).mono ?_); rintro e w5 ⟨ARC, nRC, cRC, rfl, hcRC, hmRC, r5, b5⟩; replace Q := Lib.hid (Q.out.below b5 Q.out.lt); replace P := Lib.hid (P.out.below b5 P.out.lt); replace BB := Lib.hid (below_more BB.out b5); replace RB := Lib.hid (RB.out.step b5); replace q_0 := Q.out.c0; replace q_1 := Q.out.c1; replace q_2 := Q.out.c2; replace q_3 := Q.out.c3; replace q_l := Q.out.lt; replace p_0 := P.out.c 0 rfl; replace p_1 := P.out.c 1 rfl; replace p_2 := P.out.c 2 rfl; replace p_3 := P.out.c 3 rfl; replace p_4 := P.out.c 4 rfl; replace p_5 := P.out.c 5 rfl; replace p_6 := P.out.c 6 rfl; replace p_7 := P.out.c 7 rfl; replace p_8 := P.out.c 8 rfl; replace p_9 := P.out.c 9 rfl; replace p_l := P.out.lt; have RC := Lib.hid r5; have l1 : (13 : Int) ≤ (nRC : Int) := (by have := RC.out.1; have := SP.out.1; omega); have l2 : (nRC : Int) ≤ 47 := (by have := RC.out.1; have := SP.out.2; omega); obtain ⟨pRC, rfl, xRC⟩ := RC.out.first; clear b5 PP r5))
      go_ret
      exact ⟨by simp, BB.out⟩
    · have CP := Lib.hid (rrep_any p false (by simp [op]))
      clear G oq op hq hp
      obtain ⟨h0, a0, r0, n0⟩ := q
      obtain ⟨a1, h1, r1, n1, l1, g1, k1, t1, c1, s1⟩ := p
      unfold rqV at CQ PQ ⊢
      unfold rpV at CP ⊢
      dsimp only at CQ CP PQ ⊢
      obtain ⟨W, hW⟩ : ∃ W, ((w.alloc (.cells #[.int .i64 h0, .int .i64 a0, .int .i64 r0, .int .u64 n0] 24)).alloc (.cells #[.int .i64 a1, .int .i64 h1, .int .i64 r1, .int .u64 n1, .int .i64 l1, .int .i64 g1, .int .i64 k1, .int .i64 t1, .int .i64 c1, .int .i64 s1] 30)) = W := ⟨_, rfl⟩
      have Q : Hid (Four W (w.heap.size) 24 (.int .i64 h0) (.int .i64 a0) (.int .i64 r0) (.int .u64 n0)) := by
        rw [← hW]
        have k := Four.new w 24 (.int .i64 h0) (.int .i64 a0) (.int .i64 r0) (.int .u64 n0)
        exact (k).alloc _
      have P : Hid (Cells W (w.heap.size + 1) 30 #[.int .i64 a1, .int .i64 h1, .int .i64 r1, .int .u64 n1, .int .i64 l1, .int .i64 g1, .int .i64 k1, .int .i64 t1, .int .i64 c1, .int .i64 s1]) := by
        rw [← hW]
        have k := Cells.new (w.alloc (.cells #[.int .i64 h0, .int .i64 a0, .int .i64 r0, .int .u64 n0] 24)) 30 #[.int .i64 a1, .int .i64 h1, .int .i64 r1, .int .u64 n1, .int .i64 l1, .int .i64 g1, .int .i64 k1, .int .i64 t1, .int .i64 c1, .int .i64 s1]
        rw [show (w.alloc (.cells #[.int .i64 h0, .int .i64 a0, .int .i64 r0, .int .u64 n0] 24)).heap.size = w.heap.size + 1 by simp] at k
        exact k
      have BB : Hid (Below w.heap.size w W) := by rw [← hW]; exact (below_alloc w _).alloc (by simp) _
      have q_0 := Q.out.c0
      have q_1 := Q.out.c1
      have q_2 := Q.out.c2
      have q_3 := Q.out.c3
      have q_l := Q.out.lt
      have p_0 := P.out.c 0 rfl
      have p_1 := P.out.c 1 rfl
      have p_2 := P.out.c 2 rfl
      have p_3 := P.out.c 3 rfl
      have p_4 := P.out.c 4 rfl
      have p_5 := P.out.c 5 rfl
      have p_6 := P.out.c 6 rfl
      have p_7 := P.out.c 7 rfl
      have p_8 := P.out.c 8 rfl
      have p_9 := P.out.c 9 rfl
      have p_l := P.out.lt
      go_enter Try.func9, Try.ntmps9
      go_wp2_with (first
        | (go_at_call 10; (with_reducible refine (HD.out _).mono ?_); rintro e w1 ⟨rfl, b1⟩; replace Q := Lib.hid (Q.out.below b1 Q.out.lt); replace P := Lib.hid (P.out.below b1 P.out.lt); replace BB := Lib.hid (below_more BB.out b1); replace q_0 := Q.out.c0; replace q_1 := Q.out.c1; replace q_2 := Q.out.c2; replace q_3 := Q.out.c3; replace q_l := Q.out.lt; replace p_0 := P.out.c 0 rfl; replace p_1 := P.out.c 1 rfl; replace p_2 := P.out.c 2 rfl; replace p_3 := P.out.c 3 rfl; replace p_4 := P.out.c 4 rfl; replace p_5 := P.out.c 5 rfl; replace p_6 := P.out.c 6 rfl; replace p_7 := P.out.c 7 rfl; replace p_8 := P.out.c 8 rfl; replace p_9 := P.out.c 9 rfl; replace p_l := P.out.lt; clear b1 HD)
        | (go_at_call 20; (with_reducible refine (CQ.out _).mono ?_); rintro e w2 ⟨rfl, b2⟩; replace Q := Lib.hid (Q.out.below b2 Q.out.lt); replace P := Lib.hid (P.out.below b2 P.out.lt); replace BB := Lib.hid (below_more BB.out b2); replace q_0 := Q.out.c0; replace q_1 := Q.out.c1; replace q_2 := Q.out.c2; replace q_3 := Q.out.c3; replace q_l := Q.out.lt; replace p_0 := P.out.c 0 rfl; replace p_1 := P.out.c 1 rfl; replace p_2 := P.out.c 2 rfl; replace p_3 := P.out.c 3 rfl; replace p_4 := P.out.c 4 rfl; replace p_5 := P.out.c 5 rfl; replace p_6 := P.out.c 6 rfl; replace p_7 := P.out.c 7 rfl; replace p_8 := P.out.c 8 rfl; replace p_9 := P.out.c 9 rfl; replace p_l := P.out.lt; clear b2 CQ)
        | (go_at_call 11; (with_reducible refine (PQ.out _).mono ?_); rintro e w3 ⟨ARB, nRB, cRB, rfl, hcRB, hmRB, r3, b3⟩; replace Q := Lib.hid (Q.out.below b3 Q.out.lt); replace P := Lib.hid (P.out.below b3 P.out.lt); replace BB := Lib.hid (below_more BB.out b3); replace q_0 := Q.out.c0; replace q_1 := Q.out.c1; replace q_2 := Q.out.c2; replace q_3 := Q.out.c3; replace q_l := Q.out.lt; replace p_0 := P.out.c 0 rfl; replace p_1 := P.out.c 1 rfl; replace p_2 := P.out.c 2 rfl; replace p_3 := P.out.c 3 rfl; replace p_4 := P.out.c 4 rfl; replace p_5 := P.out.c 5 rfl; replace p_6 := P.out.c 6 rfl; replace p_7 := P.out.c 7 rfl; replace p_8 := P.out.c 8 rfl; replace p_9 := P.out.c 9 rfl; replace p_l := P.out.lt; have RB := Lib.hid r3; have l1 : (7 : Int) ≤ (nRB : Int) := (by have := RB.out.1; have := SQ.out.1; omega); have l2 : (nRB : Int) ≤ 17 := (by have := RB.out.1; have := SQ.out.2; omega); obtain ⟨pRB, rfl, xRB⟩ := RB.out.first; clear b3 PQ r3)
        | (go_at_call 21; (with_reducible refine (CP.out _).mono ?_); rintro e w4 ⟨rfl, b4⟩; replace Q := Lib.hid (Q.out.below b4 Q.out.lt); replace P := Lib.hid (P.out.below b4 P.out.lt); replace BB := Lib.hid (below_more BB.out b4); replace RB := Lib.hid (RB.out.step b4); replace q_0 := Q.out.c0; replace q_1 := Q.out.c1; replace q_2 := Q.out.c2; replace q_3 := Q.out.c3; replace q_l := Q.out.lt; replace p_0 := P.out.c 0 rfl; replace p_1 := P.out.c 1 rfl; replace p_2 := P.out.c 2 rfl; replace p_3 := P.out.c 3 rfl; replace p_4 := P.out.c 4 rfl; replace p_5 := P.out.c 5 rfl; replace p_6 := P.out.c 6 rfl; replace p_7 := P.out.c 7 rfl; replace p_8 := P.out.c 8 rfl; replace p_9 := P.out.c 9 rfl; replace p_l := P.out.lt; clear b4 CP))
      go_ret
      exact ⟨by simp, BB.out⟩
  · have CQ := Lib.hid (rreq_any q false (by simp [oq]))
    by_cases op : p.Ok
    · have CP := Lib.hid (rrep_any p true (by simp [op]))
      have PP := Lib.hid (G.putp_yes op hp)
      have SP := Lib.hid (p_size op hp)
      clear G oq op hq hp
      obtain ⟨h0, a0, r0, n0⟩ := q
      obtain ⟨a1, h1, r1, n1, l1, g1, k1, t1, c1, s1⟩ := p
      unfold rqV at CQ ⊢
      unfold rpV at CP PP ⊢
      dsimp only at CQ CP PP ⊢
      obtain ⟨W, hW⟩ : ∃ W, ((w.alloc (.cells #[.int .i64 h0, .int .i64 a0, .int .i64 r0, .int .u64 n0] 24)).alloc (.cells #[.int .i64 a1, .int .i64 h1, .int .i64 r1, .int .u64 n1, .int .i64 l1, .int .i64 g1, .int .i64 k1, .int .i64 t1, .int .i64 c1, .int .i64 s1] 30)) = W := ⟨_, rfl⟩
      have Q : Hid (Four W (w.heap.size) 24 (.int .i64 h0) (.int .i64 a0) (.int .i64 r0) (.int .u64 n0)) := by
        rw [← hW]
        have k := Four.new w 24 (.int .i64 h0) (.int .i64 a0) (.int .i64 r0) (.int .u64 n0)
        exact (k).alloc _
      have P : Hid (Cells W (w.heap.size + 1) 30 #[.int .i64 a1, .int .i64 h1, .int .i64 r1, .int .u64 n1, .int .i64 l1, .int .i64 g1, .int .i64 k1, .int .i64 t1, .int .i64 c1, .int .i64 s1]) := by
        rw [← hW]
        have k := Cells.new (w.alloc (.cells #[.int .i64 h0, .int .i64 a0, .int .i64 r0, .int .u64 n0] 24)) 30 #[.int .i64 a1, .int .i64 h1, .int .i64 r1, .int .u64 n1, .int .i64 l1, .int .i64 g1, .int .i64 k1, .int .i64 t1, .int .i64 c1, .int .i64 s1]
        rw [show (w.alloc (.cells #[.int .i64 h0, .int .i64 a0, .int .i64 r0, .int .u64 n0] 24)).heap.size = w.heap.size + 1 by simp] at k
        exact k
      have BB : Hid (Below w.heap.size w W) := by rw [← hW]; exact (below_alloc w _).alloc (by simp) _
      have q_0 := Q.out.c0
      have q_1 := Q.out.c1
      have q_2 := Q.out.c2
      have q_3 := Q.out.c3
      have q_l := Q.out.lt
      have p_0 := P.out.c 0 rfl
      have p_1 := P.out.c 1 rfl
      have p_2 := P.out.c 2 rfl
      have p_3 := P.out.c 3 rfl
      have p_4 := P.out.c 4 rfl
      have p_5 := P.out.c 5 rfl
      have p_6 := P.out.c 6 rfl
      have p_7 := P.out.c 7 rfl
      have p_8 := P.out.c 8 rfl
      have p_9 := P.out.c 9 rfl
      have p_l := P.out.lt
      go_enter Try.func9, Try.ntmps9
      go_wp2_with (first
        | (go_at_call 10; (with_reducible refine (HD.out _).mono ?_); rintro e w1 ⟨rfl, b1⟩; replace Q := Lib.hid (Q.out.below b1 Q.out.lt); replace P := Lib.hid (P.out.below b1 P.out.lt); replace BB := Lib.hid (below_more BB.out b1); replace q_0 := Q.out.c0; replace q_1 := Q.out.c1; replace q_2 := Q.out.c2; replace q_3 := Q.out.c3; replace q_l := Q.out.lt; replace p_0 := P.out.c 0 rfl; replace p_1 := P.out.c 1 rfl; replace p_2 := P.out.c 2 rfl; replace p_3 := P.out.c 3 rfl; replace p_4 := P.out.c 4 rfl; replace p_5 := P.out.c 5 rfl; replace p_6 := P.out.c 6 rfl; replace p_7 := P.out.c 7 rfl; replace p_8 := P.out.c 8 rfl; replace p_9 := P.out.c 9 rfl; replace p_l := P.out.lt; clear b1 HD)
        | (go_at_call 20; (with_reducible refine (CQ.out _).mono ?_); rintro e w2 ⟨rfl, b2⟩; replace Q := Lib.hid (Q.out.below b2 Q.out.lt); replace P := Lib.hid (P.out.below b2 P.out.lt); replace BB := Lib.hid (below_more BB.out b2); replace q_0 := Q.out.c0; replace q_1 := Q.out.c1; replace q_2 := Q.out.c2; replace q_3 := Q.out.c3; replace q_l := Q.out.lt; replace p_0 := P.out.c 0 rfl; replace p_1 := P.out.c 1 rfl; replace p_2 := P.out.c 2 rfl; replace p_3 := P.out.c 3 rfl; replace p_4 := P.out.c 4 rfl; replace p_5 := P.out.c 5 rfl; replace p_6 := P.out.c 6 rfl; replace p_7 := P.out.c 7 rfl; replace p_8 := P.out.c 8 rfl; replace p_9 := P.out.c 9 rfl; replace p_l := P.out.lt; clear b2 CQ)
        | (go_at_call 21; (with_reducible refine (CP.out _).mono ?_); rintro e w3 ⟨rfl, b3⟩; replace Q := Lib.hid (Q.out.below b3 Q.out.lt); replace P := Lib.hid (P.out.below b3 P.out.lt); replace BB := Lib.hid (below_more BB.out b3); replace q_0 := Q.out.c0; replace q_1 := Q.out.c1; replace q_2 := Q.out.c2; replace q_3 := Q.out.c3; replace q_l := Q.out.lt; replace p_0 := P.out.c 0 rfl; replace p_1 := P.out.c 1 rfl; replace p_2 := P.out.c 2 rfl; replace p_3 := P.out.c 3 rfl; replace p_4 := P.out.c 4 rfl; replace p_5 := P.out.c 5 rfl; replace p_6 := P.out.c 6 rfl; replace p_7 := P.out.c 7 rfl; replace p_8 := P.out.c 8 rfl; replace p_9 := P.out.c 9 rfl; replace p_l := P.out.lt; clear b3 CP)
        | (go_at_call 16; (with_reducible refine (PP.out _).mono ?_); rintro e w4 ⟨ARC, nRC, cRC, rfl, hcRC, hmRC, r4, b4⟩; replace Q := Lib.hid (Q.out.below b4 Q.out.lt); replace P := Lib.hid (P.out.below b4 P.out.lt); replace BB := Lib.hid (below_more BB.out b4); replace q_0 := Q.out.c0; replace q_1 := Q.out.c1; replace q_2 := Q.out.c2; replace q_3 := Q.out.c3; replace q_l := Q.out.lt; replace p_0 := P.out.c 0 rfl; replace p_1 := P.out.c 1 rfl; replace p_2 := P.out.c 2 rfl; replace p_3 := P.out.c 3 rfl; replace p_4 := P.out.c 4 rfl; replace p_5 := P.out.c 5 rfl; replace p_6 := P.out.c 6 rfl; replace p_7 := P.out.c 7 rfl; replace p_8 := P.out.c 8 rfl; replace p_9 := P.out.c 9 rfl; replace p_l := P.out.lt; have RC := Lib.hid r4; have l1 : (13 : Int) ≤ (nRC : Int) := (by have := RC.out.1; have := SP.out.1; omega); have l2 : (nRC : Int) ≤ 47 := (by have := RC.out.1; have := SP.out.2; omega); obtain ⟨pRC, rfl, xRC⟩ := RC.out.first; clear b4 PP r4))
      go_ret
      exact ⟨by simp, BB.out⟩
    · have CP := Lib.hid (rrep_any p false (by simp [op]))
      clear G oq op hq hp
      obtain ⟨h0, a0, r0, n0⟩ := q
      obtain ⟨a1, h1, r1, n1, l1, g1, k1, t1, c1, s1⟩ := p
      unfold rqV at CQ ⊢
      unfold rpV at CP ⊢
      dsimp only at CQ CP ⊢
      obtain ⟨W, hW⟩ : ∃ W, ((w.alloc (.cells #[.int .i64 h0, .int .i64 a0, .int .i64 r0, .int .u64 n0] 24)).alloc (.cells #[.int .i64 a1, .int .i64 h1, .int .i64 r1, .int .u64 n1, .int .i64 l1, .int .i64 g1, .int .i64 k1, .int .i64 t1, .int .i64 c1, .int .i64 s1] 30)) = W := ⟨_, rfl⟩
      have Q : Hid (Four W (w.heap.size) 24 (.int .i64 h0) (.int .i64 a0) (.int .i64 r0) (.int .u64 n0)) := by
        rw [← hW]
        have k := Four.new w 24 (.int .i64 h0) (.int .i64 a0) (.int .i64 r0) (.int .u64 n0)
        exact (k).alloc _
      have P : Hid (Cells W (w.heap.size + 1) 30 #[.int .i64 a1, .int .i64 h1, .int .i64 r1, .int .u64 n1, .int .i64 l1, .int .i64 g1, .int .i64 k1, .int .i64 t1, .int .i64 c1, .int .i64 s1]) := by
        rw [← hW]
        have k := Cells.new (w.alloc (.cells #[.int .i64 h0, .int .i64 a0, .int .i64 r0, .int .u64 n0] 24)) 30 #[.int .i64 a1, .int .i64 h1, .int .i64 r1, .int .u64 n1, .int .i64 l1, .int .i64 g1, .int .i64 k1, .int .i64 t1, .int .i64 c1, .int .i64 s1]
        rw [show (w.alloc (.cells #[.int .i64 h0, .int .i64 a0, .int .i64 r0, .int .u64 n0] 24)).heap.size = w.heap.size + 1 by simp] at k
        exact k
      have BB : Hid (Below w.heap.size w W) := by rw [← hW]; exact (below_alloc w _).alloc (by simp) _
      have q_0 := Q.out.c0
      have q_1 := Q.out.c1
      have q_2 := Q.out.c2
      have q_3 := Q.out.c3
      have q_l := Q.out.lt
      have p_0 := P.out.c 0 rfl
      have p_1 := P.out.c 1 rfl
      have p_2 := P.out.c 2 rfl
      have p_3 := P.out.c 3 rfl
      have p_4 := P.out.c 4 rfl
      have p_5 := P.out.c 5 rfl
      have p_6 := P.out.c 6 rfl
      have p_7 := P.out.c 7 rfl
      have p_8 := P.out.c 8 rfl
      have p_9 := P.out.c 9 rfl
      have p_l := P.out.lt
      go_enter Try.func9, Try.ntmps9
      go_wp2_with (first
        | (go_at_call 10; (with_reducible refine (HD.out _).mono ?_); rintro e w1 ⟨rfl, b1⟩; replace Q := Lib.hid (Q.out.below b1 Q.out.lt); replace P := Lib.hid (P.out.below b1 P.out.lt); replace BB := Lib.hid (below_more BB.out b1); replace q_0 := Q.out.c0; replace q_1 := Q.out.c1; replace q_2 := Q.out.c2; replace q_3 := Q.out.c3; replace q_l := Q.out.lt; replace p_0 := P.out.c 0 rfl; replace p_1 := P.out.c 1 rfl; replace p_2 := P.out.c 2 rfl; replace p_3 := P.out.c 3 rfl; replace p_4 := P.out.c 4 rfl; replace p_5 := P.out.c 5 rfl; replace p_6 := P.out.c 6 rfl; replace p_7 := P.out.c 7 rfl; replace p_8 := P.out.c 8 rfl; replace p_9 := P.out.c 9 rfl; replace p_l := P.out.lt; clear b1 HD)
        | (go_at_call 20; (with_reducible refine (CQ.out _).mono ?_); rintro e w2 ⟨rfl, b2⟩; replace Q := Lib.hid (Q.out.below b2 Q.out.lt); replace P := Lib.hid (P.out.below b2 P.out.lt); replace BB := Lib.hid (below_more BB.out b2); replace q_0 := Q.out.c0; replace q_1 := Q.out.c1; replace q_2 := Q.out.c2; replace q_3 := Q.out.c3; replace q_l := Q.out.lt; replace p_0 := P.out.c 0 rfl; replace p_1 := P.out.c 1 rfl; replace p_2 := P.out.c 2 rfl; replace p_3 := P.out.c 3 rfl; replace p_4 := P.out.c 4 rfl; replace p_5 := P.out.c 5 rfl; replace p_6 := P.out.c 6 rfl; replace p_7 := P.out.c 7 rfl; replace p_8 := P.out.c 8 rfl; replace p_9 := P.out.c 9 rfl; replace p_l := P.out.lt; clear b2 CQ)
        | (go_at_call 21; (with_reducible refine (CP.out _).mono ?_); rintro e w3 ⟨rfl, b3⟩; replace Q := Lib.hid (Q.out.below b3 Q.out.lt); replace P := Lib.hid (P.out.below b3 P.out.lt); replace BB := Lib.hid (below_more BB.out b3); replace q_0 := Q.out.c0; replace q_1 := Q.out.c1; replace q_2 := Q.out.c2; replace q_3 := Q.out.c3; replace q_l := Q.out.lt; replace p_0 := P.out.c 0 rfl; replace p_1 := P.out.c 1 rfl; replace p_2 := P.out.c 2 rfl; replace p_3 := P.out.c 3 rfl; replace p_4 := P.out.c 4 rfl; replace p_5 := P.out.c 5 rfl; replace p_6 := P.out.c 6 rfl; replace p_7 := P.out.c 7 rfl; replace p_8 := P.out.c 8 rfl; replace p_9 := P.out.c 9 rfl; replace p_l := P.out.lt; clear b3 CP))
      go_ret
      exact ⟨by simp, BB.out⟩
end Go.Proofs.Ytmfbnajaocaikaa
