/- Layer 11: PacketCuts (gen/gen_laws.py writes this). -/
import Derived.Test.YtmfbnajaocaikaaMatch
namespace Go.Proofs.Ytmfbnajaocaikaa
open Go.RowKit Go.Sort Go
set_option linter.unusedVariables false
set_option linter.unusedSimpArgs false

theorem getR_cut {l : List Int} (h : AllI l) (hl : l.length ≤ 1000) (c : UInt8) (k : Nat) (hk : k < (pkB c l).length) : getQ ((pkB c l).take k) = none ∧ getP ((pkB c l).take k) = none := by
  match k with
  | 0 => exact ⟨rfl, rfl⟩
  | j + 1 =>
    unfold pkB at hk ⊢
    rw [List.length_cons] at hk
    rw [List.take_succ_cons, getQ_at, getP_at, list_cut h hl j (by omega)]
    exact ⟨by split <;> rfl, by split <;> rfl⟩
theorem getR_more {l : List Int} (h : AllI l) (hl : l.length ≤ 1000) (c : UInt8) {m : List UInt8} (hm : m ≠ []) : getQ (pkB c l ++ m) = none ∧ getP (pkB c l ++ m) = none := by
  have e : getR (listB l ++ m) = none := by
    cases m with
    | nil => exact absurd rfl hm
    | cons a b => exact getR_left (readL_list h hl (a :: b))
  unfold pkB
  rw [List.cons_append, getQ_at, getP_at, e]
  exact ⟨by split <;> rfl, by split <;> rfl⟩
theorem mod_at (x : Int) (hx : 0 ≤ x) (n : Nat) (hn : 0 < n) : ∃ k : Nat, k < n ∧ x.tmod (n : Int) = (k : Int) := by
  refine ⟨(x.tmod n).toNat, ?_, ?_⟩
  · have h1 : (x.tmod n) < n := Int.tmod_lt_of_pos x (by omega)
    have h2 := Int.tmod_nonneg (n : Int) hx
    omega
  · have h2 := Int.tmod_nonneg (n : Int) hx
    omega
set_option maxRecDepth 100000 in
set_option maxHeartbeats 16000000 in
theorem cuts_short (G : Pkt) (q : Rq) (p : Rp) (hq : q.In) (hp : p.In) (x : Int) (hx : 0 ≤ x ∧ x ≤ 255) (A : Option Addr) (len cap : Nat) (z : List UInt8) (w : World) (hr : Row8 w.heap.size w A len z) (hl : len ≤ cap) (hc : cap ≤ 9223372036854775807) (hno : ¬ (q.Ok ∧ p.Ok ∧ len ≤ 50)) :
    Calls Try.prog 7 #[rqV q, rpV p, .int .u8 x, .slice A len cap] w (Gives (.bool true) w) := by
  have HD := Lib.hid (head_true G)
  by_cases oq : q.Ok
  case neg =>
    have CR := Lib.hid (rreq_any q false (by simp [oq]))
    clear G hno oq hq hp hr
    obtain ⟨h0, a0, r0, n0⟩ := q
    obtain ⟨a1, h1, r1, n1, l1, g1, k1, t1, c1, s1⟩ := p
    unfold rqV at CR ⊢
    unfold rpV
    dsimp only at CR ⊢
    obtain ⟨W, hW⟩ : ∃ W, ((w.alloc (.cells #[.int .i64 h0, .int .i64 a0, .int .i64 r0, .int .u64 n0] 24)).alloc (.cells #[.int .i64 a1, .int .i64 h1, .int .i64 r1, .int .u64 n1, .int .i64 l1, .int .i64 g1, .int .i64 k1, .int .i64 t1, .int .i64 c1, .int .i64 s1] 30)) = W := ⟨_, rfl⟩
    have R : Hid (Four W (w.heap.size) 24 (.int .i64 h0) (.int .i64 a0) (.int .i64 r0) (.int .u64 n0)) := by
      rw [← hW]
      have k := Four.new w 24 (.int .i64 h0) (.int .i64 a0) (.int .i64 r0) (.int .u64 n0)
      exact (k).alloc _
    have P : Hid (Cells W (w.heap.size + 1) 30 #[.int .i64 a1, .int .i64 h1, .int .i64 r1, .int .u64 n1, .int .i64 l1, .int .i64 g1, .int .i64 k1, .int .i64 t1, .int .i64 c1, .int .i64 s1]) := by
      rw [← hW]
      have k := Cells.new (w.alloc (.cells #[.int .i64 h0, .int .i64 a0, .int .i64 r0, .int .u64 n0] 24)) 30 #[.int .i64 a1, .int .i64 h1, .int .i64 r1, .int .u64 n1, .int .i64 l1, .int .i64 g1, .int .i64 k1, .int .i64 t1, .int .i64 c1, .int .i64 s1]
      rw [show (w.alloc (.cells #[.int .i64 h0, .int .i64 a0, .int .i64 r0, .int .u64 n0] 24)).heap.size = w.heap.size + 1 by simp] at k
      exact k
    have BB : Hid (Below w.heap.size w W) := by rw [← hW]; exact (below_alloc w _).alloc (by simp) _
    have r_0 := R.out.c0
    have r_1 := R.out.c1
    have r_2 := R.out.c2
    have r_3 := R.out.c3
    have r_l := R.out.lt
    have p_0 := P.out.c 0 rfl
    have p_1 := P.out.c 1 rfl
    have p_2 := P.out.c 2 rfl
    have p_3 := P.out.c 3 rfl
    have p_4 := P.out.c 4 rfl
    have p_5 := P.out.c 5 rfl
    have p_6 := P.out.c 6 rfl
    have p_7 := P.out.c 7 rfl
    have p_8 := P.out.c 8 rfl
    have p_9 := P.out.c 9 rfl
    have p_l := P.out.lt
    go_enter Try.func7, Try.ntmps7
    go_wp2_with (first
      | (go_at_call 10; (with_reducible refine (HD.out _).mono ?_); rintro e w1 ⟨rfl, b1⟩; replace R := Lib.hid (R.out.below b1 R.out.lt); replace P := Lib.hid (P.out.below b1 P.out.lt); replace BB := Lib.hid (below_more BB.out b1); replace r_0 := R.out.c0; replace r_1 := R.out.c1; replace r_2 := R.out.c2; replace r_3 := R.out.c3; replace r_l := R.out.lt; replace p_0 := P.out.c 0 rfl; replace p_1 := P.out.c 1 rfl; replace p_2 := P.out.c 2 rfl; replace p_3 := P.out.c 3 rfl; replace p_4 := P.out.c 4 rfl; replace p_5 := P.out.c 5 rfl; replace p_6 := P.out.c 6 rfl; replace p_7 := P.out.c 7 rfl; replace p_8 := P.out.c 8 rfl; replace p_9 := P.out.c 9 rfl; replace p_l := P.out.lt; clear b1 HD)
      | (go_at_call 20; (with_reducible refine (CR.out _).mono ?_); rintro e w2 ⟨rfl, b2⟩; replace R := Lib.hid (R.out.below b2 R.out.lt); replace P := Lib.hid (P.out.below b2 P.out.lt); replace BB := Lib.hid (below_more BB.out b2); replace r_0 := R.out.c0; replace r_1 := R.out.c1; replace r_2 := R.out.c2; replace r_3 := R.out.c3; replace r_l := R.out.lt; replace p_0 := P.out.c 0 rfl; replace p_1 := P.out.c 1 rfl; replace p_2 := P.out.c 2 rfl; replace p_3 := P.out.c 3 rfl; replace p_4 := P.out.c 4 rfl; replace p_5 := P.out.c 5 rfl; replace p_6 := P.out.c 6 rfl; replace p_7 := P.out.c 7 rfl; replace p_8 := P.out.c 8 rfl; replace p_9 := P.out.c 9 rfl; replace p_l := P.out.lt; clear b2 CR))
    go_ret
    exact ⟨by simp, BB.out⟩
  have CR := Lib.hid (rreq_any q true (by simp [oq]))
  by_cases op : p.Ok
  case neg =>
    have CP := Lib.hid (rrep_any p false (by simp [op]))
    clear G hno oq op hq hp hr
    obtain ⟨h0, a0, r0, n0⟩ := q
    obtain ⟨a1, h1, r1, n1, l1, g1, k1, t1, c1, s1⟩ := p
    unfold rqV at CR ⊢
    unfold rpV at CP ⊢
    dsimp only at CR CP ⊢
    obtain ⟨W, hW⟩ : ∃ W, ((w.alloc (.cells #[.int .i64 h0, .int .i64 a0, .int .i64 r0, .int .u64 n0] 24)).alloc (.cells #[.int .i64 a1, .int .i64 h1, .int .i64 r1, .int .u64 n1, .int .i64 l1, .int .i64 g1, .int .i64 k1, .int .i64 t1, .int .i64 c1, .int .i64 s1] 30)) = W := ⟨_, rfl⟩
    have R : Hid (Four W (w.heap.size) 24 (.int .i64 h0) (.int .i64 a0) (.int .i64 r0) (.int .u64 n0)) := by
      rw [← hW]
      have k := Four.new w 24 (.int .i64 h0) (.int .i64 a0) (.int .i64 r0) (.int .u64 n0)
      exact (k).alloc _
    have P : Hid (Cells W (w.heap.size + 1) 30 #[.int .i64 a1, .int .i64 h1, .int .i64 r1, .int .u64 n1, .int .i64 l1, .int .i64 g1, .int .i64 k1, .int .i64 t1, .int .i64 c1, .int .i64 s1]) := by
      rw [← hW]
      have k := Cells.new (w.alloc (.cells #[.int .i64 h0, .int .i64 a0, .int .i64 r0, .int .u64 n0] 24)) 30 #[.int .i64 a1, .int .i64 h1, .int .i64 r1, .int .u64 n1, .int .i64 l1, .int .i64 g1, .int .i64 k1, .int .i64 t1, .int .i64 c1, .int .i64 s1]
      rw [show (w.alloc (.cells #[.int .i64 h0, .int .i64 a0, .int .i64 r0, .int .u64 n0] 24)).heap.size = w.heap.size + 1 by simp] at k
      exact k
    have BB : Hid (Below w.heap.size w W) := by rw [← hW]; exact (below_alloc w _).alloc (by simp) _
    have r_0 := R.out.c0
    have r_1 := R.out.c1
    have r_2 := R.out.c2
    have r_3 := R.out.c3
    have r_l := R.out.lt
    have p_0 := P.out.c 0 rfl
    have p_1 := P.out.c 1 rfl
    have p_2 := P.out.c 2 rfl
    have p_3 := P.out.c 3 rfl
    have p_4 := P.out.c 4 rfl
    have p_5 := P.out.c 5 rfl
    have p_6 := P.out.c 6 rfl
    have p_7 := P.out.c 7 rfl
    have p_8 := P.out.c 8 rfl
    have p_9 := P.out.c 9 rfl
    have p_l := P.out.lt
    go_enter Try.func7, Try.ntmps7
    go_wp2_with (first
      | (go_at_call 10; (with_reducible refine (HD.out _).mono ?_); rintro e w1 ⟨rfl, b1⟩; replace R := Lib.hid (R.out.below b1 R.out.lt); replace P := Lib.hid (P.out.below b1 P.out.lt); replace BB := Lib.hid (below_more BB.out b1); replace r_0 := R.out.c0; replace r_1 := R.out.c1; replace r_2 := R.out.c2; replace r_3 := R.out.c3; replace r_l := R.out.lt; replace p_0 := P.out.c 0 rfl; replace p_1 := P.out.c 1 rfl; replace p_2 := P.out.c 2 rfl; replace p_3 := P.out.c 3 rfl; replace p_4 := P.out.c 4 rfl; replace p_5 := P.out.c 5 rfl; replace p_6 := P.out.c 6 rfl; replace p_7 := P.out.c 7 rfl; replace p_8 := P.out.c 8 rfl; replace p_9 := P.out.c 9 rfl; replace p_l := P.out.lt; clear b1 HD)
      | (go_at_call 20; (with_reducible refine (CR.out _).mono ?_); rintro e w2 ⟨rfl, b2⟩; replace R := Lib.hid (R.out.below b2 R.out.lt); replace P := Lib.hid (P.out.below b2 P.out.lt); replace BB := Lib.hid (below_more BB.out b2); replace r_0 := R.out.c0; replace r_1 := R.out.c1; replace r_2 := R.out.c2; replace r_3 := R.out.c3; replace r_l := R.out.lt; replace p_0 := P.out.c 0 rfl; replace p_1 := P.out.c 1 rfl; replace p_2 := P.out.c 2 rfl; replace p_3 := P.out.c 3 rfl; replace p_4 := P.out.c 4 rfl; replace p_5 := P.out.c 5 rfl; replace p_6 := P.out.c 6 rfl; replace p_7 := P.out.c 7 rfl; replace p_8 := P.out.c 8 rfl; replace p_9 := P.out.c 9 rfl; replace p_l := P.out.lt; clear b2 CR)
      | (go_at_call 21; (with_reducible refine (CP.out _).mono ?_); rintro e w3 ⟨rfl, b3⟩; replace R := Lib.hid (R.out.below b3 R.out.lt); replace P := Lib.hid (P.out.below b3 P.out.lt); replace BB := Lib.hid (below_more BB.out b3); replace r_0 := R.out.c0; replace r_1 := R.out.c1; replace r_2 := R.out.c2; replace r_3 := R.out.c3; replace r_l := R.out.lt; replace p_0 := P.out.c 0 rfl; replace p_1 := P.out.c 1 rfl; replace p_2 := P.out.c 2 rfl; replace p_3 := P.out.c 3 rfl; replace p_4 := P.out.c 4 rfl; replace p_5 := P.out.c 5 rfl; replace p_6 := P.out.c 6 rfl; replace p_7 := P.out.c 7 rfl; replace p_8 := P.out.c 8 rfl; replace p_9 := P.out.c 9 rfl; replace p_l := P.out.lt; clear b3 CP))
    go_ret
    exact ⟨by simp, BB.out⟩
  have CP := Lib.hid (rrep_any p true (by simp [op]))
  have gt0 : ¬ len ≤ 50 := fun k => hno ⟨oq, op, k⟩
  have d1 : decide ((50 : Int) < (len : Int)) = true := by simp; omega
  clear G hno oq op hq hp hr
  obtain ⟨h0, a0, r0, n0⟩ := q
  obtain ⟨a1, h1, r1, n1, l1, g1, k1, t1, c1, s1⟩ := p
  unfold rqV at CR ⊢
  unfold rpV at CP ⊢
  dsimp only at CR CP ⊢
  obtain ⟨W, hW⟩ : ∃ W, ((w.alloc (.cells #[.int .i64 h0, .int .i64 a0, .int .i64 r0, .int .u64 n0] 24)).alloc (.cells #[.int .i64 a1, .int .i64 h1, .int .i64 r1, .int .u64 n1, .int .i64 l1, .int .i64 g1, .int .i64 k1, .int .i64 t1, .int .i64 c1, .int .i64 s1] 30)) = W := ⟨_, rfl⟩
  have R : Hid (Four W (w.heap.size) 24 (.int .i64 h0) (.int .i64 a0) (.int .i64 r0) (.int .u64 n0)) := by
    rw [← hW]
    have k := Four.new w 24 (.int .i64 h0) (.int .i64 a0) (.int .i64 r0) (.int .u64 n0)
    exact (k).alloc _
  have P : Hid (Cells W (w.heap.size + 1) 30 #[.int .i64 a1, .int .i64 h1, .int .i64 r1, .int .u64 n1, .int .i64 l1, .int .i64 g1, .int .i64 k1, .int .i64 t1, .int .i64 c1, .int .i64 s1]) := by
    rw [← hW]
    have k := Cells.new (w.alloc (.cells #[.int .i64 h0, .int .i64 a0, .int .i64 r0, .int .u64 n0] 24)) 30 #[.int .i64 a1, .int .i64 h1, .int .i64 r1, .int .u64 n1, .int .i64 l1, .int .i64 g1, .int .i64 k1, .int .i64 t1, .int .i64 c1, .int .i64 s1]
    rw [show (w.alloc (.cells #[.int .i64 h0, .int .i64 a0, .int .i64 r0, .int .u64 n0] 24)).heap.size = w.heap.size + 1 by simp] at k
    exact k
  have BB : Hid (Below w.heap.size w W) := by rw [← hW]; exact (below_alloc w _).alloc (by simp) _
  have r_0 := R.out.c0
  have r_1 := R.out.c1
  have r_2 := R.out.c2
  have r_3 := R.out.c3
  have r_l := R.out.lt
  have p_0 := P.out.c 0 rfl
  have p_1 := P.out.c 1 rfl
  have p_2 := P.out.c 2 rfl
  have p_3 := P.out.c 3 rfl
  have p_4 := P.out.c 4 rfl
  have p_5 := P.out.c 5 rfl
  have p_6 := P.out.c 6 rfl
  have p_7 := P.out.c 7 rfl
  have p_8 := P.out.c 8 rfl
  have p_9 := P.out.c 9 rfl
  have p_l := P.out.lt
  go_enter Try.func7, Try.ntmps7
  go_wp2_with (first
    | (go_at_call 10; (with_reducible refine (HD.out _).mono ?_); rintro e w1 ⟨rfl, b1⟩; replace R := Lib.hid (R.out.below b1 R.out.lt); replace P := Lib.hid (P.out.below b1 P.out.lt); replace BB := Lib.hid (below_more BB.out b1); replace r_0 := R.out.c0; replace r_1 := R.out.c1; replace r_2 := R.out.c2; replace r_3 := R.out.c3; replace r_l := R.out.lt; replace p_0 := P.out.c 0 rfl; replace p_1 := P.out.c 1 rfl; replace p_2 := P.out.c 2 rfl; replace p_3 := P.out.c 3 rfl; replace p_4 := P.out.c 4 rfl; replace p_5 := P.out.c 5 rfl; replace p_6 := P.out.c 6 rfl; replace p_7 := P.out.c 7 rfl; replace p_8 := P.out.c 8 rfl; replace p_9 := P.out.c 9 rfl; replace p_l := P.out.lt; clear b1 HD)
    | (go_at_call 20; (with_reducible refine (CR.out _).mono ?_); rintro e w2 ⟨rfl, b2⟩; replace R := Lib.hid (R.out.below b2 R.out.lt); replace P := Lib.hid (P.out.below b2 P.out.lt); replace BB := Lib.hid (below_more BB.out b2); replace r_0 := R.out.c0; replace r_1 := R.out.c1; replace r_2 := R.out.c2; replace r_3 := R.out.c3; replace r_l := R.out.lt; replace p_0 := P.out.c 0 rfl; replace p_1 := P.out.c 1 rfl; replace p_2 := P.out.c 2 rfl; replace p_3 := P.out.c 3 rfl; replace p_4 := P.out.c 4 rfl; replace p_5 := P.out.c 5 rfl; replace p_6 := P.out.c 6 rfl; replace p_7 := P.out.c 7 rfl; replace p_8 := P.out.c 8 rfl; replace p_9 := P.out.c 9 rfl; replace p_l := P.out.lt; clear b2 CR)
    | (go_at_call 21; (with_reducible refine (CP.out _).mono ?_); rintro e w3 ⟨rfl, b3⟩; replace R := Lib.hid (R.out.below b3 R.out.lt); replace P := Lib.hid (P.out.below b3 P.out.lt); replace BB := Lib.hid (below_more BB.out b3); replace r_0 := R.out.c0; replace r_1 := R.out.c1; replace r_2 := R.out.c2; replace r_3 := R.out.c3; replace r_l := R.out.lt; replace p_0 := P.out.c 0 rfl; replace p_1 := P.out.c 1 rfl; replace p_2 := P.out.c 2 rfl; replace p_3 := P.out.c 3 rfl; replace p_4 := P.out.c 4 rfl; replace p_5 := P.out.c 5 rfl; replace p_6 := P.out.c 6 rfl; replace p_7 := P.out.c 7 rfl; replace p_8 := P.out.c 8 rfl; replace p_9 := P.out.c 9 rfl; replace p_l := P.out.lt; clear b3 CP))
  go_ret
  exact ⟨by simp, BB.out⟩
set_option maxRecDepth 100000 in
set_option maxHeartbeats 16000000 in
theorem cuts_more (G : Pkt) (q : Rq) (p : Rp) (hq : q.In) (hp : p.In) (x : Int) (hx : 0 ≤ x ∧ x ≤ 255) (A : Option Addr) (len cap : Nat) (z : List UInt8) (w : World) (hr : Row8 w.heap.size w A len z) (hl : len ≤ cap) (hc : cap ≤ 9223372036854775807) (hn : A = none → cap = 0) (oq : q.Ok) (op : p.Ok) (h50 : len ≤ 50) (h0 : 0 < len) :
    Calls Try.prog 7 #[rqV q, rpV p, .int .u8 x, .slice A len cap] w (Gives (.bool true) w) := by
  have HD := Lib.hid (head_true G)
  have CR := Lib.hid (rreq_any q true (by simp [oq]))
  have CP := Lib.hid (rrep_any p true (by simp [op]))
  have PR := Lib.hid (G.putq_yes oq hq)
  have PP := Lib.hid (G.putp_yes op hp)
  have SQ := Lib.hid (q_size oq hq)
  have SP := Lib.hid (p_size op hp)
  have d1 : decide ((50 : Int) < (len : Int)) = false := by simp; omega
  have d2 : decide ((0 : Int) < (len : Int)) = true := by simp; omega
  have hzl := hr.len
  have c1 := getR_cut (ints_in hq) (by simp [Rq.ints]) 1
  have c2 := getR_cut (pints_in hp) (by simp [Rp.ints]) 2
  have hz : z ≠ [] := by intro h; rw [h] at hzl; simp at hzl; omega
  have m1 := getR_more (ints_in hq) (by simp [Rq.ints]) 1 hz
  have m2 := getR_more (pints_in hp) (by simp [Rp.ints]) 2 hz
  generalize pkB 1 q.ints = b1 at PR SQ c1 m1
  generalize pkB 2 p.ints = b2 at PP SP c2 m2
  have sz1 := SQ.out
  obtain ⟨kk1, hk1, hm1⟩ := mod_at x hx.1 b1.length (by omega)
  have GQ1 := Lib.hid (G.getq_no (c1 kk1 hk1).1 (by rw [List.length_take]; omega))
  have GP1 := Lib.hid (G.getp_no (c1 kk1 hk1).2 (by rw [List.length_take]; omega))
  have HQ1 := Lib.hid (G.getq_no m1.1 (by rw [List.length_append]; omega))
  have HP1 := Lib.hid (G.getp_no m1.2 (by rw [List.length_append]; omega))
  have sz2 := SP.out
  obtain ⟨kk2, hk2, hm2⟩ := mod_at x hx.1 b2.length (by omega)
  have GQ2 := Lib.hid (G.getq_no (c2 kk2 hk2).1 (by rw [List.length_take]; omega))
  have GP2 := Lib.hid (G.getp_no (c2 kk2 hk2).2 (by rw [List.length_take]; omega))
  have HQ2 := Lib.hid (G.getq_no m2.1 (by rw [List.length_append]; omega))
  have HP2 := Lib.hid (G.getp_no m2.2 (by rw [List.length_append]; omega))
  clear G oq op hq hp c1 c2 sz1 sz2 m1 m2 hz
  obtain ⟨h0, a0, r0, n0⟩ := q
  obtain ⟨a1, h1, r1, n1, l1, g1, k1, t1, c1, s1⟩ := p
  unfold rqV at CR PR GQ1 GQ2 HQ1 HQ2 ⊢
  unfold rpV at CP PP GP1 GP2 HP1 HP2 ⊢
  unfold Rq.nil at GQ1 GQ2 HQ1 HQ2
  unfold Rp.nil at GP1 GP2 HP1 HP2
  dsimp only at CR PR GQ1 GQ2 HQ1 HQ2 CP PP GP1 GP2 HP1 HP2 ⊢
  obtain ⟨W, hW⟩ : ∃ W, ((w.alloc (.cells #[.int .i64 h0, .int .i64 a0, .int .i64 r0, .int .u64 n0] 24)).alloc (.cells #[.int .i64 a1, .int .i64 h1, .int .i64 r1, .int .u64 n1, .int .i64 l1, .int .i64 g1, .int .i64 k1, .int .i64 t1, .int .i64 c1, .int .i64 s1] 30)) = W := ⟨_, rfl⟩
  have R : Hid (Four W (w.heap.size) 24 (.int .i64 h0) (.int .i64 a0) (.int .i64 r0) (.int .u64 n0)) := by
    rw [← hW]
    have k := Four.new w 24 (.int .i64 h0) (.int .i64 a0) (.int .i64 r0) (.int .u64 n0)
    exact (k).alloc _
  have P : Hid (Cells W (w.heap.size + 1) 30 #[.int .i64 a1, .int .i64 h1, .int .i64 r1, .int .u64 n1, .int .i64 l1, .int .i64 g1, .int .i64 k1, .int .i64 t1, .int .i64 c1, .int .i64 s1]) := by
    rw [← hW]
    have k := Cells.new (w.alloc (.cells #[.int .i64 h0, .int .i64 a0, .int .i64 r0, .int .u64 n0] 24)) 30 #[.int .i64 a1, .int .i64 h1, .int .i64 r1, .int .u64 n1, .int .i64 l1, .int .i64 g1, .int .i64 k1, .int .i64 t1, .int .i64 c1, .int .i64 s1]
    rw [show (w.alloc (.cells #[.int .i64 h0, .int .i64 a0, .int .i64 r0, .int .u64 n0] 24)).heap.size = w.heap.size + 1 by simp] at k
    exact k
  have BB : Hid (Below w.heap.size w W) := by rw [← hW]; exact (below_alloc w _).alloc (by simp) _
  have r_0 := R.out.c0
  have r_1 := R.out.c1
  have r_2 := R.out.c2
  have r_3 := R.out.c3
  have r_l := R.out.lt
  have p_0 := P.out.c 0 rfl
  have p_1 := P.out.c 1 rfl
  have p_2 := P.out.c 2 rfl
  have p_3 := P.out.c 3 rfl
  have p_4 := P.out.c 4 rfl
  have p_5 := P.out.c 5 rfl
  have p_6 := P.out.c 6 rfl
  have p_7 := P.out.c 7 rfl
  have p_8 := P.out.c 8 rfl
  have p_9 := P.out.c 9 rfl
  have p_l := P.out.lt
  have RM : Hid (Row8 W.heap.size W A len z) := by rw [← hW]; exact (hr.step (below_alloc _ _)).step (below_alloc _ _)
  clear hr
  go_enter Try.func7, Try.ntmps7
  go_wp2_with (first
    | (go_at_call 10; (with_reducible refine (HD.out _).mono ?_); rintro e w1 ⟨rfl, b1⟩; replace R := Lib.hid (R.out.below b1 R.out.lt); replace P := Lib.hid (P.out.below b1 P.out.lt); replace BB := Lib.hid (below_more BB.out b1); replace RM := Lib.hid (RM.out.step b1); replace r_0 := R.out.c0; replace r_1 := R.out.c1; replace r_2 := R.out.c2; replace r_3 := R.out.c3; replace r_l := R.out.lt; replace p_0 := P.out.c 0 rfl; replace p_1 := P.out.c 1 rfl; replace p_2 := P.out.c 2 rfl; replace p_3 := P.out.c 3 rfl; replace p_4 := P.out.c 4 rfl; replace p_5 := P.out.c 5 rfl; replace p_6 := P.out.c 6 rfl; replace p_7 := P.out.c 7 rfl; replace p_8 := P.out.c 8 rfl; replace p_9 := P.out.c 9 rfl; replace p_l := P.out.lt; clear b1 HD)
    | (go_at_call 20; (with_reducible refine (CR.out _).mono ?_); rintro e w2 ⟨rfl, b2⟩; replace R := Lib.hid (R.out.below b2 R.out.lt); replace P := Lib.hid (P.out.below b2 P.out.lt); replace BB := Lib.hid (below_more BB.out b2); replace RM := Lib.hid (RM.out.step b2); replace r_0 := R.out.c0; replace r_1 := R.out.c1; replace r_2 := R.out.c2; replace r_3 := R.out.c3; replace r_l := R.out.lt; replace p_0 := P.out.c 0 rfl; replace p_1 := P.out.c 1 rfl; replace p_2 := P.out.c 2 rfl; replace p_3 := P.out.c 3 rfl; replace p_4 := P.out.c 4 rfl; replace p_5 := P.out.c 5 rfl; replace p_6 := P.out.c 6 rfl; replace p_7 := P.out.c 7 rfl; replace p_8 := P.out.c 8 rfl; replace p_9 := P.out.c 9 rfl; replace p_l := P.out.lt; clear b2 CR)
    | (go_at_call 21; (with_reducible refine (CP.out _).mono ?_); rintro e w3 ⟨rfl, b3⟩; replace R := Lib.hid (R.out.below b3 R.out.lt); replace P := Lib.hid (P.out.below b3 P.out.lt); replace BB := Lib.hid (below_more BB.out b3); replace RM := Lib.hid (RM.out.step b3); replace r_0 := R.out.c0; replace r_1 := R.out.c1; replace r_2 := R.out.c2; replace r_3 := R.out.c3; replace r_l := R.out.lt; replace p_0 := P.out.c 0 rfl; replace p_1 := P.out.c 1 rfl; replace p_2 := P.out.c 2 rfl; replace p_3 := P.out.c 3 rfl; replace p_4 := P.out.c 4 rfl; replace p_5 := P.out.c 5 rfl; replace p_6 := P.out.c 6 rfl; replace p_7 := P.out.c 7 rfl; replace p_8 := P.out.c 8 rfl; replace p_9 := P.out.c 9 rfl; replace p_l := P.out.lt; clear b3 CP)
    | (go_at_call 11; (with_reducible refine (PR.out _).mono ?_); rintro e w4 ⟨ARB, nRB, cRB, rfl, hcRB, hmRB, r4, b4⟩; replace R := Lib.hid (R.out.below b4 R.out.lt); replace P := Lib.hid (P.out.below b4 P.out.lt); replace BB := Lib.hid (below_more BB.out b4); replace RM := Lib.hid (RM.out.step b4); replace r_0 := R.out.c0; replace r_1 := R.out.c1; replace r_2 := R.out.c2; replace r_3 := R.out.c3; replace r_l := R.out.lt; replace p_0 := P.out.c 0 rfl; replace p_1 := P.out.c 1 rfl; replace p_2 := P.out.c 2 rfl; replace p_3 := P.out.c 3 rfl; replace p_4 := P.out.c 4 rfl; replace p_5 := P.out.c 5 rfl; replace p_6 := P.out.c 6 rfl; replace p_7 := P.out.c 7 rfl; replace p_8 := P.out.c 8 rfl; replace p_9 := P.out.c 9 rfl; replace p_l := P.out.lt; have RB := Lib.hid r4; have lRB := RB.out.1; have sRB := SQ.out; rw [lRB] at hk1 hm1 sRB; have zRB : ((nRB : Int) == 0) = false := (by simp; omega); obtain ⟨pRB, rfl, -⟩ := RB.out.2 (by omega); clear b4 PR r4)
    | (go_at_call 16; (with_reducible refine (PP.out _).mono ?_); rintro e w5 ⟨ARC, nRC, cRC, rfl, hcRC, hmRC, r5, b5⟩; have lRC := r5.1; have sRC := SP.out; rw [lRC] at hk2 hm2 sRC; have zRC : ((nRC : Int) == 0) = false := (by simp; omega); obtain ⟨pRC, rfl, -⟩ := r5.2 (by omega); replace R := Lib.hid (R.out.below b5 R.out.lt); replace P := Lib.hid (P.out.below b5 P.out.lt); replace BB := Lib.hid (below_more BB.out b5); replace RM := Lib.hid (RM.out.step b5); replace RB := Lib.hid (RB.out.step b5); replace r_0 := R.out.c0; replace r_1 := R.out.c1; replace r_2 := R.out.c2; replace r_3 := R.out.c3; replace r_l := R.out.lt; replace p_0 := P.out.c 0 rfl; replace p_1 := P.out.c 1 rfl; replace p_2 := P.out.c 2 rfl; replace p_3 := P.out.c 3 rfl; replace p_4 := P.out.c 4 rfl; replace p_5 := P.out.c 5 rfl; replace p_6 := P.out.c 6 rfl; replace p_7 := P.out.c 7 rfl; replace p_8 := P.out.c 8 rfl; replace p_9 := P.out.c 9 rfl; replace p_l := P.out.lt; have Gy := Lib.hid BB.out.size; have Ra := Lib.hid (R.out.alloc (.cells #[.slice (some pRB) nRB cRB, .slice (some pRC) nRC cRC] 31)); have Pa := Lib.hid (P.out.alloc (.cells #[.slice (some pRB) nRB cRB, .slice (some pRC) nRC cRC] 31)); have Ya := Lib.hid (Two.new w5 31 (.slice (some pRB) nRB cRB) (.slice (some pRC) nRC cRC)); have ra_0 := Ra.out.c0; have ra_1 := Ra.out.c1; have ra_2 := Ra.out.c2; have ra_3 := Ra.out.c3; have ra_l := Ra.out.lt; have pa_0 := Pa.out.c 0 rfl; have pa_1 := Pa.out.c 1 rfl; have pa_2 := Pa.out.c 2 rfl; have pa_3 := Pa.out.c 3 rfl; have pa_4 := Pa.out.c 4 rfl; have pa_5 := Pa.out.c 5 rfl; have pa_6 := Pa.out.c 6 rfl; have pa_7 := Pa.out.c 7 rfl; have pa_8 := Pa.out.c 8 rfl; have pa_9 := Pa.out.c 9 rfl; have pa_l := Pa.out.lt; have ya_0 := Ya.out.c0; have ya_1 := Ya.out.c1; have ya_l := Ya.out.lt; replace BB := Lib.hid (BB.out.alloc BB.out.size (.cells #[.slice (some pRB) nRB cRB, .slice (some pRC) nRC cRC] 31)); replace R := Ra; replace P := Pa; have Y := Ya; clear Ra Pa Ya; replace RM := Lib.hid (RM.out.step (below_alloc w5 (.cells #[.slice (some pRB) nRB cRB, .slice (some pRC) nRC cRC] 31))); replace RB := Lib.hid (RB.out.step (below_alloc w5 (.cells #[.slice (some pRB) nRB cRB, .slice (some pRC) nRC cRC] 31))); have RC := Lib.hid r5; replace RC := Lib.hid (RC.out.step (below_alloc w5 (.cells #[.slice (some pRB) nRB cRB, .slice (some pRC) nRC cRC] 31))); clear b5 PP r5))
  clear ra_0 ra_1 ra_2 ra_3 pa_0 pa_1 pa_2 pa_3 pa_4 pa_5 pa_6 pa_7 pa_8 pa_9 ya_0 ya_1 ra_l pa_l ya_l hW
  clear R r_0 r_1 r_2 r_3 r_l P p_0 p_1 p_2 p_3 p_4 p_5 p_6 p_7 p_8 p_9 p_l
  try clear y_0 y_1 y_l
  obtain ⟨w6, hw6⟩ : ∃ W, (w5.alloc (.cells #[.slice (some pRB) nRB cRB, .slice (some pRC) nRC cRC] 31)) = W := ⟨_, rfl⟩
  rw [hw6] at BB RM RB RC Y ⊢
  clear hw6
  have y_0 := Y.out.c0
  have y_1 := Y.out.c1
  have y_l := Y.out.lt
  refine wp_loop_rounds 3 ?_
  rw [rounds_succ]
  obtain ⟨Wea1, hWea1⟩ : ∃ W, w6.alloc (.cells #[] 5) = W := ⟨_, rfl⟩
  have HO : Hid (Own w6.heap.size Wea1 (.slice (some ⟨w6.heap.size, 0, none⟩) 0 0) []) := by rw [← hWea1]; exact own_new w6 [] w6.heap.size (Nat.le_refl _) (by simp [maxLen])
  have BW : Hid (Below w6.heap.size w6 Wea1) := by rw [← hWea1]; exact below_alloc _ _
  have RA := Lib.hid ((RB.out.take (Nat.le_of_lt hk1)).step BW.out)
  have LA := Lib.hid (show ([] : List UInt8).length + kk1 ≤ 1000000000 by simp; omega)
  go_wp2_with (at_builtin; refine wpList_app8 rfl _ _ rfl w6.heap.size (.slice (some ⟨w6.heap.size, 0, none⟩) 0 0) ([]) rfl HO.out (some pRB) kk1 cRB _ (b1.take kk1) rfl (by simp) RA.out LA.out BW.out.size ?_; refine Hid.out ?_)
  refine Lib.hid ?_
  intro va1 w7 ho hg
  clear hWea1
  replace BW := Lib.hid (BW.out.grown hg BW.out.size (own_grown (w' := w) HO.out))
  obtain ⟨As, ns, cs, rfl, hcs, hms, -, rs⟩ := ho.row
  replace hms : cs ≤ 9223372036854775807 := hms
  try rw [List.nil_append] at rs
  replace Y := Lib.hid (Y.out.below BW.out Y.out.lt)
  replace RM := Lib.hid (RM.out.step BW.out)
  replace RB := Lib.hid (RB.out.step BW.out)
  replace RC := Lib.hid (RC.out.step BW.out)
  replace BB := Lib.hid (below_more BB.out BW.out)
  replace y_0 := Y.out.c0
  replace y_1 := Y.out.c1
  replace y_l := Y.out.lt
  have RS := Lib.hid rs
  clear rs hg ho HO RA LA BW
  go_wp2_with (first
    | (go_at_call 14; (with_reducible refine (GQ1.out _ _ _ _ hcs hms RS.out).mono ?_); rintro e w8 ⟨rfl, b8⟩; replace Y := Lib.hid ((Y.out.below b8 Y.out.lt).alloc (.cells #[.int .i64 0, .int .i64 0, .int .i64 0, .int .u64 0] 24)); have S := Lib.hid (Four.new w8 24 (.int .i64 0) (.int .i64 0) (.int .i64 0) (.int .u64 0)); replace BB := Lib.hid (below_more BB.out b8); have Gs := Lib.hid BB.out.size; replace BB := Lib.hid (BB.out.alloc BB.out.size (.cells #[.int .i64 0, .int .i64 0, .int .i64 0, .int .u64 0] 24)); replace RM := Lib.hid ((RM.out.step b8).step (below_alloc w8 (.cells #[.int .i64 0, .int .i64 0, .int .i64 0, .int .u64 0] 24))); replace RB := Lib.hid ((RB.out.step b8).step (below_alloc w8 (.cells #[.int .i64 0, .int .i64 0, .int .i64 0, .int .u64 0] 24))); replace RC := Lib.hid ((RC.out.step b8).step (below_alloc w8 (.cells #[.int .i64 0, .int .i64 0, .int .i64 0, .int .u64 0] 24))); replace RS := Lib.hid ((RS.out.step b8).step (below_alloc w8 (.cells #[.int .i64 0, .int .i64 0, .int .i64 0, .int .u64 0] 24))); replace y_0 := Y.out.c0; replace y_1 := Y.out.c1; replace y_l := Y.out.lt; replace s_0 := S.out.c0; replace s_1 := S.out.c1; replace s_2 := S.out.c2; replace s_3 := S.out.c3; replace s_l := S.out.lt; clear b8 GQ1)
    | (go_at_call 18; (with_reducible refine (GP1.out _ _ _ _ hcs hms RS.out).mono ?_); rintro e w9 ⟨rfl, b9⟩; replace Y := Lib.hid ((Y.out.below b9 Y.out.lt).alloc (.cells #[.int .i64 0, .int .i64 0, .int .i64 0, .int .u64 0, .int .i64 0, .int .i64 0, .int .i64 0, .int .i64 0, .int .i64 0, .int .i64 0] 30)); replace S := Lib.hid ((S.out.below b9 S.out.lt).alloc (.cells #[.int .i64 0, .int .i64 0, .int .i64 0, .int .u64 0, .int .i64 0, .int .i64 0, .int .i64 0, .int .i64 0, .int .i64 0, .int .i64 0] 30)); have T := Lib.hid (Cells.new w9 30 #[.int .i64 0, .int .i64 0, .int .i64 0, .int .u64 0, .int .i64 0, .int .i64 0, .int .i64 0, .int .i64 0, .int .i64 0, .int .i64 0]); replace BB := Lib.hid (below_more BB.out b9); have Gt := Lib.hid BB.out.size; replace BB := Lib.hid (BB.out.alloc BB.out.size (.cells #[.int .i64 0, .int .i64 0, .int .i64 0, .int .u64 0, .int .i64 0, .int .i64 0, .int .i64 0, .int .i64 0, .int .i64 0, .int .i64 0] 30)); replace RM := Lib.hid ((RM.out.step b9).step (below_alloc w9 (.cells #[.int .i64 0, .int .i64 0, .int .i64 0, .int .u64 0, .int .i64 0, .int .i64 0, .int .i64 0, .int .i64 0, .int .i64 0, .int .i64 0] 30))); replace RB := Lib.hid ((RB.out.step b9).step (below_alloc w9 (.cells #[.int .i64 0, .int .i64 0, .int .i64 0, .int .u64 0, .int .i64 0, .int .i64 0, .int .i64 0, .int .i64 0, .int .i64 0, .int .i64 0] 30))); replace RC := Lib.hid ((RC.out.step b9).step (below_alloc w9 (.cells #[.int .i64 0, .int .i64 0, .int .i64 0, .int .u64 0, .int .i64 0, .int .i64 0, .int .i64 0, .int .i64 0, .int .i64 0, .int .i64 0] 30))); replace RS := Lib.hid ((RS.out.step b9).step (below_alloc w9 (.cells #[.int .i64 0, .int .i64 0, .int .i64 0, .int .u64 0, .int .i64 0, .int .i64 0, .int .i64 0, .int .i64 0, .int .i64 0, .int .i64 0] 30))); replace y_0 := Y.out.c0; replace y_1 := Y.out.c1; replace y_l := Y.out.lt; replace s_0 := S.out.c0; replace s_1 := S.out.c1; replace s_2 := S.out.c2; replace s_3 := S.out.c3; replace s_l := S.out.lt; replace t_0 := T.out.c 0 rfl; replace t_1 := T.out.c 1 rfl; replace t_2 := T.out.c 2 rfl; replace t_3 := T.out.c 3 rfl; replace t_4 := T.out.c 4 rfl; replace t_5 := T.out.c 5 rfl; replace t_6 := T.out.c 6 rfl; replace t_7 := T.out.c 7 rfl; replace t_8 := T.out.c 8 rfl; replace t_9 := T.out.c 9 rfl; replace t_l := T.out.lt; clear b9 GP1; refine Hid.out ?_))
  refine Lib.hid ?_
  clear RS hcs hms
  go_wp2_with (at_builtin; refine Hid.out ?_)
  refine Lib.hid ?_
  clear S s_0 s_1 s_2 s_3 s_l T t_0 t_1 t_2 t_3 t_4 t_5 t_6 t_7 t_8 t_9 t_l
  try clear y_0 y_1 y_l
  obtain ⟨w10, hw10⟩ : ∃ W, (w9.alloc (.cells #[.int .i64 0, .int .i64 0, .int .i64 0, .int .u64 0, .int .i64 0, .int .i64 0, .int .i64 0, .int .i64 0, .int .i64 0, .int .i64 0] 30)) = W := ⟨_, rfl⟩
  rw [hw10] at BB RM RB RC Y ⊢
  have es : w10.heap.size = w9.heap.size + 1 := by rw [← hw10]; simp
  clear hw10
  have y_0 := Y.out.c0
  have y_1 := Y.out.c1
  have y_l := Y.out.lt
  obtain ⟨Web1, hWeb1⟩ : ∃ W, w10.alloc (.cells #[] 5) = W := ⟨_, rfl⟩
  have HO : Hid (Own w10.heap.size Web1 (.slice (some ⟨w9.heap.size + 1, 0, none⟩) 0 0) []) := by rw [← hWeb1, ← es]; exact own_new w10 [] w10.heap.size (Nat.le_refl _) (by simp [maxLen])
  have BW : Hid (Below w10.heap.size w10 Web1) := by rw [← hWeb1]; exact below_alloc _ _
  rw [hWeb1]
  clear es
  have RA := Lib.hid ((RB.out).step BW.out)
  have LA := Lib.hid (show ([] : List UInt8).length + nRB ≤ 1000000000 by simp; omega)
  refine (wpList_app8 rfl _ _ rfl w10.heap.size (.slice (some ⟨w9.heap.size + 1, 0, none⟩) 0 0) ([]) rfl HO.out (some pRB) nRB cRB _ (b1) rfl (by simp) RA.out LA.out BW.out.size ?_)
  refine Lib.hid ?_
  intro vb1 wb1 ho hg
  clear hWeb1
  replace BW := Lib.hid (BW.out.grown hg BW.out.size (own_grown (w' := w) HO.out))
  clear HO RA LA hg
  replace HO := Lib.hid ho
  clear ho
  try rw [List.nil_append] at HO
  have RA := Lib.hid ((RM.out).step BW.out)
  have LA := Lib.hid (show (b1 : List UInt8).length + len ≤ 1000000000 by have := RB.out.1; omega)
  go_wp2_with (at_builtin; refine wpList_app8 rfl _ _ rfl w10.heap.size (vb1) (b1) rfl HO.out A len cap _ (z) rfl hn RA.out LA.out BW.out.size ?_; refine Hid.out ?_)
  refine Lib.hid ?_
  intro vc1 w11 ho hg
  replace BW := Lib.hid (BW.out.grown hg BW.out.size (own_grown (w' := w) HO.out))
  obtain ⟨As, ns, cs, rfl, hcs, hms, -, rs⟩ := ho.row
  replace hms : cs ≤ 9223372036854775807 := hms
  replace Y := Lib.hid (Y.out.below BW.out Y.out.lt)
  replace RM := Lib.hid (RM.out.step BW.out)
  replace RB := Lib.hid (RB.out.step BW.out)
  replace RC := Lib.hid (RC.out.step BW.out)
  replace BB := Lib.hid (below_more BB.out BW.out)
  replace y_0 := Y.out.c0
  replace y_1 := Y.out.c1
  replace y_l := Y.out.lt
  have RS := Lib.hid rs
  clear rs hg ho HO RA LA BW
  go_wp2_with (first
    | (go_at_call 14; (with_reducible refine (HQ1.out _ _ _ _ hcs hms RS.out).mono ?_); rintro e w12 ⟨rfl, b12⟩; replace Y := Lib.hid ((Y.out.below b12 Y.out.lt).alloc (.cells #[.int .i64 0, .int .i64 0, .int .i64 0, .int .u64 0] 24)); have S := Lib.hid (Four.new w12 24 (.int .i64 0) (.int .i64 0) (.int .i64 0) (.int .u64 0)); replace BB := Lib.hid (below_more BB.out b12); have Gs := Lib.hid BB.out.size; replace BB := Lib.hid (BB.out.alloc BB.out.size (.cells #[.int .i64 0, .int .i64 0, .int .i64 0, .int .u64 0] 24)); replace RM := Lib.hid ((RM.out.step b12).step (below_alloc w12 (.cells #[.int .i64 0, .int .i64 0, .int .i64 0, .int .u64 0] 24))); replace RB := Lib.hid ((RB.out.step b12).step (below_alloc w12 (.cells #[.int .i64 0, .int .i64 0, .int .i64 0, .int .u64 0] 24))); replace RC := Lib.hid ((RC.out.step b12).step (below_alloc w12 (.cells #[.int .i64 0, .int .i64 0, .int .i64 0, .int .u64 0] 24))); replace RS := Lib.hid ((RS.out.step b12).step (below_alloc w12 (.cells #[.int .i64 0, .int .i64 0, .int .i64 0, .int .u64 0] 24))); replace y_0 := Y.out.c0; replace y_1 := Y.out.c1; replace y_l := Y.out.lt; replace s_0 := S.out.c0; replace s_1 := S.out.c1; replace s_2 := S.out.c2; replace s_3 := S.out.c3; replace s_l := S.out.lt; clear b12 HQ1)
    | (go_at_call 18; (with_reducible refine (HP1.out _ _ _ _ hcs hms RS.out).mono ?_); rintro e w13 ⟨rfl, b13⟩; replace Y := Lib.hid ((Y.out.below b13 Y.out.lt).alloc (.cells #[.int .i64 0, .int .i64 0, .int .i64 0, .int .u64 0, .int .i64 0, .int .i64 0, .int .i64 0, .int .i64 0, .int .i64 0, .int .i64 0] 30)); replace S := Lib.hid ((S.out.below b13 S.out.lt).alloc (.cells #[.int .i64 0, .int .i64 0, .int .i64 0, .int .u64 0, .int .i64 0, .int .i64 0, .int .i64 0, .int .i64 0, .int .i64 0, .int .i64 0] 30)); have T := Lib.hid (Cells.new w13 30 #[.int .i64 0, .int .i64 0, .int .i64 0, .int .u64 0, .int .i64 0, .int .i64 0, .int .i64 0, .int .i64 0, .int .i64 0, .int .i64 0]); replace BB := Lib.hid (below_more BB.out b13); have Gt := Lib.hid BB.out.size; replace BB := Lib.hid (BB.out.alloc BB.out.size (.cells #[.int .i64 0, .int .i64 0, .int .i64 0, .int .u64 0, .int .i64 0, .int .i64 0, .int .i64 0, .int .i64 0, .int .i64 0, .int .i64 0] 30)); replace RM := Lib.hid ((RM.out.step b13).step (below_alloc w13 (.cells #[.int .i64 0, .int .i64 0, .int .i64 0, .int .u64 0, .int .i64 0, .int .i64 0, .int .i64 0, .int .i64 0, .int .i64 0, .int .i64 0] 30))); replace RB := Lib.hid ((RB.out.step b13).step (below_alloc w13 (.cells #[.int .i64 0, .int .i64 0, .int .i64 0, .int .u64 0, .int .i64 0, .int .i64 0, .int .i64 0, .int .i64 0, .int .i64 0, .int .i64 0] 30))); replace RC := Lib.hid ((RC.out.step b13).step (below_alloc w13 (.cells #[.int .i64 0, .int .i64 0, .int .i64 0, .int .u64 0, .int .i64 0, .int .i64 0, .int .i64 0, .int .i64 0, .int .i64 0, .int .i64 0] 30))); replace RS := Lib.hid ((RS.out.step b13).step (below_alloc w13 (.cells #[.int .i64 0, .int .i64 0, .int .i64 0, .int .u64 0, .int .i64 0, .int .i64 0, .int .i64 0, .int .i64 0, .int .i64 0, .int .i64 0] 30))); replace y_0 := Y.out.c0; replace y_1 := Y.out.c1; replace y_l := Y.out.lt; replace s_0 := S.out.c0; replace s_1 := S.out.c1; replace s_2 := S.out.c2; replace s_3 := S.out.c3; replace s_l := S.out.lt; replace t_0 := T.out.c 0 rfl; replace t_1 := T.out.c 1 rfl; replace t_2 := T.out.c 2 rfl; replace t_3 := T.out.c 3 rfl; replace t_4 := T.out.c 4 rfl; replace t_5 := T.out.c 5 rfl; replace t_6 := T.out.c 6 rfl; replace t_7 := T.out.c 7 rfl; replace t_8 := T.out.c 8 rfl; replace t_9 := T.out.c 9 rfl; replace t_l := T.out.lt; clear b13 HP1))
  clear RS hcs hms
  rw [rounds_succ]
  clear S s_0 s_1 s_2 s_3 s_l T t_0 t_1 t_2 t_3 t_4 t_5 t_6 t_7 t_8 t_9 t_l
  try clear y_0 y_1 y_l
  obtain ⟨w14, hw14⟩ : ∃ W, (w13.alloc (.cells #[.int .i64 0, .int .i64 0, .int .i64 0, .int .u64 0, .int .i64 0, .int .i64 0, .int .i64 0, .int .i64 0, .int .i64 0, .int .i64 0] 30)) = W := ⟨_, rfl⟩
  rw [hw14] at BB RM RB RC Y ⊢
  clear hw14
  have y_0 := Y.out.c0
  have y_1 := Y.out.c1
  have y_l := Y.out.lt
  obtain ⟨Wea2, hWea2⟩ : ∃ W, w14.alloc (.cells #[] 5) = W := ⟨_, rfl⟩
  have HO : Hid (Own w14.heap.size Wea2 (.slice (some ⟨w14.heap.size, 0, none⟩) 0 0) []) := by rw [← hWea2]; exact own_new w14 [] w14.heap.size (Nat.le_refl _) (by simp [maxLen])
  have BW : Hid (Below w14.heap.size w14 Wea2) := by rw [← hWea2]; exact below_alloc _ _
  have RA := Lib.hid ((RC.out.take (Nat.le_of_lt hk2)).step BW.out)
  have LA := Lib.hid (show ([] : List UInt8).length + kk2 ≤ 1000000000 by simp; omega)
  go_wp2_with (at_builtin; refine wpList_app8 rfl _ _ rfl w14.heap.size (.slice (some ⟨w14.heap.size, 0, none⟩) 0 0) ([]) rfl HO.out (some pRC) kk2 cRC _ (b2.take kk2) rfl (by simp) RA.out LA.out BW.out.size ?_; refine Hid.out ?_)
  refine Lib.hid ?_
  intro va2 w15 ho hg
  clear hWea2
  replace BW := Lib.hid (BW.out.grown hg BW.out.size (own_grown (w' := w) HO.out))
  obtain ⟨As, ns, cs, rfl, hcs, hms, -, rs⟩ := ho.row
  replace hms : cs ≤ 9223372036854775807 := hms
  try rw [List.nil_append] at rs
  replace Y := Lib.hid (Y.out.below BW.out Y.out.lt)
  replace RM := Lib.hid (RM.out.step BW.out)
  replace RB := Lib.hid (RB.out.step BW.out)
  replace RC := Lib.hid (RC.out.step BW.out)
  replace BB := Lib.hid (below_more BB.out BW.out)
  replace y_0 := Y.out.c0
  replace y_1 := Y.out.c1
  replace y_l := Y.out.lt
  have RS := Lib.hid rs
  clear rs hg ho HO RA LA BW
  go_wp2_with (first
    | (go_at_call 14; (with_reducible refine (GQ2.out _ _ _ _ hcs hms RS.out).mono ?_); rintro e w16 ⟨rfl, b16⟩; replace Y := Lib.hid ((Y.out.below b16 Y.out.lt).alloc (.cells #[.int .i64 0, .int .i64 0, .int .i64 0, .int .u64 0] 24)); have S := Lib.hid (Four.new w16 24 (.int .i64 0) (.int .i64 0) (.int .i64 0) (.int .u64 0)); replace BB := Lib.hid (below_more BB.out b16); have Gs := Lib.hid BB.out.size; replace BB := Lib.hid (BB.out.alloc BB.out.size (.cells #[.int .i64 0, .int .i64 0, .int .i64 0, .int .u64 0] 24)); replace RM := Lib.hid ((RM.out.step b16).step (below_alloc w16 (.cells #[.int .i64 0, .int .i64 0, .int .i64 0, .int .u64 0] 24))); replace RB := Lib.hid ((RB.out.step b16).step (below_alloc w16 (.cells #[.int .i64 0, .int .i64 0, .int .i64 0, .int .u64 0] 24))); replace RC := Lib.hid ((RC.out.step b16).step (below_alloc w16 (.cells #[.int .i64 0, .int .i64 0, .int .i64 0, .int .u64 0] 24))); replace RS := Lib.hid ((RS.out.step b16).step (below_alloc w16 (.cells #[.int .i64 0, .int .i64 0, .int .i64 0, .int .u64 0] 24))); replace y_0 := Y.out.c0; replace y_1 := Y.out.c1; replace y_l := Y.out.lt; replace s_0 := S.out.c0; replace s_1 := S.out.c1; replace s_2 := S.out.c2; replace s_3 := S.out.c3; replace s_l := S.out.lt; clear b16 GQ2)
    | (go_at_call 18; (with_reducible refine (GP2.out _ _ _ _ hcs hms RS.out).mono ?_); rintro e w17 ⟨rfl, b17⟩; replace Y := Lib.hid ((Y.out.below b17 Y.out.lt).alloc (.cells #[.int .i64 0, .int .i64 0, .int .i64 0, .int .u64 0, .int .i64 0, .int .i64 0, .int .i64 0, .int .i64 0, .int .i64 0, .int .i64 0] 30)); replace S := Lib.hid ((S.out.below b17 S.out.lt).alloc (.cells #[.int .i64 0, .int .i64 0, .int .i64 0, .int .u64 0, .int .i64 0, .int .i64 0, .int .i64 0, .int .i64 0, .int .i64 0, .int .i64 0] 30)); have T := Lib.hid (Cells.new w17 30 #[.int .i64 0, .int .i64 0, .int .i64 0, .int .u64 0, .int .i64 0, .int .i64 0, .int .i64 0, .int .i64 0, .int .i64 0, .int .i64 0]); replace BB := Lib.hid (below_more BB.out b17); have Gt := Lib.hid BB.out.size; replace BB := Lib.hid (BB.out.alloc BB.out.size (.cells #[.int .i64 0, .int .i64 0, .int .i64 0, .int .u64 0, .int .i64 0, .int .i64 0, .int .i64 0, .int .i64 0, .int .i64 0, .int .i64 0] 30)); replace RM := Lib.hid ((RM.out.step b17).step (below_alloc w17 (.cells #[.int .i64 0, .int .i64 0, .int .i64 0, .int .u64 0, .int .i64 0, .int .i64 0, .int .i64 0, .int .i64 0, .int .i64 0, .int .i64 0] 30))); replace RB := Lib.hid ((RB.out.step b17).step (below_alloc w17 (.cells #[.int .i64 0, .int .i64 0, .int .i64 0, .int .u64 0, .int .i64 0, .int .i64 0, .int .i64 0, .int .i64 0, .int .i64 0, .int .i64 0] 30))); replace RC := Lib.hid ((RC.out.step b17).step (below_alloc w17 (.cells #[.int .i64 0, .int .i64 0, .int .i64 0, .int .u64 0, .int .i64 0, .int .i64 0, .int .i64 0, .int .i64 0, .int .i64 0, .int .i64 0] 30))); replace RS := Lib.hid ((RS.out.step b17).step (below_alloc w17 (.cells #[.int .i64 0, .int .i64 0, .int .i64 0, .int .u64 0, .int .i64 0, .int .i64 0, .int .i64 0, .int .i64 0, .int .i64 0, .int .i64 0] 30))); replace y_0 := Y.out.c0; replace y_1 := Y.out.c1; replace y_l := Y.out.lt; replace s_0 := S.out.c0; replace s_1 := S.out.c1; replace s_2 := S.out.c2; replace s_3 := S.out.c3; replace s_l := S.out.lt; replace t_0 := T.out.c 0 rfl; replace t_1 := T.out.c 1 rfl; replace t_2 := T.out.c 2 rfl; replace t_3 := T.out.c 3 rfl; replace t_4 := T.out.c 4 rfl; replace t_5 := T.out.c 5 rfl; replace t_6 := T.out.c 6 rfl; replace t_7 := T.out.c 7 rfl; replace t_8 := T.out.c 8 rfl; replace t_9 := T.out.c 9 rfl; replace t_l := T.out.lt; clear b17 GP2; refine Hid.out ?_))
  refine Lib.hid ?_
  clear RS hcs hms
  go_wp2_with (at_builtin; refine Hid.out ?_)
  refine Lib.hid ?_
  clear S s_0 s_1 s_2 s_3 s_l T t_0 t_1 t_2 t_3 t_4 t_5 t_6 t_7 t_8 t_9 t_l
  try clear y_0 y_1 y_l
  obtain ⟨w18, hw18⟩ : ∃ W, (w17.alloc (.cells #[.int .i64 0, .int .i64 0, .int .i64 0, .int .u64 0, .int .i64 0, .int .i64 0, .int .i64 0, .int .i64 0, .int .i64 0, .int .i64 0] 30)) = W := ⟨_, rfl⟩
  rw [hw18] at BB RM RB RC Y ⊢
  have es : w18.heap.size = w17.heap.size + 1 := by rw [← hw18]; simp
  clear hw18
  have y_0 := Y.out.c0
  have y_1 := Y.out.c1
  have y_l := Y.out.lt
  obtain ⟨Web2, hWeb2⟩ : ∃ W, w18.alloc (.cells #[] 5) = W := ⟨_, rfl⟩
  have HO : Hid (Own w18.heap.size Web2 (.slice (some ⟨w17.heap.size + 1, 0, none⟩) 0 0) []) := by rw [← hWeb2, ← es]; exact own_new w18 [] w18.heap.size (Nat.le_refl _) (by simp [maxLen])
  have BW : Hid (Below w18.heap.size w18 Web2) := by rw [← hWeb2]; exact below_alloc _ _
  rw [hWeb2]
  clear es
  have RA := Lib.hid ((RC.out).step BW.out)
  have LA := Lib.hid (show ([] : List UInt8).length + nRC ≤ 1000000000 by simp; omega)
  refine (wpList_app8 rfl _ _ rfl w18.heap.size (.slice (some ⟨w17.heap.size + 1, 0, none⟩) 0 0) ([]) rfl HO.out (some pRC) nRC cRC _ (b2) rfl (by simp) RA.out LA.out BW.out.size ?_)
  refine Lib.hid ?_
  intro vb2 wb2 ho hg
  clear hWeb2
  replace BW := Lib.hid (BW.out.grown hg BW.out.size (own_grown (w' := w) HO.out))
  clear HO RA LA hg
  replace HO := Lib.hid ho
  clear ho
  try rw [List.nil_append] at HO
  have RA := Lib.hid ((RM.out).step BW.out)
  have LA := Lib.hid (show (b2 : List UInt8).length + len ≤ 1000000000 by have := RC.out.1; omega)
  go_wp2_with (at_builtin; refine wpList_app8 rfl _ _ rfl w18.heap.size (vb2) (b2) rfl HO.out A len cap _ (z) rfl hn RA.out LA.out BW.out.size ?_; refine Hid.out ?_)
  refine Lib.hid ?_
  intro vc2 w19 ho hg
  replace BW := Lib.hid (BW.out.grown hg BW.out.size (own_grown (w' := w) HO.out))
  obtain ⟨As, ns, cs, rfl, hcs, hms, -, rs⟩ := ho.row
  replace hms : cs ≤ 9223372036854775807 := hms
  replace Y := Lib.hid (Y.out.below BW.out Y.out.lt)
  replace RM := Lib.hid (RM.out.step BW.out)
  replace RB := Lib.hid (RB.out.step BW.out)
  replace RC := Lib.hid (RC.out.step BW.out)
  replace BB := Lib.hid (below_more BB.out BW.out)
  replace y_0 := Y.out.c0
  replace y_1 := Y.out.c1
  replace y_l := Y.out.lt
  have RS := Lib.hid rs
  clear rs hg ho HO RA LA BW
  go_wp2_with (first
    | (go_at_call 14; (with_reducible refine (HQ2.out _ _ _ _ hcs hms RS.out).mono ?_); rintro e w20 ⟨rfl, b20⟩; replace Y := Lib.hid ((Y.out.below b20 Y.out.lt).alloc (.cells #[.int .i64 0, .int .i64 0, .int .i64 0, .int .u64 0] 24)); have S := Lib.hid (Four.new w20 24 (.int .i64 0) (.int .i64 0) (.int .i64 0) (.int .u64 0)); replace BB := Lib.hid (below_more BB.out b20); have Gs := Lib.hid BB.out.size; replace BB := Lib.hid (BB.out.alloc BB.out.size (.cells #[.int .i64 0, .int .i64 0, .int .i64 0, .int .u64 0] 24)); replace RM := Lib.hid ((RM.out.step b20).step (below_alloc w20 (.cells #[.int .i64 0, .int .i64 0, .int .i64 0, .int .u64 0] 24))); replace RB := Lib.hid ((RB.out.step b20).step (below_alloc w20 (.cells #[.int .i64 0, .int .i64 0, .int .i64 0, .int .u64 0] 24))); replace RC := Lib.hid ((RC.out.step b20).step (below_alloc w20 (.cells #[.int .i64 0, .int .i64 0, .int .i64 0, .int .u64 0] 24))); replace RS := Lib.hid ((RS.out.step b20).step (below_alloc w20 (.cells #[.int .i64 0, .int .i64 0, .int .i64 0, .int .u64 0] 24))); replace y_0 := Y.out.c0; replace y_1 := Y.out.c1; replace y_l := Y.out.lt; replace s_0 := S.out.c0; replace s_1 := S.out.c1; replace s_2 := S.out.c2; replace s_3 := S.out.c3; replace s_l := S.out.lt; clear b20 HQ2)
    | (go_at_call 18; (with_reducible refine (HP2.out _ _ _ _ hcs hms RS.out).mono ?_); rintro e w21 ⟨rfl, b21⟩; replace Y := Lib.hid ((Y.out.below b21 Y.out.lt).alloc (.cells #[.int .i64 0, .int .i64 0, .int .i64 0, .int .u64 0, .int .i64 0, .int .i64 0, .int .i64 0, .int .i64 0, .int .i64 0, .int .i64 0] 30)); replace S := Lib.hid ((S.out.below b21 S.out.lt).alloc (.cells #[.int .i64 0, .int .i64 0, .int .i64 0, .int .u64 0, .int .i64 0, .int .i64 0, .int .i64 0, .int .i64 0, .int .i64 0, .int .i64 0] 30)); have T := Lib.hid (Cells.new w21 30 #[.int .i64 0, .int .i64 0, .int .i64 0, .int .u64 0, .int .i64 0, .int .i64 0, .int .i64 0, .int .i64 0, .int .i64 0, .int .i64 0]); replace BB := Lib.hid (below_more BB.out b21); have Gt := Lib.hid BB.out.size; replace BB := Lib.hid (BB.out.alloc BB.out.size (.cells #[.int .i64 0, .int .i64 0, .int .i64 0, .int .u64 0, .int .i64 0, .int .i64 0, .int .i64 0, .int .i64 0, .int .i64 0, .int .i64 0] 30)); replace RM := Lib.hid ((RM.out.step b21).step (below_alloc w21 (.cells #[.int .i64 0, .int .i64 0, .int .i64 0, .int .u64 0, .int .i64 0, .int .i64 0, .int .i64 0, .int .i64 0, .int .i64 0, .int .i64 0] 30))); replace RB := Lib.hid ((RB.out.step b21).step (below_alloc w21 (.cells #[.int .i64 0, .int .i64 0, .int .i64 0, .int .u64 0, .int .i64 0, .int .i64 0, .int .i64 0, .int .i64 0, .int .i64 0, .int .i64 0] 30))); replace RC := Lib.hid ((RC.out.step b21).step (below_alloc w21 (.cells #[.int .i64 0, .int .i64 0, .int .i64 0, .int .u64 0, .int .i64 0, .int .i64 0, .int .i64 0, .int .i64 0, .int .i64 0, .int .i64 0] 30))); replace RS := Lib.hid ((RS.out.step b21).step (below_alloc w21 (.cells #[.int .i64 0, .int .i64 0, .int .i64 0, .int .u64 0, .int .i64 0, .int .i64 0, .int .i64 0, .int .i64 0, .int .i64 0, .int .i64 0] 30))); replace y_0 := Y.out.c0; replace y_1 := Y.out.c1; replace y_l := Y.out.lt; replace s_0 := S.out.c0; replace s_1 := S.out.c1; replace s_2 := S.out.c2; replace s_3 := S.out.c3; replace s_l := S.out.lt; replace t_0 := T.out.c 0 rfl; replace t_1 := T.out.c 1 rfl; replace t_2 := T.out.c 2 rfl; replace t_3 := T.out.c 3 rfl; replace t_4 := T.out.c 4 rfl; replace t_5 := T.out.c 5 rfl; replace t_6 := T.out.c 6 rfl; replace t_7 := T.out.c 7 rfl; replace t_8 := T.out.c 8 rfl; replace t_9 := T.out.c 9 rfl; replace t_l := T.out.lt; clear b21 HP2))
  clear RS hcs hms
  rw [rounds_succ]
  go_wp2_with fail
  go_ret
  exact ⟨by simp, BB.out⟩
set_option maxRecDepth 100000 in
set_option maxHeartbeats 16000000 in
theorem cuts_none (G : Pkt) (q : Rq) (p : Rp) (hq : q.In) (hp : p.In) (x : Int) (hx : 0 ≤ x ∧ x ≤ 255) (A : Option Addr) (len cap : Nat) (z : List UInt8) (w : World) (hr : Row8 w.heap.size w A len z) (hl : len ≤ cap) (hc : cap ≤ 9223372036854775807) (hn : A = none → cap = 0) (oq : q.Ok) (op : p.Ok) (h50 : len ≤ 50) (h0 : len = 0) :
    Calls Try.prog 7 #[rqV q, rpV p, .int .u8 x, .slice A len cap] w (Gives (.bool true) w) := by
  have HD := Lib.hid (head_true G)
  have CR := Lib.hid (rreq_any q true (by simp [oq]))
  have CP := Lib.hid (rrep_any p true (by simp [op]))
  have PR := Lib.hid (G.putq_yes oq hq)
  have PP := Lib.hid (G.putp_yes op hp)
  have SQ := Lib.hid (q_size oq hq)
  have SP := Lib.hid (p_size op hp)
  have d1 : decide ((50 : Int) < (len : Int)) = false := by simp; omega
  have d2 : decide ((0 : Int) < (len : Int)) = false := by simp; omega
  have hzl := hr.len
  have c1 := getR_cut (ints_in hq) (by simp [Rq.ints]) 1
  have c2 := getR_cut (pints_in hp) (by simp [Rp.ints]) 2
  generalize pkB 1 q.ints = b1 at PR SQ c1
  generalize pkB 2 p.ints = b2 at PP SP c2
  have sz1 := SQ.out
  obtain ⟨kk1, hk1, hm1⟩ := mod_at x hx.1 b1.length (by omega)
  have GQ1 := Lib.hid (G.getq_no (c1 kk1 hk1).1 (by rw [List.length_take]; omega))
  have GP1 := Lib.hid (G.getp_no (c1 kk1 hk1).2 (by rw [List.length_take]; omega))
  have HQ1 := Lib.hid (fun A n cap w hc hm (hr : Row8 w.heap.size w A n (b1 ++ z)) => G.getq A n cap (b1 ++ z) (by have := hr.1; rw [List.length_append] at this; omega) hc hm w hr)
  generalize (getQ (b1 ++ z)).getD Rq.nil = yq1 at HQ1
  generalize (if (getQ (b1 ++ z)).isSome then (0 : Int) else 7) = eq1 at HQ1
  have HP1 := Lib.hid (fun A n cap w hc hm (hr : Row8 w.heap.size w A n (b1 ++ z)) => G.getp A n cap (b1 ++ z) (by have := hr.1; rw [List.length_append] at this; omega) hc hm w hr)
  generalize (getP (b1 ++ z)).getD Rp.nil = yp1 at HP1
  generalize (if (getP (b1 ++ z)).isSome then (0 : Int) else 7) = ep1 at HP1
  have sz2 := SP.out
  obtain ⟨kk2, hk2, hm2⟩ := mod_at x hx.1 b2.length (by omega)
  have GQ2 := Lib.hid (G.getq_no (c2 kk2 hk2).1 (by rw [List.length_take]; omega))
  have GP2 := Lib.hid (G.getp_no (c2 kk2 hk2).2 (by rw [List.length_take]; omega))
  have HQ2 := Lib.hid (fun A n cap w hc hm (hr : Row8 w.heap.size w A n (b2 ++ z)) => G.getq A n cap (b2 ++ z) (by have := hr.1; rw [List.length_append] at this; omega) hc hm w hr)
  generalize (getQ (b2 ++ z)).getD Rq.nil = yq2 at HQ2
  generalize (if (getQ (b2 ++ z)).isSome then (0 : Int) else 7) = eq2 at HQ2
  have HP2 := Lib.hid (fun A n cap w hc hm (hr : Row8 w.heap.size w A n (b2 ++ z)) => G.getp A n cap (b2 ++ z) (by have := hr.1; rw [List.length_append] at this; omega) hc hm w hr)
  generalize (getP (b2 ++ z)).getD Rp.nil = yp2 at HP2
  generalize (if (getP (b2 ++ z)).isSome then (0 : Int) else 7) = ep2 at HP2
  have d3 : ¬ (0 < len) := by omega
  clear h0
  clear G oq op hq hp c1 c2 sz1 sz2
  obtain ⟨h0, a0, r0, n0⟩ := q
  obtain ⟨a1, h1, r1, n1, l1, g1, k1, t1, c1, s1⟩ := p
  obtain ⟨h21, a21, r21, n21⟩ := yq1
  obtain ⟨a31, h31, r31, n31, l31, g31, k31, t31, c31, s31⟩ := yp1
  obtain ⟨h22, a22, r22, n22⟩ := yq2
  obtain ⟨a32, h32, r32, n32, l32, g32, k32, t32, c32, s32⟩ := yp2
  unfold rqV at CR PR GQ1 GQ2 HQ1 HQ2 ⊢
  unfold rpV at CP PP GP1 GP2 HP1 HP2 ⊢
  unfold Rq.nil at GQ1 GQ2
  unfold Rp.nil at GP1 GP2
  dsimp only at CR PR GQ1 GQ2 HQ1 HQ2 CP PP GP1 GP2 HP1 HP2 ⊢
  obtain ⟨W, hW⟩ : ∃ W, ((w.alloc (.cells #[.int .i64 h0, .int .i64 a0, .int .i64 r0, .int .u64 n0] 24)).alloc (.cells #[.int .i64 a1, .int .i64 h1, .int .i64 r1, .int .u64 n1, .int .i64 l1, .int .i64 g1, .int .i64 k1, .int .i64 t1, .int .i64 c1, .int .i64 s1] 30)) = W := ⟨_, rfl⟩
  have R : Hid (Four W (w.heap.size) 24 (.int .i64 h0) (.int .i64 a0) (.int .i64 r0) (.int .u64 n0)) := by
    rw [← hW]
    have k := Four.new w 24 (.int .i64 h0) (.int .i64 a0) (.int .i64 r0) (.int .u64 n0)
    exact (k).alloc _
  have P : Hid (Cells W (w.heap.size + 1) 30 #[.int .i64 a1, .int .i64 h1, .int .i64 r1, .int .u64 n1, .int .i64 l1, .int .i64 g1, .int .i64 k1, .int .i64 t1, .int .i64 c1, .int .i64 s1]) := by
    rw [← hW]
    have k := Cells.new (w.alloc (.cells #[.int .i64 h0, .int .i64 a0, .int .i64 r0, .int .u64 n0] 24)) 30 #[.int .i64 a1, .int .i64 h1, .int .i64 r1, .int .u64 n1, .int .i64 l1, .int .i64 g1, .int .i64 k1, .int .i64 t1, .int .i64 c1, .int .i64 s1]
    rw [show (w.alloc (.cells #[.int .i64 h0, .int .i64 a0, .int .i64 r0, .int .u64 n0] 24)).heap.size = w.heap.size + 1 by simp] at k
    exact k
  have BB : Hid (Below w.heap.size w W) := by rw [← hW]; exact (below_alloc w _).alloc (by simp) _
  have r_0 := R.out.c0
  have r_1 := R.out.c1
  have r_2 := R.out.c2
  have r_3 := R.out.c3
  have r_l := R.out.lt
  have p_0 := P.out.c 0 rfl
  have p_1 := P.out.c 1 rfl
  have p_2 := P.out.c 2 rfl
  have p_3 := P.out.c 3 rfl
  have p_4 := P.out.c 4 rfl
  have p_5 := P.out.c 5 rfl
  have p_6 := P.out.c 6 rfl
  have p_7 := P.out.c 7 rfl
  have p_8 := P.out.c 8 rfl
  have p_9 := P.out.c 9 rfl
  have p_l := P.out.lt
  have RM : Hid (Row8 W.heap.size W A len z) := by rw [← hW]; exact (hr.step (below_alloc _ _)).step (below_alloc _ _)
  clear hr
  go_enter Try.func7, Try.ntmps7
  go_wp2_with (first
    | (go_at_call 10; (with_reducible refine (HD.out _).mono ?_); rintro e w1 ⟨rfl, b1⟩; replace R := Lib.hid (R.out.below b1 R.out.lt); replace P := Lib.hid (P.out.below b1 P.out.lt); replace BB := Lib.hid (below_more BB.out b1); replace RM := Lib.hid (RM.out.step b1); replace r_0 := R.out.c0; replace r_1 := R.out.c1; replace r_2 := R.out.c2; replace r_3 := R.out.c3; replace r_l := R.out.lt; replace p_0 := P.out.c 0 rfl; replace p_1 := P.out.c 1 rfl; replace p_2 := P.out.c 2 rfl; replace p_3 := P.out.c 3 rfl; replace p_4 := P.out.c 4 rfl; replace p_5 := P.out.c 5 rfl; replace p_6 := P.out.c 6 rfl; replace p_7 := P.out.c 7 rfl; replace p_8 := P.out.c 8 rfl; replace p_9 := P.out.c 9 rfl; replace p_l := P.out.lt; clear b1 HD)
    | (go_at_call 20; (with_reducible refine (CR.out _).mono ?_); rintro e w2 ⟨rfl, b2⟩; replace R := Lib.hid (R.out.below b2 R.out.lt); replace P := Lib.hid (P.out.below b2 P.out.lt); replace BB := Lib.hid (below_more BB.out b2); replace RM := Lib.hid (RM.out.step b2); replace r_0 := R.out.c0; replace r_1 := R.out.c1; replace r_2 := R.out.c2; replace r_3 := R.out.c3; replace r_l := R.out.lt; replace p_0 := P.out.c 0 rfl; replace p_1 := P.out.c 1 rfl; replace p_2 := P.out.c 2 rfl; replace p_3 := P.out.c 3 rfl; replace p_4 := P.out.c 4 rfl; replace p_5 := P.out.c 5 rfl; replace p_6 := P.out.c 6 rfl; replace p_7 := P.out.c 7 rfl; replace p_8 := P.out.c 8 rfl; replace p_9 := P.out.c 9 rfl; replace p_l := P.out.lt; clear b2 CR)
    | (go_at_call 21; (with_reducible refine (CP.out _).mono ?_); rintro e w3 ⟨rfl, b3⟩; replace R := Lib.hid (R.out.below b3 R.out.lt); replace P := Lib.hid (P.out.below b3 P.out.lt); replace BB := Lib.hid (below_more BB.out b3); replace RM := Lib.hid (RM.out.step b3); replace r_0 := R.out.c0; replace r_1 := R.out.c1; replace r_2 := R.out.c2; replace r_3 := R.out.c3; replace r_l := R.out.lt; replace p_0 := P.out.c 0 rfl; replace p_1 := P.out.c 1 rfl; replace p_2 := P.out.c 2 rfl; replace p_3 := P.out.c 3 rfl; replace p_4 := P.out.c 4 rfl; replace p_5 := P.out.c 5 rfl; replace p_6 := P.out.c 6 rfl; replace p_7 := P.out.c 7 rfl; replace p_8 := P.out.c 8 rfl; replace p_9 := P.out.c 9 rfl; replace p_l := P.out.lt; clear b3 CP)
    | (go_at_call 11; (with_reducible refine (PR.out _).mono ?_); rintro e w4 ⟨ARB, nRB, cRB, rfl, hcRB, hmRB, r4, b4⟩; replace R := Lib.hid (R.out.below b4 R.out.lt); replace P := Lib.hid (P.out.below b4 P.out.lt); replace BB := Lib.hid (below_more BB.out b4); replace RM := Lib.hid (RM.out.step b4); replace r_0 := R.out.c0; replace r_1 := R.out.c1; replace r_2 := R.out.c2; replace r_3 := R.out.c3; replace r_l := R.out.lt; replace p_0 := P.out.c 0 rfl; replace p_1 := P.out.c 1 rfl; replace p_2 := P.out.c 2 rfl; replace p_3 := P.out.c 3 rfl; replace p_4 := P.out.c 4 rfl; replace p_5 := P.out.c 5 rfl; replace p_6 := P.out.c 6 rfl; replace p_7 := P.out.c 7 rfl; replace p_8 := P.out.c 8 rfl; replace p_9 := P.out.c 9 rfl; replace p_l := P.out.lt; have RB := Lib.hid r4; have lRB := RB.out.1; have sRB := SQ.out; rw [lRB] at hk1 hm1 sRB; have zRB : ((nRB : Int) == 0) = false := (by simp; omega); obtain ⟨pRB, rfl, -⟩ := RB.out.2 (by omega); clear b4 PR r4)
    | (go_at_call 16; (with_reducible refine (PP.out _).mono ?_); rintro e w5 ⟨ARC, nRC, cRC, rfl, hcRC, hmRC, r5, b5⟩; have lRC := r5.1; have sRC := SP.out; rw [lRC] at hk2 hm2 sRC; have zRC : ((nRC : Int) == 0) = false := (by simp; omega); obtain ⟨pRC, rfl, -⟩ := r5.2 (by omega); replace R := Lib.hid (R.out.below b5 R.out.lt); replace P := Lib.hid (P.out.below b5 P.out.lt); replace BB := Lib.hid (below_more BB.out b5); replace RM := Lib.hid (RM.out.step b5); replace RB := Lib.hid (RB.out.step b5); replace r_0 := R.out.c0; replace r_1 := R.out.c1; replace r_2 := R.out.c2; replace r_3 := R.out.c3; replace r_l := R.out.lt; replace p_0 := P.out.c 0 rfl; replace p_1 := P.out.c 1 rfl; replace p_2 := P.out.c 2 rfl; replace p_3 := P.out.c 3 rfl; replace p_4 := P.out.c 4 rfl; replace p_5 := P.out.c 5 rfl; replace p_6 := P.out.c 6 rfl; replace p_7 := P.out.c 7 rfl; replace p_8 := P.out.c 8 rfl; replace p_9 := P.out.c 9 rfl; replace p_l := P.out.lt; have Gy := Lib.hid BB.out.size; have Ra := Lib.hid (R.out.alloc (.cells #[.slice (some pRB) nRB cRB, .slice (some pRC) nRC cRC] 31)); have Pa := Lib.hid (P.out.alloc (.cells #[.slice (some pRB) nRB cRB, .slice (some pRC) nRC cRC] 31)); have Ya := Lib.hid (Two.new w5 31 (.slice (some pRB) nRB cRB) (.slice (some pRC) nRC cRC)); have ra_0 := Ra.out.c0; have ra_1 := Ra.out.c1; have ra_2 := Ra.out.c2; have ra_3 := Ra.out.c3; have ra_l := Ra.out.lt; have pa_0 := Pa.out.c 0 rfl; have pa_1 := Pa.out.c 1 rfl; have pa_2 := Pa.out.c 2 rfl; have pa_3 := Pa.out.c 3 rfl; have pa_4 := Pa.out.c 4 rfl; have pa_5 := Pa.out.c 5 rfl; have pa_6 := Pa.out.c 6 rfl; have pa_7 := Pa.out.c 7 rfl; have pa_8 := Pa.out.c 8 rfl; have pa_9 := Pa.out.c 9 rfl; have pa_l := Pa.out.lt; have ya_0 := Ya.out.c0; have ya_1 := Ya.out.c1; have ya_l := Ya.out.lt; replace BB := Lib.hid (BB.out.alloc BB.out.size (.cells #[.slice (some pRB) nRB cRB, .slice (some pRC) nRC cRC] 31)); replace R := Ra; replace P := Pa; have Y := Ya; clear Ra Pa Ya; replace RM := Lib.hid (RM.out.step (below_alloc w5 (.cells #[.slice (some pRB) nRB cRB, .slice (some pRC) nRC cRC] 31))); replace RB := Lib.hid (RB.out.step (below_alloc w5 (.cells #[.slice (some pRB) nRB cRB, .slice (some pRC) nRC cRC] 31))); have RC := Lib.hid r5; replace RC := Lib.hid (RC.out.step (below_alloc w5 (.cells #[.slice (some pRB) nRB cRB, .slice (some pRC) nRC cRC] 31))); clear b5 PP r5))
  clear ra_0 ra_1 ra_2 ra_3 pa_0 pa_1 pa_2 pa_3 pa_4 pa_5 pa_6 pa_7 pa_8 pa_9 ya_0 ya_1 ra_l pa_l ya_l hW
  clear R r_0 r_1 r_2 r_3 r_l P p_0 p_1 p_2 p_3 p_4 p_5 p_6 p_7 p_8 p_9 p_l
  try clear y_0 y_1 y_l
  obtain ⟨w6, hw6⟩ : ∃ W, (w5.alloc (.cells #[.slice (some pRB) nRB cRB, .slice (some pRC) nRC cRC] 31)) = W := ⟨_, rfl⟩
  rw [hw6] at BB RM RB RC Y ⊢
  clear hw6
  have y_0 := Y.out.c0
  have y_1 := Y.out.c1
  have y_l := Y.out.lt
  refine wp_loop_rounds 3 ?_
  rw [rounds_succ]
  obtain ⟨Wea1, hWea1⟩ : ∃ W, w6.alloc (.cells #[] 5) = W := ⟨_, rfl⟩
  have HO : Hid (Own w6.heap.size Wea1 (.slice (some ⟨w6.heap.size, 0, none⟩) 0 0) []) := by rw [← hWea1]; exact own_new w6 [] w6.heap.size (Nat.le_refl _) (by simp [maxLen])
  have BW : Hid (Below w6.heap.size w6 Wea1) := by rw [← hWea1]; exact below_alloc _ _
  have RA := Lib.hid ((RB.out.take (Nat.le_of_lt hk1)).step BW.out)
  have LA := Lib.hid (show ([] : List UInt8).length + kk1 ≤ 1000000000 by simp; omega)
  go_wp2_with (at_builtin; refine wpList_app8 rfl _ _ rfl w6.heap.size (.slice (some ⟨w6.heap.size, 0, none⟩) 0 0) ([]) rfl HO.out (some pRB) kk1 cRB _ (b1.take kk1) rfl (by simp) RA.out LA.out BW.out.size ?_; refine Hid.out ?_)
  refine Lib.hid ?_
  intro va1 w7 ho hg
  clear hWea1
  replace BW := Lib.hid (BW.out.grown hg BW.out.size (own_grown (w' := w) HO.out))
  obtain ⟨As, ns, cs, rfl, hcs, hms, -, rs⟩ := ho.row
  replace hms : cs ≤ 9223372036854775807 := hms
  try rw [List.nil_append] at rs
  replace Y := Lib.hid (Y.out.below BW.out Y.out.lt)
  replace RM := Lib.hid (RM.out.step BW.out)
  replace RB := Lib.hid (RB.out.step BW.out)
  replace RC := Lib.hid (RC.out.step BW.out)
  replace BB := Lib.hid (below_more BB.out BW.out)
  replace y_0 := Y.out.c0
  replace y_1 := Y.out.c1
  replace y_l := Y.out.lt
  have RS := Lib.hid rs
  clear rs hg ho HO RA LA BW
  go_wp2_with (first
    | (go_at_call 14; (with_reducible refine (GQ1.out _ _ _ _ hcs hms RS.out).mono ?_); rintro e w8 ⟨rfl, b8⟩; replace Y := Lib.hid ((Y.out.below b8 Y.out.lt).alloc (.cells #[.int .i64 0, .int .i64 0, .int .i64 0, .int .u64 0] 24)); have S := Lib.hid (Four.new w8 24 (.int .i64 0) (.int .i64 0) (.int .i64 0) (.int .u64 0)); replace BB := Lib.hid (below_more BB.out b8); have Gs := Lib.hid BB.out.size; replace BB := Lib.hid (BB.out.alloc BB.out.size (.cells #[.int .i64 0, .int .i64 0, .int .i64 0, .int .u64 0] 24)); replace RM := Lib.hid ((RM.out.step b8).step (below_alloc w8 (.cells #[.int .i64 0, .int .i64 0, .int .i64 0, .int .u64 0] 24))); replace RB := Lib.hid ((RB.out.step b8).step (below_alloc w8 (.cells #[.int .i64 0, .int .i64 0, .int .i64 0, .int .u64 0] 24))); replace RC := Lib.hid ((RC.out.step b8).step (below_alloc w8 (.cells #[.int .i64 0, .int .i64 0, .int .i64 0, .int .u64 0] 24))); replace RS := Lib.hid ((RS.out.step b8).step (below_alloc w8 (.cells #[.int .i64 0, .int .i64 0, .int .i64 0, .int .u64 0] 24))); replace y_0 := Y.out.c0; replace y_1 := Y.out.c1; replace y_l := Y.out.lt; replace s_0 := S.out.c0; replace s_1 := S.out.c1; replace s_2 := S.out.c2; replace s_3 := S.out.c3; replace s_l := S.out.lt; clear b8 GQ1)
    | (go_at_call 18; (with_reducible refine (GP1.out _ _ _ _ hcs hms RS.out).mono ?_); rintro e w9 ⟨rfl, b9⟩; replace Y := Lib.hid ((Y.out.below b9 Y.out.lt).alloc (.cells #[.int .i64 0, .int .i64 0, .int .i64 0, .int .u64 0, .int .i64 0, .int .i64 0, .int .i64 0, .int .i64 0, .int .i64 0, .int .i64 0] 30)); replace S := Lib.hid ((S.out.below b9 S.out.lt).alloc (.cells #[.int .i64 0, .int .i64 0, .int .i64 0, .int .u64 0, .int .i64 0, .int .i64 0, .int .i64 0, .int .i64 0, .int .i64 0, .int .i64 0] 30)); have T := Lib.hid (Cells.new w9 30 #[.int .i64 0, .int .i64 0, .int .i64 0, .int .u64 0, .int .i64 0, .int .i64 0, .int .i64 0, .int .i64 0, .int .i64 0, .int .i64 0]); replace BB := Lib.hid (below_more BB.out b9); have Gt := Lib.hid BB.out.size; replace BB := Lib.hid (BB.out.alloc BB.out.size (.cells #[.int .i64 0, .int .i64 0, .int .i64 0, .int .u64 0, .int .i64 0, .int .i64 0, .int .i64 0, .int .i64 0, .int .i64 0, .int .i64 0] 30)); replace RM := Lib.hid ((RM.out.step b9).step (below_alloc w9 (.cells #[.int .i64 0, .int .i64 0, .int .i64 0, .int .u64 0, .int .i64 0, .int .i64 0, .int .i64 0, .int .i64 0, .int .i64 0, .int .i64 0] 30))); replace RB := Lib.hid ((RB.out.step b9).step (below_alloc w9 (.cells #[.int .i64 0, .int .i64 0, .int .i64 0, .int .u64 0, .int .i64 0, .int .i64 0, .int .i64 0, .int .i64 0, .int .i64 0, .int .i64 0] 30))); replace RC := Lib.hid ((RC.out.step b9).step (below_alloc w9 (.cells #[.int .i64 0, .int .i64 0, .int .i64 0, .int .u64 0, .int .i64 0, .int .i64 0, .int .i64 0, .int .i64 0, .int .i64 0, .int .i64 0] 30))); replace RS := Lib.hid ((RS.out.step b9).step (below_alloc w9 (.cells #[.int .i64 0, .int .i64 0, .int .i64 0, .int .u64 0, .int .i64 0, .int .i64 0, .int .i64 0, .int .i64 0, .int .i64 0, .int .i64 0] 30))); replace y_0 := Y.out.c0; replace y_1 := Y.out.c1; replace y_l := Y.out.lt; replace s_0 := S.out.c0; replace s_1 := S.out.c1; replace s_2 := S.out.c2; replace s_3 := S.out.c3; replace s_l := S.out.lt; replace t_0 := T.out.c 0 rfl; replace t_1 := T.out.c 1 rfl; replace t_2 := T.out.c 2 rfl; replace t_3 := T.out.c 3 rfl; replace t_4 := T.out.c 4 rfl; replace t_5 := T.out.c 5 rfl; replace t_6 := T.out.c 6 rfl; replace t_7 := T.out.c 7 rfl; replace t_8 := T.out.c 8 rfl; replace t_9 := T.out.c 9 rfl; replace t_l := T.out.lt; clear b9 GP1; refine Hid.out ?_))
  refine Lib.hid ?_
  clear RS hcs hms
  go_wp2_with (at_builtin; refine Hid.out ?_)
  refine Lib.hid ?_
  clear S s_0 s_1 s_2 s_3 s_l T t_0 t_1 t_2 t_3 t_4 t_5 t_6 t_7 t_8 t_9 t_l
  try clear y_0 y_1 y_l
  obtain ⟨w10, hw10⟩ : ∃ W, (w9.alloc (.cells #[.int .i64 0, .int .i64 0, .int .i64 0, .int .u64 0, .int .i64 0, .int .i64 0, .int .i64 0, .int .i64 0, .int .i64 0, .int .i64 0] 30)) = W := ⟨_, rfl⟩
  rw [hw10] at BB RM RB RC Y ⊢
  have es : w10.heap.size = w9.heap.size + 1 := by rw [← hw10]; simp
  clear hw10
  have y_0 := Y.out.c0
  have y_1 := Y.out.c1
  have y_l := Y.out.lt
  obtain ⟨Web1, hWeb1⟩ : ∃ W, w10.alloc (.cells #[] 5) = W := ⟨_, rfl⟩
  have HO : Hid (Own w10.heap.size Web1 (.slice (some ⟨w9.heap.size + 1, 0, none⟩) 0 0) []) := by rw [← hWeb1, ← es]; exact own_new w10 [] w10.heap.size (Nat.le_refl _) (by simp [maxLen])
  have BW : Hid (Below w10.heap.size w10 Web1) := by rw [← hWeb1]; exact below_alloc _ _
  rw [hWeb1]
  clear es
  have RA := Lib.hid ((RB.out).step BW.out)
  have LA := Lib.hid (show ([] : List UInt8).length + nRB ≤ 1000000000 by simp; omega)
  refine (wpList_app8 rfl _ _ rfl w10.heap.size (.slice (some ⟨w9.heap.size + 1, 0, none⟩) 0 0) ([]) rfl HO.out (some pRB) nRB cRB _ (b1) rfl (by simp) RA.out LA.out BW.out.size ?_)
  refine Lib.hid ?_
  intro vb1 wb1 ho hg
  clear hWeb1
  replace BW := Lib.hid (BW.out.grown hg BW.out.size (own_grown (w' := w) HO.out))
  clear HO RA LA hg
  replace HO := Lib.hid ho
  clear ho
  try rw [List.nil_append] at HO
  have RA := Lib.hid ((RM.out).step BW.out)
  have LA := Lib.hid (show (b1 : List UInt8).length + len ≤ 1000000000 by have := RB.out.1; omega)
  go_wp2_with (at_builtin; refine wpList_app8 rfl _ _ rfl w10.heap.size (vb1) (b1) rfl HO.out A len cap _ (z) rfl hn RA.out LA.out BW.out.size ?_; refine Hid.out ?_)
  refine Lib.hid ?_
  intro vc1 w11 ho hg
  replace BW := Lib.hid (BW.out.grown hg BW.out.size (own_grown (w' := w) HO.out))
  obtain ⟨As, ns, cs, rfl, hcs, hms, -, rs⟩ := ho.row
  replace hms : cs ≤ 9223372036854775807 := hms
  replace Y := Lib.hid (Y.out.below BW.out Y.out.lt)
  replace RM := Lib.hid (RM.out.step BW.out)
  replace RB := Lib.hid (RB.out.step BW.out)
  replace RC := Lib.hid (RC.out.step BW.out)
  replace BB := Lib.hid (below_more BB.out BW.out)
  replace y_0 := Y.out.c0
  replace y_1 := Y.out.c1
  replace y_l := Y.out.lt
  have RS := Lib.hid rs
  clear rs hg ho HO RA LA BW
  go_wp2_with (first
    | (go_at_call 14; (with_reducible refine (HQ1.out _ _ _ _ hcs hms RS.out).mono ?_); rintro e w12 ⟨rfl, b12⟩; replace Y := Lib.hid ((Y.out.below b12 Y.out.lt).alloc (.cells #[.int .i64 h21, .int .i64 a21, .int .i64 r21, .int .u64 n21] 24)); have S := Lib.hid (Four.new w12 24 (.int .i64 h21) (.int .i64 a21) (.int .i64 r21) (.int .u64 n21)); replace BB := Lib.hid (below_more BB.out b12); have Gs := Lib.hid BB.out.size; replace BB := Lib.hid (BB.out.alloc BB.out.size (.cells #[.int .i64 h21, .int .i64 a21, .int .i64 r21, .int .u64 n21] 24)); replace RM := Lib.hid ((RM.out.step b12).step (below_alloc w12 (.cells #[.int .i64 h21, .int .i64 a21, .int .i64 r21, .int .u64 n21] 24))); replace RB := Lib.hid ((RB.out.step b12).step (below_alloc w12 (.cells #[.int .i64 h21, .int .i64 a21, .int .i64 r21, .int .u64 n21] 24))); replace RC := Lib.hid ((RC.out.step b12).step (below_alloc w12 (.cells #[.int .i64 h21, .int .i64 a21, .int .i64 r21, .int .u64 n21] 24))); replace RS := Lib.hid ((RS.out.step b12).step (below_alloc w12 (.cells #[.int .i64 h21, .int .i64 a21, .int .i64 r21, .int .u64 n21] 24))); replace y_0 := Y.out.c0; replace y_1 := Y.out.c1; replace y_l := Y.out.lt; replace s_0 := S.out.c0; replace s_1 := S.out.c1; replace s_2 := S.out.c2; replace s_3 := S.out.c3; replace s_l := S.out.lt; clear b12 HQ1)
    | (go_at_call 18; (with_reducible refine (HP1.out _ _ _ _ hcs hms RS.out).mono ?_); rintro e w13 ⟨rfl, b13⟩; replace Y := Lib.hid ((Y.out.below b13 Y.out.lt).alloc (.cells #[.int .i64 a31, .int .i64 h31, .int .i64 r31, .int .u64 n31, .int .i64 l31, .int .i64 g31, .int .i64 k31, .int .i64 t31, .int .i64 c31, .int .i64 s31] 30)); replace S := Lib.hid ((S.out.below b13 S.out.lt).alloc (.cells #[.int .i64 a31, .int .i64 h31, .int .i64 r31, .int .u64 n31, .int .i64 l31, .int .i64 g31, .int .i64 k31, .int .i64 t31, .int .i64 c31, .int .i64 s31] 30)); have T := Lib.hid (Cells.new w13 30 #[.int .i64 a31, .int .i64 h31, .int .i64 r31, .int .u64 n31, .int .i64 l31, .int .i64 g31, .int .i64 k31, .int .i64 t31, .int .i64 c31, .int .i64 s31]); replace BB := Lib.hid (below_more BB.out b13); have Gt := Lib.hid BB.out.size; replace BB := Lib.hid (BB.out.alloc BB.out.size (.cells #[.int .i64 a31, .int .i64 h31, .int .i64 r31, .int .u64 n31, .int .i64 l31, .int .i64 g31, .int .i64 k31, .int .i64 t31, .int .i64 c31, .int .i64 s31] 30)); replace RM := Lib.hid ((RM.out.step b13).step (below_alloc w13 (.cells #[.int .i64 a31, .int .i64 h31, .int .i64 r31, .int .u64 n31, .int .i64 l31, .int .i64 g31, .int .i64 k31, .int .i64 t31, .int .i64 c31, .int .i64 s31] 30))); replace RB := Lib.hid ((RB.out.step b13).step (below_alloc w13 (.cells #[.int .i64 a31, .int .i64 h31, .int .i64 r31, .int .u64 n31, .int .i64 l31, .int .i64 g31, .int .i64 k31, .int .i64 t31, .int .i64 c31, .int .i64 s31] 30))); replace RC := Lib.hid ((RC.out.step b13).step (below_alloc w13 (.cells #[.int .i64 a31, .int .i64 h31, .int .i64 r31, .int .u64 n31, .int .i64 l31, .int .i64 g31, .int .i64 k31, .int .i64 t31, .int .i64 c31, .int .i64 s31] 30))); replace RS := Lib.hid ((RS.out.step b13).step (below_alloc w13 (.cells #[.int .i64 a31, .int .i64 h31, .int .i64 r31, .int .u64 n31, .int .i64 l31, .int .i64 g31, .int .i64 k31, .int .i64 t31, .int .i64 c31, .int .i64 s31] 30))); replace y_0 := Y.out.c0; replace y_1 := Y.out.c1; replace y_l := Y.out.lt; replace s_0 := S.out.c0; replace s_1 := S.out.c1; replace s_2 := S.out.c2; replace s_3 := S.out.c3; replace s_l := S.out.lt; replace t_0 := T.out.c 0 rfl; replace t_1 := T.out.c 1 rfl; replace t_2 := T.out.c 2 rfl; replace t_3 := T.out.c 3 rfl; replace t_4 := T.out.c 4 rfl; replace t_5 := T.out.c 5 rfl; replace t_6 := T.out.c 6 rfl; replace t_7 := T.out.c 7 rfl; replace t_8 := T.out.c 8 rfl; replace t_9 := T.out.c 9 rfl; replace t_l := T.out.lt; clear b13 HP1))
  clear RS hcs hms
  rw [rounds_succ]
  clear S s_0 s_1 s_2 s_3 s_l T t_0 t_1 t_2 t_3 t_4 t_5 t_6 t_7 t_8 t_9 t_l
  try clear y_0 y_1 y_l
  obtain ⟨w14, hw14⟩ : ∃ W, (w13.alloc (.cells #[.int .i64 a31, .int .i64 h31, .int .i64 r31, .int .u64 n31, .int .i64 l31, .int .i64 g31, .int .i64 k31, .int .i64 t31, .int .i64 c31, .int .i64 s31] 30)) = W := ⟨_, rfl⟩
  rw [hw14] at BB RM RB RC Y ⊢
  clear hw14
  have y_0 := Y.out.c0
  have y_1 := Y.out.c1
  have y_l := Y.out.lt
  obtain ⟨Wea2, hWea2⟩ : ∃ W, w14.alloc (.cells #[] 5) = W := ⟨_, rfl⟩
  have HO : Hid (Own w14.heap.size Wea2 (.slice (some ⟨w14.heap.size, 0, none⟩) 0 0) []) := by rw [← hWea2]; exact own_new w14 [] w14.heap.size (Nat.le_refl _) (by simp [maxLen])
  have BW : Hid (Below w14.heap.size w14 Wea2) := by rw [← hWea2]; exact below_alloc _ _
  have RA := Lib.hid ((RC.out.take (Nat.le_of_lt hk2)).step BW.out)
  have LA := Lib.hid (show ([] : List UInt8).length + kk2 ≤ 1000000000 by simp; omega)
  go_wp2_with (at_builtin; refine wpList_app8 rfl _ _ rfl w14.heap.size (.slice (some ⟨w14.heap.size, 0, none⟩) 0 0) ([]) rfl HO.out (some pRC) kk2 cRC _ (b2.take kk2) rfl (by simp) RA.out LA.out BW.out.size ?_; refine Hid.out ?_)
  refine Lib.hid ?_
  intro va2 w15 ho hg
  clear hWea2
  replace BW := Lib.hid (BW.out.grown hg BW.out.size (own_grown (w' := w) HO.out))
  obtain ⟨As, ns, cs, rfl, hcs, hms, -, rs⟩ := ho.row
  replace hms : cs ≤ 9223372036854775807 := hms
  try rw [List.nil_append] at rs
  replace Y := Lib.hid (Y.out.below BW.out Y.out.lt)
  replace RM := Lib.hid (RM.out.step BW.out)
  replace RB := Lib.hid (RB.out.step BW.out)
  replace RC := Lib.hid (RC.out.step BW.out)
  replace BB := Lib.hid (below_more BB.out BW.out)
  replace y_0 := Y.out.c0
  replace y_1 := Y.out.c1
  replace y_l := Y.out.lt
  have RS := Lib.hid rs
  clear rs hg ho HO RA LA BW
  go_wp2_with (first
    | (go_at_call 14; (with_reducible refine (GQ2.out _ _ _ _ hcs hms RS.out).mono ?_); rintro e w16 ⟨rfl, b16⟩; replace Y := Lib.hid ((Y.out.below b16 Y.out.lt).alloc (.cells #[.int .i64 0, .int .i64 0, .int .i64 0, .int .u64 0] 24)); have S := Lib.hid (Four.new w16 24 (.int .i64 0) (.int .i64 0) (.int .i64 0) (.int .u64 0)); replace BB := Lib.hid (below_more BB.out b16); have Gs := Lib.hid BB.out.size; replace BB := Lib.hid (BB.out.alloc BB.out.size (.cells #[.int .i64 0, .int .i64 0, .int .i64 0, .int .u64 0] 24)); replace RM := Lib.hid ((RM.out.step b16).step (below_alloc w16 (.cells #[.int .i64 0, .int .i64 0, .int .i64 0, .int .u64 0] 24))); replace RB := Lib.hid ((RB.out.step b16).step (below_alloc w16 (.cells #[.int .i64 0, .int .i64 0, .int .i64 0, .int .u64 0] 24))); replace RC := Lib.hid ((RC.out.step b16).step (below_alloc w16 (.cells #[.int .i64 0, .int .i64 0, .int .i64 0, .int .u64 0] 24))); replace RS := Lib.hid ((RS.out.step b16).step (below_alloc w16 (.cells #[.int .i64 0, .int .i64 0, .int .i64 0, .int .u64 0] 24))); replace y_0 := Y.out.c0; replace y_1 := Y.out.c1; replace y_l := Y.out.lt; replace s_0 := S.out.c0; replace s_1 := S.out.c1; replace s_2 := S.out.c2; replace s_3 := S.out.c3; replace s_l := S.out.lt; clear b16 GQ2)
    | (go_at_call 18; (with_reducible refine (GP2.out _ _ _ _ hcs hms RS.out).mono ?_); rintro e w17 ⟨rfl, b17⟩; replace Y := Lib.hid ((Y.out.below b17 Y.out.lt).alloc (.cells #[.int .i64 0, .int .i64 0, .int .i64 0, .int .u64 0, .int .i64 0, .int .i64 0, .int .i64 0, .int .i64 0, .int .i64 0, .int .i64 0] 30)); replace S := Lib.hid ((S.out.below b17 S.out.lt).alloc (.cells #[.int .i64 0, .int .i64 0, .int .i64 0, .int .u64 0, .int .i64 0, .int .i64 0, .int .i64 0, .int .i64 0, .int .i64 0, .int .i64 0] 30)); have T := Lib.hid (Cells.new w17 30 #[.int .i64 0, .int .i64 0, .int .i64 0, .int .u64 0, .int .i64 0, .int .i64 0, .int .i64 0, .int .i64 0, .int .i64 0, .int .i64 0]); replace BB := Lib.hid (below_more BB.out b17); have Gt := Lib.hid BB.out.size; replace BB := Lib.hid (BB.out.alloc BB.out.size (.cells #[.int .i64 0, .int .i64 0, .int .i64 0, .int .u64 0, .int .i64 0, .int .i64 0, .int .i64 0, .int .i64 0, .int .i64 0, .int .i64 0] 30)); replace RM := Lib.hid ((RM.out.step b17).step (below_alloc w17 (.cells #[.int .i64 0, .int .i64 0, .int .i64 0, .int .u64 0, .int .i64 0, .int .i64 0, .int .i64 0, .int .i64 0, .int .i64 0, .int .i64 0] 30))); replace RB := Lib.hid ((RB.out.step b17).step (below_alloc w17 (.cells #[.int .i64 0, .int .i64 0, .int .i64 0, .int .u64 0, .int .i64 0, .int .i64 0, .int .i64 0, .int .i64 0, .int .i64 0, .int .i64 0] 30))); replace RC := Lib.hid ((RC.out.step b17).step (below_alloc w17 (.cells #[.int .i64 0, .int .i64 0, .int .i64 0, .int .u64 0, .int .i64 0, .int .i64 0, .int .i64 0, .int .i64 0, .int .i64 0, .int .i64 0] 30))); replace RS := Lib.hid ((RS.out.step b17).step (below_alloc w17 (.cells #[.int .i64 0, .int .i64 0, .int .i64 0, .int .u64 0, .int .i64 0, .int .i64 0, .int .i64 0, .int .i64 0, .int .i64 0, .int .i64 0] 30))); replace y_0 := Y.out.c0; replace y_1 := Y.out.c1; replace y_l := Y.out.lt; replace s_0 := S.out.c0; replace s_1 := S.out.c1; replace s_2 := S.out.c2; replace s_3 := S.out.c3; replace s_l := S.out.lt; replace t_0 := T.out.c 0 rfl; replace t_1 := T.out.c 1 rfl; replace t_2 := T.out.c 2 rfl; replace t_3 := T.out.c 3 rfl; replace t_4 := T.out.c 4 rfl; replace t_5 := T.out.c 5 rfl; replace t_6 := T.out.c 6 rfl; replace t_7 := T.out.c 7 rfl; replace t_8 := T.out.c 8 rfl; replace t_9 := T.out.c 9 rfl; replace t_l := T.out.lt; clear b17 GP2; refine Hid.out ?_))
  refine Lib.hid ?_
  clear RS hcs hms
  go_wp2_with (at_builtin; refine Hid.out ?_)
  refine Lib.hid ?_
  clear S s_0 s_1 s_2 s_3 s_l T t_0 t_1 t_2 t_3 t_4 t_5 t_6 t_7 t_8 t_9 t_l
  try clear y_0 y_1 y_l
  obtain ⟨w18, hw18⟩ : ∃ W, (w17.alloc (.cells #[.int .i64 0, .int .i64 0, .int .i64 0, .int .u64 0, .int .i64 0, .int .i64 0, .int .i64 0, .int .i64 0, .int .i64 0, .int .i64 0] 30)) = W := ⟨_, rfl⟩
  rw [hw18] at BB RM RB RC Y ⊢
  have es : w18.heap.size = w17.heap.size + 1 := by rw [← hw18]; simp
  clear hw18
  have y_0 := Y.out.c0
  have y_1 := Y.out.c1
  have y_l := Y.out.lt
  obtain ⟨Web2, hWeb2⟩ : ∃ W, w18.alloc (.cells #[] 5) = W := ⟨_, rfl⟩
  have HO : Hid (Own w18.heap.size Web2 (.slice (some ⟨w17.heap.size + 1, 0, none⟩) 0 0) []) := by rw [← hWeb2, ← es]; exact own_new w18 [] w18.heap.size (Nat.le_refl _) (by simp [maxLen])
  have BW : Hid (Below w18.heap.size w18 Web2) := by rw [← hWeb2]; exact below_alloc _ _
  rw [hWeb2]
  clear es
  have RA := Lib.hid ((RC.out).step BW.out)
  have LA := Lib.hid (show ([] : List UInt8).length + nRC ≤ 1000000000 by simp; omega)
  refine (wpList_app8 rfl _ _ rfl w18.heap.size (.slice (some ⟨w17.heap.size + 1, 0, none⟩) 0 0) ([]) rfl HO.out (some pRC) nRC cRC _ (b2) rfl (by simp) RA.out LA.out BW.out.size ?_)
  refine Lib.hid ?_
  intro vb2 wb2 ho hg
  clear hWeb2
  replace BW := Lib.hid (BW.out.grown hg BW.out.size (own_grown (w' := w) HO.out))
  clear HO RA LA hg
  replace HO := Lib.hid ho
  clear ho
  try rw [List.nil_append] at HO
  have RA := Lib.hid ((RM.out).step BW.out)
  have LA := Lib.hid (show (b2 : List UInt8).length + len ≤ 1000000000 by have := RC.out.1; omega)
  go_wp2_with (at_builtin; refine wpList_app8 rfl _ _ rfl w18.heap.size (vb2) (b2) rfl HO.out A len cap _ (z) rfl hn RA.out LA.out BW.out.size ?_; refine Hid.out ?_)
  refine Lib.hid ?_
  intro vc2 w19 ho hg
  replace BW := Lib.hid (BW.out.grown hg BW.out.size (own_grown (w' := w) HO.out))
  obtain ⟨As, ns, cs, rfl, hcs, hms, -, rs⟩ := ho.row
  replace hms : cs ≤ 9223372036854775807 := hms
  replace Y := Lib.hid (Y.out.below BW.out Y.out.lt)
  replace RM := Lib.hid (RM.out.step BW.out)
  replace RB := Lib.hid (RB.out.step BW.out)
  replace RC := Lib.hid (RC.out.step BW.out)
  replace BB := Lib.hid (below_more BB.out BW.out)
  replace y_0 := Y.out.c0
  replace y_1 := Y.out.c1
  replace y_l := Y.out.lt
  have RS := Lib.hid rs
  clear rs hg ho HO RA LA BW
  go_wp2_with (first
    | (go_at_call 14; (with_reducible refine (HQ2.out _ _ _ _ hcs hms RS.out).mono ?_); rintro e w20 ⟨rfl, b20⟩; replace Y := Lib.hid ((Y.out.below b20 Y.out.lt).alloc (.cells #[.int .i64 h22, .int .i64 a22, .int .i64 r22, .int .u64 n22] 24)); have S := Lib.hid (Four.new w20 24 (.int .i64 h22) (.int .i64 a22) (.int .i64 r22) (.int .u64 n22)); replace BB := Lib.hid (below_more BB.out b20); have Gs := Lib.hid BB.out.size; replace BB := Lib.hid (BB.out.alloc BB.out.size (.cells #[.int .i64 h22, .int .i64 a22, .int .i64 r22, .int .u64 n22] 24)); replace RM := Lib.hid ((RM.out.step b20).step (below_alloc w20 (.cells #[.int .i64 h22, .int .i64 a22, .int .i64 r22, .int .u64 n22] 24))); replace RB := Lib.hid ((RB.out.step b20).step (below_alloc w20 (.cells #[.int .i64 h22, .int .i64 a22, .int .i64 r22, .int .u64 n22] 24))); replace RC := Lib.hid ((RC.out.step b20).step (below_alloc w20 (.cells #[.int .i64 h22, .int .i64 a22, .int .i64 r22, .int .u64 n22] 24))); replace RS := Lib.hid ((RS.out.step b20).step (below_alloc w20 (.cells #[.int .i64 h22, .int .i64 a22, .int .i64 r22, .int .u64 n22] 24))); replace y_0 := Y.out.c0; replace y_1 := Y.out.c1; replace y_l := Y.out.lt; replace s_0 := S.out.c0; replace s_1 := S.out.c1; replace s_2 := S.out.c2; replace s_3 := S.out.c3; replace s_l := S.out.lt; clear b20 HQ2)
    | (go_at_call 18; (with_reducible refine (HP2.out _ _ _ _ hcs hms RS.out).mono ?_); rintro e w21 ⟨rfl, b21⟩; replace Y := Lib.hid ((Y.out.below b21 Y.out.lt).alloc (.cells #[.int .i64 a32, .int .i64 h32, .int .i64 r32, .int .u64 n32, .int .i64 l32, .int .i64 g32, .int .i64 k32, .int .i64 t32, .int .i64 c32, .int .i64 s32] 30)); replace S := Lib.hid ((S.out.below b21 S.out.lt).alloc (.cells #[.int .i64 a32, .int .i64 h32, .int .i64 r32, .int .u64 n32, .int .i64 l32, .int .i64 g32, .int .i64 k32, .int .i64 t32, .int .i64 c32, .int .i64 s32] 30)); have T := Lib.hid (Cells.new w21 30 #[.int .i64 a32, .int .i64 h32, .int .i64 r32, .int .u64 n32, .int .i64 l32, .int .i64 g32, .int .i64 k32, .int .i64 t32, .int .i64 c32, .int .i64 s32]); replace BB := Lib.hid (below_more BB.out b21); have Gt := Lib.hid BB.out.size; replace BB := Lib.hid (BB.out.alloc BB.out.size (.cells #[.int .i64 a32, .int .i64 h32, .int .i64 r32, .int .u64 n32, .int .i64 l32, .int .i64 g32, .int .i64 k32, .int .i64 t32, .int .i64 c32, .int .i64 s32] 30)); replace RM := Lib.hid ((RM.out.step b21).step (below_alloc w21 (.cells #[.int .i64 a32, .int .i64 h32, .int .i64 r32, .int .u64 n32, .int .i64 l32, .int .i64 g32, .int .i64 k32, .int .i64 t32, .int .i64 c32, .int .i64 s32] 30))); replace RB := Lib.hid ((RB.out.step b21).step (below_alloc w21 (.cells #[.int .i64 a32, .int .i64 h32, .int .i64 r32, .int .u64 n32, .int .i64 l32, .int .i64 g32, .int .i64 k32, .int .i64 t32, .int .i64 c32, .int .i64 s32] 30))); replace RC := Lib.hid ((RC.out.step b21).step (below_alloc w21 (.cells #[.int .i64 a32, .int .i64 h32, .int .i64 r32, .int .u64 n32, .int .i64 l32, .int .i64 g32, .int .i64 k32, .int .i64 t32, .int .i64 c32, .int .i64 s32] 30))); replace RS := Lib.hid ((RS.out.step b21).step (below_alloc w21 (.cells #[.int .i64 a32, .int .i64 h32, .int .i64 r32, .int .u64 n32, .int .i64 l32, .int .i64 g32, .int .i64 k32, .int .i64 t32, .int .i64 c32, .int .i64 s32] 30))); replace y_0 := Y.out.c0; replace y_1 := Y.out.c1; replace y_l := Y.out.lt; replace s_0 := S.out.c0; replace s_1 := S.out.c1; replace s_2 := S.out.c2; replace s_3 := S.out.c3; replace s_l := S.out.lt; replace t_0 := T.out.c 0 rfl; replace t_1 := T.out.c 1 rfl; replace t_2 := T.out.c 2 rfl; replace t_3 := T.out.c 3 rfl; replace t_4 := T.out.c 4 rfl; replace t_5 := T.out.c 5 rfl; replace t_6 := T.out.c 6 rfl; replace t_7 := T.out.c 7 rfl; replace t_8 := T.out.c 8 rfl; replace t_9 := T.out.c 9 rfl; replace t_l := T.out.lt; clear b21 HP2))
  clear RS hcs hms
  rw [rounds_succ]
  go_wp2_with fail
  go_ret
  exact ⟨by simp, BB.out⟩
theorem cuts_walk (G : Pkt) (q : Rq) (p : Rp) (hq : q.In) (hp : p.In) (x : Int) (hx : 0 ≤ x ∧ x ≤ 255) (A : Option Addr) (len cap : Nat) (z : List UInt8) (w : World) (hr : Row8 w.heap.size w A len z) (hl : len ≤ cap) (hc : cap ≤ 9223372036854775807) (hn : A = none → cap = 0) :
    Calls Try.prog 7 #[rqV q, rpV p, .int .u8 x, .slice A len cap] w (Gives (.bool true) w) := by
  by_cases h : q.Ok ∧ p.Ok ∧ len ≤ 50
  · obtain ⟨oq, op, h50⟩ := h
    by_cases h0 : 0 < len
    · exact cuts_more G q p hq hp x hx A len cap z w hr hl hc hn oq op h50 h0
    · exact cuts_none G q p hq hp x hx A len cap z w hr hl hc hn oq op h50 (by omega)
  · exact cuts_short G q p hq hp x hx A len cap z w hr hl hc h
end Go.Proofs.Ytmfbnajaocaikaa
