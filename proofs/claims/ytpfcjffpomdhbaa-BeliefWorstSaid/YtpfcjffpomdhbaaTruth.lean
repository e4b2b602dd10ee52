/- Layer 8: BeliefTruth (gen/gen_laws4.py writes this). -/
import Derived.Test.YtpfcjffpomdhbaaHead
import Derived.Test.YtpfcjffpomdhbaaBMath
namespace Go.Proofs.Ytpfcjffpomdhbaa
open Go.RowKit Go
set_option linter.unusedVariables false
set_option linter.unusedSimpArgs false

theorem up_coHi {r e : Int} (h1 : 0 ≤ r) (he : 0 ≤ e) : e ≤ coHi r e := by
  rw [le_coHi]
  have a := Int.mul_nonneg he h1
  rw [Int.mul_add]
  generalize e * r = z at *
  omega

set_option maxRecDepth 100000 in
set_option maxHeartbeats 16000000 in
theorem truth_walk (G : Blf) (p l h rt el wh ct : Int) (ip : I64 p) (il : I64 l) (ih : I64 h) (r1 : 0 ≤ rt) (r2 : rt ≤ 4294967295) (e1 : 0 ≤ el) (e2 : el ≤ 18446744073709551615) (w1 : 0 ≤ wh) (w2 : wh ≤ 18446744073709551615) (n1 : 0 ≤ ct) (n2 : ct ≤ 18446744073709551615) (w : World) :
    Calls Try.prog 4 #[blV p l h, .int .u32 rt, .int .u64 el, .int .u64 wh, .int .u64 ct] w (Gives (.bool true) w) := by
  have HD := Lib.hid (head_true G)
  by_cases q1 : BOk p l h
  · have VB := Lib.hid (rbel_any p l h true ⟨fun _ => q1, fun _ => rfl⟩ ip)
    obtain ⟨r, hr⟩ : ∃ r, rt % 1000001 = r := ⟨_, rfl⟩
    obtain ⟨e, he⟩ : ∃ e, el % 750000000000000 = e := ⟨_, rfl⟩
    have hr' : rt.tmod 1000001 = r := by rw [← hr]; exact Int.tmod_eq_emod_of_nonneg r1
    have g1 : 0 ≤ r := by omega
    have g2 : r ≤ 1000000 := by omega
    have g3 : 0 ≤ e := by omega
    have g4 : e ≤ 750000000000000 := by omega
    have C1 := Lib.hid (counts_any r e ⟨by omega, by omega⟩ ⟨by omega, by omega⟩)
    rw [show coR r e = (coLo r e, coHi r e, 0) from if_pos ⟨⟨g1, g2⟩, g3, by omega⟩] at C1
    dsimp only at C1
    have k1 := coLo_nonneg g2 g3
    have k2 := coLo_le_self g1 g3
    have k3 := up_coHi g1 g3
    have k4 := coHi_le g2 g3
    have CAN := Lib.hid (fun n => (co_can (r := r) (e := e) (c := n)).1)
    generalize coLo r e = c0 at C1 k1 k2 CAN
    generalize coHi r e = c1 at C1 k3 k4 CAN
    obtain ⟨dd, hdd⟩ : ∃ d, c1 - c0 + 1 = d := ⟨_, rfl⟩
    obtain ⟨kk, hkk⟩ : ∃ k, ct % dd = k := ⟨_, rfl⟩
    have f1 : 1 ≤ dd := by omega
    have f2 : dd ≤ 1500000000000002 := by omega
    have f3 : 0 ≤ kk := by rw [← hkk]; exact Int.emod_nonneg ct (by omega)
    have f4 : kk < dd := by rw [← hkk]; exact Int.emod_lt_of_pos ct (by omega)
    have f5 : (dd == 0) = false := by simp; omega
    obtain ⟨n, hn⟩ : ∃ n, c0 + kk = n := ⟨_, rfl⟩
    have can := CAN.out n ⟨by omega, by omega⟩
    clear CAN
    have IN := Lib.hid (ins_any l h wh q1.2 w1 w2)
    obtain ⟨t1, t2⟩ := ins_in (n := wh) q1.2
    generalize insR l h wh = t at IN t1 t2
    have TR := truth_at (t := t) q1 ⟨g1, g2⟩ g3 (by omega : 0 ≤ n) can t1 t2
    obtain ⟨⟨b1, b2⟩, b3, b4, b5⟩ := q1
    have d1 : decide (c0 < 0) = false := by simp; omega
    have d2 : decide (c1 < c0) = false := by simp; omega
    have j1 : 0 ≤ n := by omega
    have j2 : n ≤ 1500000000000001 := by omega
    obtain ⟨o, ho⟩ : ∃ o, p + n = o := ⟨_, rfl⟩
    obtain ⟨te, hte⟩ : ∃ z, t + e = z := ⟨_, rfl⟩
    unfold rgV at C1 IN
    unfold blV at VB ⊢
    by_cases c : 3000000000000000 < o
    · have d3 : decide (3000000000000000 < o) = true := by simp; omega
      clear TR can c G ip il ih
      obtain ⟨W, hW⟩ : ∃ W, (w.alloc (.cells #[.int .i64 p, .int .i64 l, .int .i64 h] 25)) = W := ⟨_, rfl⟩
      have B : Hid (Three W (w.heap.size) 25 (.int .i64 p) (.int .i64 l) (.int .i64 h)) := by
        rw [← hW]
        have k := Three.new w 25 (.int .i64 p) (.int .i64 l) (.int .i64 h)
        exact k
      have BB : Hid (Below w.heap.size w W) := by rw [← hW]; exact below_alloc w _
      have b_0 := B.out.c0
      have b_1 := B.out.c1
      have b_2 := B.out.c2
      have b_l := B.out.lt
      go_enter Try.func4, Try.ntmps4
      go_wp2_with (first
        | (go_at_call 11; (with_reducible refine (HD.out _).mono ?_); rintro e w1 ⟨rfl, b1⟩; replace B := Lib.hid (B.out.below b1 B.out.lt); replace BB := Lib.hid (below_more BB.out b1); replace b_0 := B.out.c0; replace b_1 := B.out.c1; replace b_2 := B.out.c2; replace b_l := B.out.lt; clear b1 HD)
        | (go_at_call 22; (with_reducible refine (VB.out _).mono ?_); rintro e w2 ⟨rfl, b2⟩; replace B := Lib.hid (B.out.below b2 B.out.lt); replace BB := Lib.hid (below_more BB.out b2); replace b_0 := B.out.c0; replace b_1 := B.out.c1; replace b_2 := B.out.c2; replace b_l := B.out.lt; clear b2 VB)
        | (go_at_call 23; (with_reducible refine (C1.out _).mono ?_); rintro e w3 ⟨rfl, b3⟩; replace B := Lib.hid ((B.out.below b3 B.out.lt).alloc (.cells #[.int .i64 c0, .int .i64 c1] 41)); have C := Lib.hid (Two.new w3 41 (.int .i64 c0) (.int .i64 c1)); replace BB := Lib.hid (below_more BB.out b3); have Gc := Lib.hid BB.out.size; replace BB := Lib.hid (BB.out.alloc BB.out.size (.cells #[.int .i64 c0, .int .i64 c1] 41)); replace b_0 := B.out.c0; replace b_1 := B.out.c1; replace b_2 := B.out.c2; replace b_l := B.out.lt; replace c_0 := C.out.c0; replace c_1 := C.out.c1; replace c_l := C.out.lt; clear b3 C1))
      go_quiet (fail)
      replace B := Lib.hid (B.out.below (below_draws (Below.refl _ _) nq) B.out.lt)
      replace C := Lib.hid (C.out.below (below_draws (Below.refl _ _) nq) C.out.lt)
      replace BB := Lib.hid (below_draws BB.out nq)
      replace b_0 := B.out.c0
      replace b_1 := B.out.c1
      replace b_2 := B.out.c2
      replace b_l := B.out.lt
      replace c_0 := C.out.c0
      replace c_1 := C.out.c1
      replace c_l := C.out.lt
      go_wp2_with (go_at_call 24; (with_reducible refine (IN.out _).mono ?_); rintro e w4 ⟨rfl, b4⟩; replace B := Lib.hid (B.out.below b4 B.out.lt); replace C := Lib.hid (C.out.below b4 C.out.lt); replace BB := Lib.hid (below_more BB.out b4); replace b_0 := B.out.c0; replace b_1 := B.out.c1; replace b_2 := B.out.c2; replace b_l := B.out.lt; replace c_0 := C.out.c0; replace c_1 := C.out.c1; replace c_l := C.out.lt; clear b4 IN)
      go_ret
      exact ⟨by simp, BB.out⟩
    · have d3 : decide (3000000000000000 < o) = false := by simp; omega
      by_cases c2 : 3000000000000000 < te
      · have d4 : decide (3000000000000000 < te) = true := by simp; omega
        clear TR can c c2 G ip il ih
        obtain ⟨W, hW⟩ : ∃ W, (w.alloc (.cells #[.int .i64 p, .int .i64 l, .int .i64 h] 25)) = W := ⟨_, rfl⟩
        have B : Hid (Three W (w.heap.size) 25 (.int .i64 p) (.int .i64 l) (.int .i64 h)) := by
          rw [← hW]
          have k := Three.new w 25 (.int .i64 p) (.int .i64 l) (.int .i64 h)
          exact k
        have BB : Hid (Below w.heap.size w W) := by rw [← hW]; exact below_alloc w _
        have b_0 := B.out.c0
        have b_1 := B.out.c1
        have b_2 := B.out.c2
        have b_l := B.out.lt
        go_enter Try.func4, Try.ntmps4
        go_wp2_with (first
          | (go_at_call 11; (with_reducible refine (HD.out _).mono ?_); rintro e w1 ⟨rfl, b1⟩; replace B := Lib.hid (B.out.below b1 B.out.lt); replace BB := Lib.hid (below_more BB.out b1); replace b_0 := B.out.c0; replace b_1 := B.out.c1; replace b_2 := B.out.c2; replace b_l := B.out.lt; clear b1 HD)
          | (go_at_call 22; (with_reducible refine (VB.out _).mono ?_); rintro e w2 ⟨rfl, b2⟩; replace B := Lib.hid (B.out.below b2 B.out.lt); replace BB := Lib.hid (below_more BB.out b2); replace b_0 := B.out.c0; replace b_1 := B.out.c1; replace b_2 := B.out.c2; replace b_l := B.out.lt; clear b2 VB)
          | (go_at_call 23; (with_reducible refine (C1.out _).mono ?_); rintro e w3 ⟨rfl, b3⟩; replace B := Lib.hid ((B.out.below b3 B.out.lt).alloc (.cells #[.int .i64 c0, .int .i64 c1] 41)); have C := Lib.hid (Two.new w3 41 (.int .i64 c0) (.int .i64 c1)); replace BB := Lib.hid (below_more BB.out b3); have Gc := Lib.hid BB.out.size; replace BB := Lib.hid (BB.out.alloc BB.out.size (.cells #[.int .i64 c0, .int .i64 c1] 41)); replace b_0 := B.out.c0; replace b_1 := B.out.c1; replace b_2 := B.out.c2; replace b_l := B.out.lt; replace c_0 := C.out.c0; replace c_1 := C.out.c1; replace c_l := C.out.lt; clear b3 C1))
        go_quiet (fail)
        replace B := Lib.hid (B.out.below (below_draws (Below.refl _ _) nq) B.out.lt)
        replace C := Lib.hid (C.out.below (below_draws (Below.refl _ _) nq) C.out.lt)
        replace BB := Lib.hid (below_draws BB.out nq)
        replace b_0 := B.out.c0
        replace b_1 := B.out.c1
        replace b_2 := B.out.c2
        replace b_l := B.out.lt
        replace c_0 := C.out.c0
        replace c_1 := C.out.c1
        replace c_l := C.out.lt
        go_wp2_with (go_at_call 24; (with_reducible refine (IN.out _).mono ?_); rintro e w4 ⟨rfl, b4⟩; replace B := Lib.hid (B.out.below b4 B.out.lt); replace C := Lib.hid (C.out.below b4 C.out.lt); replace BB := Lib.hid (below_more BB.out b4); replace b_0 := B.out.c0; replace b_1 := B.out.c1; replace b_2 := B.out.c2; replace b_l := B.out.lt; replace c_0 := C.out.c0; replace c_1 := C.out.c1; replace c_l := C.out.lt; clear b4 IN)
        go_ret
        exact ⟨by simp, BB.out⟩
      · have d4 : decide (3000000000000000 < te) = false := by simp; omega
        obtain ⟨TY, TN⟩ := TR (by omega) (by omega)
        have A1 := Lib.hid (G.at_ p l h r o ip il ih ⟨by omega, by omega⟩ ⟨by omega, by omega⟩)
        rw [ho] at TY TN
        by_cases c3 : n ≤ 1000000000000000
        · obtain ⟨x, y, E1, x1, x2⟩ := TY c3
          rw [E1] at A1
          dsimp only at A1
          have H1 := Lib.hid (rhas_any x y te)
          rw [show hasR x y te = true by unfold hasR; simp only [Bool.and_eq_true, decide_eq_true_eq]; omega] at H1
          unfold rgV at A1 H1
          unfold blV at A1
          clear TY TN can c c2 c3 G ip il ih E1 x1 x2
          obtain ⟨W, hW⟩ : ∃ W, (w.alloc (.cells #[.int .i64 p, .int .i64 l, .int .i64 h] 25)) = W := ⟨_, rfl⟩
          have B : Hid (Three W (w.heap.size) 25 (.int .i64 p) (.int .i64 l) (.int .i64 h)) := by
            rw [← hW]
            have k := Three.new w 25 (.int .i64 p) (.int .i64 l) (.int .i64 h)
            exact k
          have BB : Hid (Below w.heap.size w W) := by rw [← hW]; exact below_alloc w _
          have b_0 := B.out.c0
          have b_1 := B.out.c1
          have b_2 := B.out.c2
          have b_l := B.out.lt
          go_enter Try.func4, Try.ntmps4
          go_wp2_with (first
            | (go_at_call 11; (with_reducible refine (HD.out _).mono ?_); rintro e w1 ⟨rfl, b1⟩; replace B := Lib.hid (B.out.below b1 B.out.lt); replace BB := Lib.hid (below_more BB.out b1); replace b_0 := B.out.c0; replace b_1 := B.out.c1; replace b_2 := B.out.c2; replace b_l := B.out.lt; clear b1 HD)
            | (go_at_call 22; (with_reducible refine (VB.out _).mono ?_); rintro e w2 ⟨rfl, b2⟩; replace B := Lib.hid (B.out.below b2 B.out.lt); replace BB := Lib.hid (below_more BB.out b2); replace b_0 := B.out.c0; replace b_1 := B.out.c1; replace b_2 := B.out.c2; replace b_l := B.out.lt; clear b2 VB)
            | (go_at_call 23; (with_reducible refine (C1.out _).mono ?_); rintro e w3 ⟨rfl, b3⟩; replace B := Lib.hid ((B.out.below b3 B.out.lt).alloc (.cells #[.int .i64 c0, .int .i64 c1] 41)); have C := Lib.hid (Two.new w3 41 (.int .i64 c0) (.int .i64 c1)); replace BB := Lib.hid (below_more BB.out b3); have Gc := Lib.hid BB.out.size; replace BB := Lib.hid (BB.out.alloc BB.out.size (.cells #[.int .i64 c0, .int .i64 c1] 41)); replace b_0 := B.out.c0; replace b_1 := B.out.c1; replace b_2 := B.out.c2; replace b_l := B.out.lt; replace c_0 := C.out.c0; replace c_1 := C.out.c1; replace c_l := C.out.lt; clear b3 C1))
          go_quiet (fail)
          replace B := Lib.hid (B.out.below (below_draws (Below.refl _ _) nq) B.out.lt)
          replace C := Lib.hid (C.out.below (below_draws (Below.refl _ _) nq) C.out.lt)
          replace BB := Lib.hid (below_draws BB.out nq)
          replace b_0 := B.out.c0
          replace b_1 := B.out.c1
          replace b_2 := B.out.c2
          replace b_l := B.out.lt
          replace c_0 := C.out.c0
          replace c_1 := C.out.c1
          replace c_l := C.out.lt
          go_wp2_with (first
            | (go_at_call 24; (with_reducible refine (IN.out _).mono ?_); rintro e w4 ⟨rfl, b4⟩; replace B := Lib.hid (B.out.below b4 B.out.lt); replace C := Lib.hid (C.out.below b4 C.out.lt); replace BB := Lib.hid (below_more BB.out b4); replace b_0 := B.out.c0; replace b_1 := B.out.c1; replace b_2 := B.out.c2; replace b_l := B.out.lt; replace c_0 := C.out.c0; replace c_1 := C.out.c1; replace c_l := C.out.lt; clear b4 IN)
            | (go_at_call 14; (with_reducible refine (A1.out _).mono ?_); rintro e w5 ⟨rfl, b5⟩; replace B := Lib.hid ((B.out.below b5 B.out.lt).alloc (.cells #[.int .i64 x, .int .i64 y] 23)); replace C := Lib.hid ((C.out.below b5 C.out.lt).alloc (.cells #[.int .i64 x, .int .i64 y] 23)); have I := Lib.hid (Two.new w5 23 (.int .i64 x) (.int .i64 y)); replace BB := Lib.hid (below_more BB.out b5); have Gi := Lib.hid BB.out.size; replace BB := Lib.hid (BB.out.alloc BB.out.size (.cells #[.int .i64 x, .int .i64 y] 23)); replace b_0 := B.out.c0; replace b_1 := B.out.c1; replace b_2 := B.out.c2; replace b_l := B.out.lt; replace c_0 := C.out.c0; replace c_1 := C.out.c1; replace c_l := C.out.lt; replace i_0 := I.out.c0; replace i_1 := I.out.c1; replace i_l := I.out.lt; clear b5 A1)
            | (go_at_call 25; (with_reducible refine (H1.out _).mono ?_); rintro e w6 ⟨rfl, b6⟩; replace B := Lib.hid (B.out.below b6 B.out.lt); replace C := Lib.hid (C.out.below b6 C.out.lt); replace I := Lib.hid (I.out.below b6 I.out.lt); replace BB := Lib.hid (below_more BB.out b6); replace b_0 := B.out.c0; replace b_1 := B.out.c1; replace b_2 := B.out.c2; replace b_l := B.out.lt; replace c_0 := C.out.c0; replace c_1 := C.out.c1; replace c_l := C.out.lt; replace i_0 := I.out.c0; replace i_1 := I.out.c1; replace i_l := I.out.lt; clear b6 H1))
          go_ret
          exact ⟨by simp, BB.out⟩
        · have A1' := A1.out
          rw [TN (by omega)] at A1'
          dsimp only at A1'
          obtain ⟨x, hx⟩ : ∃ z : Int, 0 = z := ⟨_, rfl⟩
          obtain ⟨y, hy⟩ : ∃ z : Int, 0 = z := ⟨_, rfl⟩
          have A1 : Hid (∀ w, Calls Try.prog 14 #[.agg #[.int .i64 p, .int .i64 l, .int .i64 h], .int .i64 r, .int .i64 o] w (Gives (.tuple #[.agg #[.int .i64 x, .int .i64 y], .int .i64 3]) w)) := by subst hx hy; exact A1'
          have d5 : decide (1000000000000000 < n) = true := by simp; omega
          clear TY TN can c c2 c3 G ip il ih A1' hx hy
          obtain ⟨W, hW⟩ : ∃ W, (w.alloc (.cells #[.int .i64 p, .int .i64 l, .int .i64 h] 25)) = W := ⟨_, rfl⟩
          have B : Hid (Three W (w.heap.size) 25 (.int .i64 p) (.int .i64 l) (.int .i64 h)) := by
            rw [← hW]
            have k := Three.new w 25 (.int .i64 p) (.int .i64 l) (.int .i64 h)
            exact k
          have BB : Hid (Below w.heap.size w W) := by rw [← hW]; exact below_alloc w _
          have b_0 := B.out.c0
          have b_1 := B.out.c1
          have b_2 := B.out.c2
          have b_l := B.out.lt
          go_enter Try.func4, Try.ntmps4
          go_wp2_with (first
            | (go_at_call 11; (with_reducible refine (HD.out _).mono ?_); rintro e w1 ⟨rfl, b1⟩; replace B := Lib.hid (B.out.below b1 B.out.lt); replace BB := Lib.hid (below_more BB.out b1); replace b_0 := B.out.c0; replace b_1 := B.out.c1; replace b_2 := B.out.c2; replace b_l := B.out.lt; clear b1 HD)
            | (go_at_call 22; (with_reducible refine (VB.out _).mono ?_); rintro e w2 ⟨rfl, b2⟩; replace B := Lib.hid (B.out.below b2 B.out.lt); replace BB := Lib.hid (below_more BB.out b2); replace b_0 := B.out.c0; replace b_1 := B.out.c1; replace b_2 := B.out.c2; replace b_l := B.out.lt; clear b2 VB)
            | (go_at_call 23; (with_reducible refine (C1.out _).mono ?_); rintro e w3 ⟨rfl, b3⟩; replace B := Lib.hid ((B.out.below b3 B.out.lt).alloc (.cells #[.int .i64 c0, .int .i64 c1] 41)); have C := Lib.hid (Two.new w3 41 (.int .i64 c0) (.int .i64 c1)); replace BB := Lib.hid (below_more BB.out b3); have Gc := Lib.hid BB.out.size; replace BB := Lib.hid (BB.out.alloc BB.out.size (.cells #[.int .i64 c0, .int .i64 c1] 41)); replace b_0 := B.out.c0; replace b_1 := B.out.c1; replace b_2 := B.out.c2; replace b_l := B.out.lt; replace c_0 := C.out.c0; replace c_1 := C.out.c1; replace c_l := C.out.lt; clear b3 C1))
          go_quiet (fail)
          replace B := Lib.hid (B.out.below (below_draws (Below.refl _ _) nq) B.out.lt)
          replace C := Lib.hid (C.out.below (below_draws (Below.refl _ _) nq) C.out.lt)
          replace BB := Lib.hid (below_draws BB.out nq)
          replace b_0 := B.out.c0
          replace b_1 := B.out.c1
          replace b_2 := B.out.c2
          replace b_l := B.out.lt
          replace c_0 := C.out.c0
          replace c_1 := C.out.c1
          replace c_l := C.out.lt
          go_wp2_with (first
            | (go_at_call 24; (with_reducible refine (IN.out _).mono ?_); rintro e w4 ⟨rfl, b4⟩; replace B := Lib.hid (B.out.below b4 B.out.lt); replace C := Lib.hid (C.out.below b4 C.out.lt); replace BB := Lib.hid (below_more BB.out b4); replace b_0 := B.out.c0; replace b_1 := B.out.c1; replace b_2 := B.out.c2; replace b_l := B.out.lt; replace c_0 := C.out.c0; replace c_1 := C.out.c1; replace c_l := C.out.lt; clear b4 IN)
            | (go_at_call 14; (with_reducible refine (A1.out _).mono ?_); rintro e w5 ⟨rfl, b5⟩; replace B := Lib.hid ((B.out.below b5 B.out.lt).alloc (.cells #[.int .i64 x, .int .i64 y] 23)); replace C := Lib.hid ((C.out.below b5 C.out.lt).alloc (.cells #[.int .i64 x, .int .i64 y] 23)); have I := Lib.hid (Two.new w5 23 (.int .i64 x) (.int .i64 y)); replace BB := Lib.hid (below_more BB.out b5); have Gi := Lib.hid BB.out.size; replace BB := Lib.hid (BB.out.alloc BB.out.size (.cells #[.int .i64 x, .int .i64 y] 23)); replace b_0 := B.out.c0; replace b_1 := B.out.c1; replace b_2 := B.out.c2; replace b_l := B.out.lt; replace c_0 := C.out.c0; replace c_1 := C.out.c1; replace c_l := C.out.lt; replace i_0 := I.out.c0; replace i_1 := I.out.c1; replace i_l := I.out.lt; clear b5 A1))
          go_ret
          exact ⟨by simp, BB.out⟩
  · have VB := Lib.hid (rbel_any p l h false ⟨fun h => (by cases h), fun h => absurd h q1⟩ ip)
    clear q1 G ip il ih
    unfold blV at VB ⊢
    obtain ⟨W, hW⟩ : ∃ W, (w.alloc (.cells #[.int .i64 p, .int .i64 l, .int .i64 h] 25)) = W := ⟨_, rfl⟩
    have B : Hid (Three W (w.heap.size) 25 (.int .i64 p) (.int .i64 l) (.int .i64 h)) := by
      rw [← hW]
      have k := Three.new w 25 (.int .i64 p) (.int .i64 l) (.int .i64 h)
      exact k
    have BB : Hid (Below w.heap.size w W) := by rw [← hW]; exact below_alloc w _
    have b_0 := B.out.c0
    have b_1 := B.out.c1
    have b_2 := B.out.c2
    have b_l := B.out.lt
    go_enter Try.func4, Try.ntmps4
    go_wp2_with (first
      | (go_at_call 11; (with_reducible refine (HD.out _).mono ?_); rintro e w1 ⟨rfl, b1⟩; replace B := Lib.hid (B.out.below b1 B.out.lt); replace BB := Lib.hid (below_more BB.out b1); replace b_0 := B.out.c0; replace b_1 := B.out.c1; replace b_2 := B.out.c2; replace b_l := B.out.lt; clear b1 HD)
      | (go_at_call 22; (with_reducible refine (VB.out _).mono ?_); rintro e w2 ⟨rfl, b2⟩; replace B := Lib.hid (B.out.below b2 B.out.lt); replace BB := Lib.hid (below_more BB.out b2); replace b_0 := B.out.c0; replace b_1 := B.out.c1; replace b_2 := B.out.c2; replace b_l := B.out.lt; clear b2 VB))
    go_ret
    exact ⟨by simp, BB.out⟩
end Go.Proofs.Ytpfcjffpomdhbaa
