/- Layer 8: BeliefSteps (gen/gen_laws3.py writes this). -/
import Derived.Test.YtpfcjffpomdhbaaHead
import Derived.Test.YtpfcjffpomdhbaaBMath
namespace Go.Proofs.Ytpfcjffpomdhbaa
open Go.RowKit Go
set_option linter.unusedVariables false
set_option linter.unusedSimpArgs false

set_option maxRecDepth 100000 in
set_option maxHeartbeats 16000000 in
theorem steps_walk (G : Blf) (p l h rt on tw : Int) (ip : I64 p) (il0 : I64 l) (ih0 : I64 h) (r1 : 0 ≤ rt) (r2 : rt ≤ 4294967295) (n1 : 0 ≤ on) (n2 : on ≤ 18446744073709551615) (m1 : 0 ≤ tw) (m2 : tw ≤ 18446744073709551615) (w : World) :
    Calls Try.prog 6 #[blV p l h, .int .u32 rt, .int .u64 on, .int .u64 tw] w (Gives (.bool true) w) := by
  have HD := Lib.hid (head_true G)
  by_cases q1 : BOk p l h
  · have VB := Lib.hid (rbel_any p l h true ⟨fun _ => q1, fun _ => rfl⟩ ip)
    obtain ⟨r, hr⟩ : ∃ r, rt % 1000001 = r := ⟨_, rfl⟩
    obtain ⟨m, hm⟩ : ∃ m, on % 100000000000000 = m := ⟨_, rfl⟩
    obtain ⟨n, hn⟩ : ∃ n, tw % 100000000000000 = n := ⟨_, rfl⟩
    have hr' : rt.tmod 1000001 = r := by rw [← hr]; exact Int.tmod_eq_emod_of_nonneg r1
    have g1 : 0 ≤ r := by omega
    have g2 : r ≤ 1000000 := by omega
    have g3 : 0 ≤ m := by omega
    have g4 : m ≤ 100000000000000 := by omega
    have g5 : 0 ≤ n := by omega
    have g6 : n ≤ 100000000000000 := by omega
    obtain ⟨b1, b2⟩ := q1.1
    obtain ⟨o1, ho1⟩ : ∃ o, p + m = o := ⟨_, rfl⟩
    obtain ⟨o2, ho2⟩ : ∃ o, o1 + n = o := ⟨_, rfl⟩
    by_cases c : o2 ≤ 3000000000000000
    · have d1 : decide (3000000000000000 < o2) = false := by simp; omega
      obtain ⟨_, X1, K1⟩ := adv_ok (m := m) q1 ⟨g1, g2⟩ g3 (by omega) (by omega)
      obtain ⟨_, X2, _⟩ := adv_ok (m := n) K1 ⟨g1, g2⟩ g5 (by omega) (by omega)
      obtain ⟨X3, _, _⟩ := adv_ok (m := m + n) q1 ⟨g1, g2⟩ (by omega) (by omega) (by omega)
      have k1 := elHi_add g1 g2 g3 g5
      have k2 : r = 0 → elLo r m = m ∧ elHi r m = m ∧ elLo r n = n ∧ elHi r n = n ∧ elLo r (m + n) = m + n ∧ elHi r (m + n) = m + n := fun z => by
        subst z
        exact ⟨(exact_el g3).1, (exact_el g3).2, (exact_el g5).1, (exact_el g5).2, (exact_el (by omega)).1, (exact_el (by omega)).2⟩
      have k3 := elHi_nonneg g1 g2 g5
      obtain ⟨⟨_, _⟩, e1, e2, e3⟩ := K1
      obtain ⟨cl, hcl⟩ : ∃ x, min 3000000000000000 (l + elLo r m) = x := ⟨_, rfl⟩
      obtain ⟨ch, hch⟩ : ∃ x, min 3000000000000000 (h + elHi r m) = x := ⟨_, rfl⟩
      rw [hcl, hch] at X1 X2 e2
      rw [hcl] at e1
      rw [hch] at e3
      obtain ⟨dl, hdl⟩ : ∃ x, min 3000000000000000 (cl + elLo r n) = x := ⟨_, rfl⟩
      obtain ⟨dh, hdh⟩ : ∃ x, min 3000000000000000 (ch + elHi r n) = x := ⟨_, rfl⟩
      rw [hdl, hdh] at X2
      obtain ⟨il, hil⟩ : ∃ x, min 3000000000000000 (l + elLo r (m + n)) = x := ⟨_, rfl⟩
      obtain ⟨ih, hih⟩ : ∃ x, min 3000000000000000 (h + elHi r (m + n)) = x := ⟨_, rfl⟩
      rw [hil, hih, show p + (m + n) = o2 by omega] at X3
      rw [ho1] at X1 X2
      rw [ho2] at X2
      have A1 := Lib.hid (G.adv p l h r o1 ip il0 ih0 ⟨by omega, by omega⟩ ⟨by omega, by omega⟩)
      have A2 := Lib.hid (G.adv o1 cl ch r o2 ⟨by omega, by omega⟩ ⟨by omega, by omega⟩ ⟨by omega, by omega⟩ ⟨by omega, by omega⟩ ⟨by omega, by omega⟩)
      have A3 := Lib.hid (G.at_ p l h r o2 ip il0 ih0 ⟨by omega, by omega⟩ ⟨by omega, by omega⟩)
      rw [X1] at A1
      rw [X2] at A2
      rw [X3] at A3
      have f1 : decide (ih ≤ dh) = true := by simp; omega
      have z0 : r = 0 → dl = il ∧ dh = ih := fun z => by
        obtain ⟨a1, a2, a3, a4, a5, a6⟩ := k2 z
        omega
      dsimp only at A1 A2 A3
      clear q1 X1 X2 X3 k1 k2 k3 e1 e2 e3 hcl hch hdl hdh hil hih G ip il0 ih0
      unfold rgV at A3
      unfold blV at VB A1 A2 A3 ⊢
      obtain ⟨W, hW⟩ : ∃ W, (w.alloc (.cells #[.int .i64 p, .int .i64 l, .int .i64 h] 25)) = W := ⟨_, rfl⟩
      have B : Hid (Three W (w.heap.size) 25 (.int .i64 p) (.int .i64 l) (.int .i64 h)) := by
        rw [← hW]
        have k := Three.new w 25 (.int .i64 p) (.int .i64 l) (.int .i64 h)
        exact k
      have BB : Hid (Below w.heap.size w W) := by rw [← hW]; exact below_alloc w _
      have b_0 := B.out.c0
      have b_1 := B.out.c1
      have b_2 := B.out.c2
      have b_l := B.out.lt
      by_cases z : r = 0
      · obtain ⟨rfl, rfl⟩ := z0 z
        have f2 : decide (0 < r) = false := by simp; omega
        have HZ := Lib.hid z
        clear z0 z
        go_enter Try.func6, Try.ntmps6
        go_wp2_with (first
          | (go_at_call 11; (with_reducible refine (HD.out _).mono ?_); rintro e w1 ⟨rfl, b1⟩; replace B := Lib.hid (B.out.below b1 B.out.lt); replace BB := Lib.hid (below_more BB.out b1); replace b_0 := B.out.c0; replace b_1 := B.out.c1; replace b_2 := B.out.c2; replace b_l := B.out.lt; clear b1 HD)
          | (go_at_call 22; (with_reducible refine (VB.out _).mono ?_); rintro e w2 ⟨rfl, b2⟩; replace B := Lib.hid (B.out.below b2 B.out.lt); replace BB := Lib.hid (below_more BB.out b2); replace b_0 := B.out.c0; replace b_1 := B.out.c1; replace b_2 := B.out.c2; replace b_l := B.out.lt; clear b2 VB)
          | (go_at_call 16; (with_reducible refine (A1.out _).mono ?_); rintro e w3 ⟨rfl, b3⟩; replace B := Lib.hid ((B.out.below b3 B.out.lt).alloc (.cells #[.int .i64 o1, .int .i64 cl, .int .i64 ch] 25)); have C := Lib.hid (Three.new w3 25 (.int .i64 o1) (.int .i64 cl) (.int .i64 ch)); replace BB := Lib.hid (below_more BB.out b3); have Gc := Lib.hid BB.out.size; replace BB := Lib.hid (BB.out.alloc BB.out.size (.cells #[.int .i64 o1, .int .i64 cl, .int .i64 ch] 25)); replace b_0 := B.out.c0; replace b_1 := B.out.c1; replace b_2 := B.out.c2; replace b_l := B.out.lt; replace c_0 := C.out.c0; replace c_1 := C.out.c1; replace c_2 := C.out.c2; replace c_l := C.out.lt; clear b3 A1)
          | (go_at_call 16; (with_reducible refine (A2.out _).mono ?_); rintro e w4 ⟨rfl, b4⟩; replace B := Lib.hid ((B.out.below b4 B.out.lt).alloc (.cells #[.int .i64 o2, .int .i64 dl, .int .i64 dh] 25)); replace C := Lib.hid ((C.out.below b4 C.out.lt).alloc (.cells #[.int .i64 o2, .int .i64 dl, .int .i64 dh] 25)); have D := Lib.hid (Three.new w4 25 (.int .i64 o2) (.int .i64 dl) (.int .i64 dh)); replace BB := Lib.hid (below_more BB.out b4); have Gd := Lib.hid BB.out.size; replace BB := Lib.hid (BB.out.alloc BB.out.size (.cells #[.int .i64 o2, .int .i64 dl, .int .i64 dh] 25)); replace b_0 := B.out.c0; replace b_1 := B.out.c1; replace b_2 := B.out.c2; replace b_l := B.out.lt; replace c_0 := C.out.c0; replace c_1 := C.out.c1; replace c_2 := C.out.c2; replace c_l := C.out.lt; replace d_0 := D.out.c0; replace d_1 := D.out.c1; replace d_2 := D.out.c2; replace d_l := D.out.lt; clear b4 A2)
          | (go_at_call 14; (with_reducible refine (A3.out _).mono ?_); rintro e w5 ⟨rfl, b5⟩; replace B := Lib.hid ((B.out.below b5 B.out.lt).alloc (.cells #[.int .i64 dl, .int .i64 dh] 23)); replace C := Lib.hid ((C.out.below b5 C.out.lt).alloc (.cells #[.int .i64 dl, .int .i64 dh] 23)); replace D := Lib.hid ((D.out.below b5 D.out.lt).alloc (.cells #[.int .i64 dl, .int .i64 dh] 23)); have I := Lib.hid (Two.new w5 23 (.int .i64 dl) (.int .i64 dh)); replace BB := Lib.hid (below_more BB.out b5); have Gi := Lib.hid BB.out.size; replace BB := Lib.hid (BB.out.alloc BB.out.size (.cells #[.int .i64 dl, .int .i64 dh] 23)); replace b_0 := B.out.c0; replace b_1 := B.out.c1; replace b_2 := B.out.c2; replace b_l := B.out.lt; replace c_0 := C.out.c0; replace c_1 := C.out.c1; replace c_2 := C.out.c2; replace c_l := C.out.lt; replace d_0 := D.out.c0; replace d_1 := D.out.c1; replace d_2 := D.out.c2; replace d_l := D.out.lt; replace i_0 := I.out.c0; replace i_1 := I.out.c1; replace i_l := I.out.lt; clear b5 A3))
        go_ret
        exact ⟨by simp, BB.out⟩
      · have f2 : decide (0 < r) = true := by simp; omega
        clear z0 z
        go_enter Try.func6, Try.ntmps6
        go_wp2_with (first
          | (go_at_call 11; (with_reducible refine (HD.out _).mono ?_); rintro e w1 ⟨rfl, b1⟩; replace B := Lib.hid (B.out.below b1 B.out.lt); replace BB := Lib.hid (below_more BB.out b1); replace b_0 := B.out.c0; replace b_1 := B.out.c1; replace b_2 := B.out.c2; replace b_l := B.out.lt; clear b1 HD)
          | (go_at_call 22; (with_reducible refine (VB.out _).mono ?_); rintro e w2 ⟨rfl, b2⟩; replace B := Lib.hid (B.out.below b2 B.out.lt); replace BB := Lib.hid (below_more BB.out b2); replace b_0 := B.out.c0; replace b_1 := B.out.c1; replace b_2 := B.out.c2; replace b_l := B.out.lt; clear b2 VB)
          | (go_at_call 16; (with_reducible refine (A1.out _).mono ?_); rintro e w3 ⟨rfl, b3⟩; replace B := Lib.hid ((B.out.below b3 B.out.lt).alloc (.cells #[.int .i64 o1, .int .i64 cl, .int .i64 ch] 25)); have C := Lib.hid (Three.new w3 25 (.int .i64 o1) (.int .i64 cl) (.int .i64 ch)); replace BB := Lib.hid (below_more BB.out b3); have Gc := Lib.hid BB.out.size; replace BB := Lib.hid (BB.out.alloc BB.out.size (.cells #[.int .i64 o1, .int .i64 cl, .int .i64 ch] 25)); replace b_0 := B.out.c0; replace b_1 := B.out.c1; replace b_2 := B.out.c2; replace b_l := B.out.lt; replace c_0 := C.out.c0; replace c_1 := C.out.c1; replace c_2 := C.out.c2; replace c_l := C.out.lt; clear b3 A1)
          | (go_at_call 16; (with_reducible refine (A2.out _).mono ?_); rintro e w4 ⟨rfl, b4⟩; replace B := Lib.hid ((B.out.below b4 B.out.lt).alloc (.cells #[.int .i64 o2, .int .i64 dl, .int .i64 dh] 25)); replace C := Lib.hid ((C.out.below b4 C.out.lt).alloc (.cells #[.int .i64 o2, .int .i64 dl, .int .i64 dh] 25)); have D := Lib.hid (Three.new w4 25 (.int .i64 o2) (.int .i64 dl) (.int .i64 dh)); replace BB := Lib.hid (below_more BB.out b4); have Gd := Lib.hid BB.out.size; replace BB := Lib.hid (BB.out.alloc BB.out.size (.cells #[.int .i64 o2, .int .i64 dl, .int .i64 dh] 25)); replace b_0 := B.out.c0; replace b_1 := B.out.c1; replace b_2 := B.out.c2; replace b_l := B.out.lt; replace c_0 := C.out.c0; replace c_1 := C.out.c1; replace c_2 := C.out.c2; replace c_l := C.out.lt; replace d_0 := D.out.c0; replace d_1 := D.out.c1; replace d_2 := D.out.c2; replace d_l := D.out.lt; clear b4 A2)
          | (go_at_call 14; (with_reducible refine (A3.out _).mono ?_); rintro e w5 ⟨rfl, b5⟩; replace B := Lib.hid ((B.out.below b5 B.out.lt).alloc (.cells #[.int .i64 il, .int .i64 ih] 23)); replace C := Lib.hid ((C.out.below b5 C.out.lt).alloc (.cells #[.int .i64 il, .int .i64 ih] 23)); replace D := Lib.hid ((D.out.below b5 D.out.lt).alloc (.cells #[.int .i64 il, .int .i64 ih] 23)); have I := Lib.hid (Two.new w5 23 (.int .i64 il) (.int .i64 ih)); replace BB := Lib.hid (below_more BB.out b5); have Gi := Lib.hid BB.out.size; replace BB := Lib.hid (BB.out.alloc BB.out.size (.cells #[.int .i64 il, .int .i64 ih] 23)); replace b_0 := B.out.c0; replace b_1 := B.out.c1; replace b_2 := B.out.c2; replace b_l := B.out.lt; replace c_0 := C.out.c0; replace c_1 := C.out.c1; replace c_2 := C.out.c2; replace c_l := C.out.lt; replace d_0 := D.out.c0; replace d_1 := D.out.c1; replace d_2 := D.out.c2; replace d_l := D.out.lt; replace i_0 := I.out.c0; replace i_1 := I.out.c1; replace i_l := I.out.lt; clear b5 A3))
        go_ret
        exact ⟨by simp, BB.out⟩
    · have d1 : decide (3000000000000000 < o2) = true := by simp; omega
      clear q1 c G ip il0 ih0
      unfold blV at VB ⊢
      obtain ⟨W, hW⟩ : ∃ W, (w.alloc (.cells #[.int .i64 p, .int .i64 l, .int .i64 h] 25)) = W := ⟨_, rfl⟩
      have B : Hid (Three W (w.heap.size) 25 (.int .i64 p) (.int .i64 l) (.int .i64 h)) := by
        rw [← hW]
        have k := Three.new w 25 (.int .i64 p) (.int .i64 l) (.int .i64 h)
        exact k
      have BB : Hid (Below w.heap.size w W) := by rw [← hW]; exact below_alloc w _
      have b_0 := B.out.c0
      have b_1 := B.out.c1
      have b_2 := B.out.c2
      have b_l := B.out.lt
      go_enter Try.func6, Try.ntmps6
      go_wp2_with (first
        | (go_at_call 11; (with_reducible refine (HD.out _).mono ?_); rintro e w1 ⟨rfl, b1⟩; replace B := Lib.hid (B.out.below b1 B.out.lt); replace BB := Lib.hid (below_more BB.out b1); replace b_0 := B.out.c0; replace b_1 := B.out.c1; replace b_2 := B.out.c2; replace b_l := B.out.lt; clear b1 HD)
        | (go_at_call 22; (with_reducible refine (VB.out _).mono ?_); rintro e w2 ⟨rfl, b2⟩; replace B := Lib.hid (B.out.below b2 B.out.lt); replace BB := Lib.hid (below_more BB.out b2); replace b_0 := B.out.c0; replace b_1 := B.out.c1; replace b_2 := B.out.c2; replace b_l := B.out.lt; clear b2 VB))
      go_ret
      exact ⟨by simp, BB.out⟩
  · have VB := Lib.hid (rbel_any p l h false ⟨fun h => (by cases h), fun h => absurd h q1⟩ ip)
    clear q1 G ip il0 ih0
    unfold blV at VB ⊢
    obtain ⟨W, hW⟩ : ∃ W, (w.alloc (.cells #[.int .i64 p, .int .i64 l, .int .i64 h] 25)) = W := ⟨_, rfl⟩
    have B : Hid (Three W (w.heap.size) 25 (.int .i64 p) (.int .i64 l) (.int .i64 h)) := by
      rw [← hW]
      have k := Three.new w 25 (.int .i64 p) (.int .i64 l) (.int .i64 h)
      exact k
    have BB : Hid (Below w.heap.size w W) := by rw [← hW]; exact below_alloc w _
    have b_0 := B.out.c0
    have b_1 := B.out.c1
    have b_2 := B.out.c2
    have b_l := B.out.lt
    go_enter Try.func6, Try.ntmps6
    go_wp2_with (first
      | (go_at_call 11; (with_reducible refine (HD.out _).mono ?_); rintro e w1 ⟨rfl, b1⟩; replace B := Lib.hid (B.out.below b1 B.out.lt); replace BB := Lib.hid (below_more BB.out b1); replace b_0 := B.out.c0; replace b_1 := B.out.c1; replace b_2 := B.out.c2; replace b_l := B.out.lt; clear b1 HD)
      | (go_at_call 22; (with_reducible refine (VB.out _).mono ?_); rintro e w2 ⟨rfl, b2⟩; replace B := Lib.hid (B.out.below b2 B.out.lt); replace BB := Lib.hid (below_more BB.out b2); replace b_0 := B.out.c0; replace b_1 := B.out.c1; replace b_2 := B.out.c2; replace b_l := B.out.lt; clear b2 VB))
    go_ret
    exact ⟨by simp, BB.out⟩
end Go.Proofs.Ytpfcjffpomdhbaa
