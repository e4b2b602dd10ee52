/- Layer 8: BeliefEnds (gen/gen_laws5.py writes this). -/
import Derived.Test.YtpfcjffpomdhbaaHead
import Derived.Test.YtpfcjffpomdhbaaBMath
namespace Go.Proofs.Ytpfcjffpomdhbaa
open Go.RowKit Go
set_option linter.unusedVariables false
set_option linter.unusedSimpArgs false

/-- Block g holds just four cells. -/
def Four (w : World) (g : Nat) (t : TypeId) (u v x y : Value) : Prop := w.heap[g]? = some (.cells #[u, v, x, y] t (0, 0))
section
variable {w : World} {g : Nat} {t : TypeId} {u v x y : Value}
theorem Four.lt (h : Four w g t u v x y) : g < w.heap.size := by
  rcases Nat.lt_or_ge g w.heap.size with hl | hl
  · exact hl
  · unfold Four at h; rw [Array.getElem?_eq_none hl] at h; cases h
theorem Four.c0 (h : Four w g t u v x y) : w.cell? ⟨g, 0, none⟩ = some u := cell_of_row w g 0 _ t (0, 0) h
theorem Four.c1 (h : Four w g t u v x y) : w.cell? ⟨g, 1, none⟩ = some v := cell_of_row w g 1 _ t (0, 0) h
theorem Four.c2 (h : Four w g t u v x y) : w.cell? ⟨g, 2, none⟩ = some x := cell_of_row w g 2 _ t (0, 0) h
theorem Four.c3 (h : Four w g t u v x y) : w.cell? ⟨g, 3, none⟩ = some y := cell_of_row w g 3 _ t (0, 0) h
theorem Four.new (w : World) (t : TypeId) (u v x y : Value) : Four (w.alloc (.cells #[u, v, x, y] t)) w.heap.size t u v x y := heap_alloc_new w _
theorem Four.below {B : Nat} {w' : World} (h : Four w g t u v x y) (hb : Below B w w') (hg : g < B) : Four w' g t u v x y := (hb.block g hg).trans h
theorem Four.alloc (h : Four w g t u v x y) (o : Obj) : Four (w.alloc o) g t u v x y := h.below (below_alloc w o) h.lt
end

set_option maxRecDepth 100000 in
set_option maxHeartbeats 16000000 in
theorem ends_walk (G : Blf) (p l h rt ct : Int) (ip : I64 p) (il : I64 l) (ih : I64 h) (r1 : 0 ≤ rt) (r2 : rt ≤ 4294967295) (n1 : 0 ≤ ct) (n2 : ct ≤ 18446744073709551615) (w : World) :
    Calls Try.prog 5 #[blV p l h, .int .u32 rt, .int .u64 ct] w (Gives (.bool true) w) := by
  have HD := Lib.hid (head_true G)
  by_cases q1 : BOk p l h
  · have VB := Lib.hid (rbel_any p l h true ⟨fun _ => q1, fun _ => rfl⟩ ip)
    obtain ⟨r, hr⟩ : ∃ r, rt % 1000001 = r := ⟨_, rfl⟩
    obtain ⟨n, hn⟩ : ∃ n, ct % 900000000000000 = n := ⟨_, rfl⟩
    have hr' : rt.tmod 1000001 = r := by rw [← hr]; exact Int.tmod_eq_emod_of_nonneg r1
    have g1 : 0 ≤ r := by omega
    have g2 : r ≤ 1000000 := by omega
    have g3 : 0 ≤ n := by omega
    have g4 : n ≤ 900000000000000 := by omega
    obtain ⟨o, ho⟩ : ∃ o, p + n = o := ⟨_, rfl⟩
    have b1 := q1.1.1
    have b2 := q1.1.2
    by_cases c : o ≤ 3000000000000000
    · have d1 : decide (3000000000000000 < o) = false := by simp; omega
      obtain ⟨E1, _, _⟩ := adv_ok (m := n) q1 ⟨g1, g2⟩ g3 (by omega) (by omega)
      rw [ho] at E1
      have A1 := Lib.hid (G.at_ p l h r o ip il ih ⟨by omega, by omega⟩ ⟨by omega, by omega⟩)
      rw [E1] at A1
      dsimp only at A1
      have k1 := elLo_nonneg g1 g3
      have k2 := elLo_up g1 g3
      have k3 := up_elHi g1 g2 g3
      have k4 := elHi_top ⟨g1, g2⟩ g3 g4
      obtain ⟨_, b3, b4, b5⟩ := q1
      have CO := Lib.hid (fun e he he2 h1 h2 => ends_co (r := r) (n := n) (e := e) ⟨g1, g2⟩ g3 he he2 h1 h2)
      obtain ⟨u, hu⟩ : ∃ u, elLo r n = u := ⟨_, rfl⟩
      obtain ⟨v, hv⟩ : ∃ v, elHi r n = v := ⟨_, rfl⟩
      rw [hu] at A1 k1 k2 CO
      rw [hv] at A1 k3 k4 CO
      obtain ⟨x, hx⟩ : ∃ x, min 3000000000000000 (l + u) = x := ⟨_, rfl⟩
      obtain ⟨y, hy⟩ : ∃ y, min 3000000000000000 (h + v) = y := ⟨_, rfl⟩
      rw [hx, hy] at A1
      have CX := CO.out u k1 (by omega) (by omega) (by omega)
      have CY := CO.out v (by omega) k4 (by omega) (by omega)
      have C1 := Lib.hid (counts_any r u ⟨by omega, by omega⟩ ⟨by omega, by omega⟩)
      have C2 := Lib.hid (counts_any r v ⟨by omega, by omega⟩ ⟨by omega, by omega⟩)
      rw [CX.1] at C1
      rw [CY.1] at C2
      dsimp only at C1 C2
      obtain ⟨_, x1, x2⟩ := CX
      obtain ⟨_, y1, y2⟩ := CY
      generalize coLo r u = c0 at C1 x1
      generalize coHi r u = c1 at C1 x2
      generalize coLo r v = d0 at C2 y1
      generalize coHi r v = d1 at C2 y2
      have f1 : decide (n < c0) = false := by simp; omega
      have f2 : decide (c1 < n) = false := by simp; omega
      have f3 : decide (n < d0) = false := by simp; omega
      have f4 : decide (d1 < n) = false := by simp; omega
      have z1 : x ≠ 3000000000000000 → x - l = u := fun q => by omega
      have z2 : y ≠ 3000000000000000 → y - h = v := fun q => by omega
      clear hx hy hu hv CO E1 G ip il ih
      unfold rgV at A1 C1 C2
      unfold blV at VB A1 ⊢
      by_cases m1 : x = 3000000000000000
      · have s1 : (x == 3000000000000000) = true := by simp [m1]
        have M1 := Lib.hid m1
        clear m1 z1 C1
        by_cases m2 : y = 3000000000000000
        · have s2 : (y == 3000000000000000) = true := by simp [m2]
          have M2 := Lib.hid m2
          clear m2 z2 C2
          obtain ⟨W, hW⟩ : ∃ W, (w.alloc (.cells #[.int .i64 p, .int .i64 l, .int .i64 h] 25)) = W := ⟨_, rfl⟩
          have B : Hid (Three W (w.heap.size) 25 (.int .i64 p) (.int .i64 l) (.int .i64 h)) := by
            rw [← hW]
            have k := Three.new w 25 (.int .i64 p) (.int .i64 l) (.int .i64 h)
            exact k
          have BB : Hid (Below w.heap.size w W) := by rw [← hW]; exact below_alloc w _
          have b_0 := B.out.c0
          have b_1 := B.out.c1
          have b_2 := B.out.c2
          have b_l := B.out.lt
          go_enter Try.func5, Try.ntmps5
          go_wp2_with (first
            | (go_at_call 11; (with_reducible refine (HD.out _).mono ?_); rintro e w1 ⟨rfl, b1⟩; replace B := Lib.hid (B.out.below b1 B.out.lt); replace BB := Lib.hid (below_more BB.out b1); replace b_0 := B.out.c0; replace b_1 := B.out.c1; replace b_2 := B.out.c2; replace b_l := B.out.lt; clear b1 HD)
            | (go_at_call 22; (with_reducible refine (VB.out _).mono ?_); rintro e w2 ⟨rfl, b2⟩; replace B := Lib.hid (B.out.below b2 B.out.lt); replace BB := Lib.hid (below_more BB.out b2); replace b_0 := B.out.c0; replace b_1 := B.out.c1; replace b_2 := B.out.c2; replace b_l := B.out.lt; clear b2 VB)
            | (go_at_call 14; (with_reducible refine (A1.out _).mono ?_); rintro e w3 ⟨rfl, b3⟩; replace B := Lib.hid ((B.out.below b3 B.out.lt).alloc (.cells #[.int .i64 x, .int .i64 y] 23)); have I := Lib.hid (Two.new w3 23 (.int .i64 x) (.int .i64 y)); replace BB := Lib.hid (below_more BB.out b3); have Gi := Lib.hid BB.out.size; replace BB := Lib.hid (BB.out.alloc BB.out.size (.cells #[.int .i64 x, .int .i64 y] 23)); replace b_0 := B.out.c0; replace b_1 := B.out.c1; replace b_2 := B.out.c2; replace b_l := B.out.lt; replace i_0 := I.out.c0; replace i_1 := I.out.c1; replace i_l := I.out.lt; clear b3 A1))
          have F := Lib.hid (Four.new (w3.alloc (.cells #[.int .i64 x, .int .i64 y] 23)) 47 (.int .i64 x) (.int .i64 l) (.int .i64 y) (.int .i64 h))
          rw [show (w3.alloc (.cells #[.int .i64 x, .int .i64 y] 23)).heap.size = w3.heap.size + 1 by simp] at F
          replace B := Lib.hid (B.out.alloc (.cells #[.int .i64 x, .int .i64 l, .int .i64 y, .int .i64 h] 47))
          replace I := Lib.hid (I.out.alloc (.cells #[.int .i64 x, .int .i64 l, .int .i64 y, .int .i64 h] 47))
          replace BB := Lib.hid (BB.out.alloc BB.out.size (.cells #[.int .i64 x, .int .i64 l, .int .i64 y, .int .i64 h] 47))
          replace b_0 := B.out.c0
          replace b_1 := B.out.c1
          replace b_2 := B.out.c2
          replace b_l := B.out.lt
          replace i_0 := I.out.c0
          replace i_1 := I.out.c1
          replace i_l := I.out.lt
          replace f_0 := F.out.c0
          replace f_1 := F.out.c1
          replace f_2 := F.out.c2
          replace f_3 := F.out.c3
          replace f_l := F.out.lt
          obtain ⟨wn, hwn⟩ : ∃ wn, (w3.alloc (.cells #[.int .i64 x, .int .i64 y] 23)).alloc (.cells #[.int .i64 x, .int .i64 l, .int .i64 y, .int .i64 h] 47) = wn := ⟨_, rfl⟩
          rw [hwn] at F B I BB
          try rw [hwn]
          replace b_0 := B.out.c0
          replace b_1 := B.out.c1
          replace b_2 := B.out.c2
          replace b_l := B.out.lt
          replace i_0 := I.out.c0
          replace i_1 := I.out.c1
          replace i_l := I.out.lt
          replace f_0 := F.out.c0
          replace f_1 := F.out.c1
          replace f_2 := F.out.c2
          replace f_3 := F.out.c3
          replace f_l := F.out.lt
          clear hwn
          refine wp_loop_rounds 3 ?_
          rw [rounds_succ]
          go_wp2_with fail
          rw [rounds_succ]
          go_wp2_with fail
          rw [rounds_succ]
          go_wp2_with fail
          replace B := Lib.hid (B.out.alloc (.cells #[.int .i64 x, .int .i64 l] 47))
          replace I := Lib.hid (I.out.alloc (.cells #[.int .i64 x, .int .i64 l] 47))
          replace F := Lib.hid (F.out.alloc (.cells #[.int .i64 x, .int .i64 l] 47))
          replace BB := Lib.hid (BB.out.alloc BB.out.size (.cells #[.int .i64 x, .int .i64 l] 47))
          replace B := Lib.hid (B.out.alloc (.cells #[.int .i64 y, .int .i64 h] 47))
          replace I := Lib.hid (I.out.alloc (.cells #[.int .i64 y, .int .i64 h] 47))
          replace F := Lib.hid (F.out.alloc (.cells #[.int .i64 y, .int .i64 h] 47))
          replace BB := Lib.hid (BB.out.alloc BB.out.size (.cells #[.int .i64 y, .int .i64 h] 47))
          go_ret
          exact ⟨by simp, BB.out⟩
        · have s2 : (y == 3000000000000000) = false := by simp; omega
          have s3 := z2 m2
          clear m2 z2
          obtain ⟨W, hW⟩ : ∃ W, (w.alloc (.cells #[.int .i64 p, .int .i64 l, .int .i64 h] 25)) = W := ⟨_, rfl⟩
          have B : Hid (Three W (w.heap.size) 25 (.int .i64 p) (.int .i64 l) (.int .i64 h)) := by
            rw [← hW]
            have k := Three.new w 25 (.int .i64 p) (.int .i64 l) (.int .i64 h)
            exact k
          have BB : Hid (Below w.heap.size w W) := by rw [← hW]; exact below_alloc w _
          have b_0 := B.out.c0
          have b_1 := B.out.c1
          have b_2 := B.out.c2
          have b_l := B.out.lt
          go_enter Try.func5, Try.ntmps5
          go_wp2_with (first
            | (go_at_call 11; (with_reducible refine (HD.out _).mono ?_); rintro e w1 ⟨rfl, b1⟩; replace B := Lib.hid (B.out.below b1 B.out.lt); replace BB := Lib.hid (below_more BB.out b1); replace b_0 := B.out.c0; replace b_1 := B.out.c1; replace b_2 := B.out.c2; replace b_l := B.out.lt; clear b1 HD)
            | (go_at_call 22; (with_reducible refine (VB.out _).mono ?_); rintro e w2 ⟨rfl, b2⟩; replace B := Lib.hid (B.out.below b2 B.out.lt); replace BB := Lib.hid (below_more BB.out b2); replace b_0 := B.out.c0; replace b_1 := B.out.c1; replace b_2 := B.out.c2; replace b_l := B.out.lt; clear b2 VB)
            | (go_at_call 14; (with_reducible refine (A1.out _).mono ?_); rintro e w3 ⟨rfl, b3⟩; replace B := Lib.hid ((B.out.below b3 B.out.lt).alloc (.cells #[.int .i64 x, .int .i64 y] 23)); have I := Lib.hid (Two.new w3 23 (.int .i64 x) (.int .i64 y)); replace BB := Lib.hid (below_more BB.out b3); have Gi := Lib.hid BB.out.size; replace BB := Lib.hid (BB.out.alloc BB.out.size (.cells #[.int .i64 x, .int .i64 y] 23)); replace b_0 := B.out.c0; replace b_1 := B.out.c1; replace b_2 := B.out.c2; replace b_l := B.out.lt; replace i_0 := I.out.c0; replace i_1 := I.out.c1; replace i_l := I.out.lt; clear b3 A1))
          have F := Lib.hid (Four.new (w3.alloc (.cells #[.int .i64 x, .int .i64 y] 23)) 47 (.int .i64 x) (.int .i64 l) (.int .i64 y) (.int .i64 h))
          rw [show (w3.alloc (.cells #[.int .i64 x, .int .i64 y] 23)).heap.size = w3.heap.size + 1 by simp] at F
          replace B := Lib.hid (B.out.alloc (.cells #[.int .i64 x, .int .i64 l, .int .i64 y, .int .i64 h] 47))
          replace I := Lib.hid (I.out.alloc (.cells #[.int .i64 x, .int .i64 l, .int .i64 y, .int .i64 h] 47))
          replace BB := Lib.hid (BB.out.alloc BB.out.size (.cells #[.int .i64 x, .int .i64 l, .int .i64 y, .int .i64 h] 47))
          replace b_0 := B.out.c0
          replace b_1 := B.out.c1
          replace b_2 := B.out.c2
          replace b_l := B.out.lt
          replace i_0 := I.out.c0
          replace i_1 := I.out.c1
          replace i_l := I.out.lt
          replace f_0 := F.out.c0
          replace f_1 := F.out.c1
          replace f_2 := F.out.c2
          replace f_3 := F.out.c3
          replace f_l := F.out.lt
          obtain ⟨wn, hwn⟩ : ∃ wn, (w3.alloc (.cells #[.int .i64 x, .int .i64 y] 23)).alloc (.cells #[.int .i64 x, .int .i64 l, .int .i64 y, .int .i64 h] 47) = wn := ⟨_, rfl⟩
          rw [hwn] at F B I BB
          try rw [hwn]
          replace b_0 := B.out.c0
          replace b_1 := B.out.c1
          replace b_2 := B.out.c2
          replace b_l := B.out.lt
          replace i_0 := I.out.c0
          replace i_1 := I.out.c1
          replace i_l := I.out.lt
          replace f_0 := F.out.c0
          replace f_1 := F.out.c1
          replace f_2 := F.out.c2
          replace f_3 := F.out.c3
          replace f_l := F.out.lt
          clear hwn
          refine wp_loop_rounds 3 ?_
          rw [rounds_succ]
          go_wp2_with fail
          rw [rounds_succ]
          go_wp2_with (go_at_call 23; (with_reducible refine (C2.out _).mono ?_); rintro e w4 ⟨rfl, b4⟩; replace B := Lib.hid (B.out.alloc (.cells #[.int .i64 x, .int .i64 l] 47)); replace I := Lib.hid (I.out.alloc (.cells #[.int .i64 x, .int .i64 l] 47)); replace F := Lib.hid (F.out.alloc (.cells #[.int .i64 x, .int .i64 l] 47)); replace BB := Lib.hid (BB.out.alloc BB.out.size (.cells #[.int .i64 x, .int .i64 l] 47)); replace b_0 := B.out.c0; replace b_1 := B.out.c1; replace b_2 := B.out.c2; replace b_l := B.out.lt; replace i_0 := I.out.c0; replace i_1 := I.out.c1; replace i_l := I.out.lt; replace f_0 := F.out.c0; replace f_1 := F.out.c1; replace f_2 := F.out.c2; replace f_3 := F.out.c3; replace f_l := F.out.lt; replace B := Lib.hid (B.out.alloc (.cells #[.int .i64 y, .int .i64 h] 47)); replace I := Lib.hid (I.out.alloc (.cells #[.int .i64 y, .int .i64 h] 47)); replace F := Lib.hid (F.out.alloc (.cells #[.int .i64 y, .int .i64 h] 47)); replace BB := Lib.hid (BB.out.alloc BB.out.size (.cells #[.int .i64 y, .int .i64 h] 47)); replace b_0 := B.out.c0; replace b_1 := B.out.c1; replace b_2 := B.out.c2; replace b_l := B.out.lt; replace i_0 := I.out.c0; replace i_1 := I.out.c1; replace i_l := I.out.lt; replace f_0 := F.out.c0; replace f_1 := F.out.c1; replace f_2 := F.out.c2; replace f_3 := F.out.c3; replace f_l := F.out.lt; replace B := Lib.hid ((B.out.below b4 B.out.lt).alloc (.cells #[.int .i64 d0, .int .i64 d1] 41)); replace I := Lib.hid ((I.out.below b4 I.out.lt).alloc (.cells #[.int .i64 d0, .int .i64 d1] 41)); replace F := Lib.hid ((F.out.below b4 F.out.lt).alloc (.cells #[.int .i64 d0, .int .i64 d1] 41)); have D := Lib.hid (Two.new w4 41 (.int .i64 d0) (.int .i64 d1)); replace BB := Lib.hid (below_more BB.out b4); have Gd := Lib.hid BB.out.size; replace BB := Lib.hid (BB.out.alloc BB.out.size (.cells #[.int .i64 d0, .int .i64 d1] 41)); replace b_0 := B.out.c0; replace b_1 := B.out.c1; replace b_2 := B.out.c2; replace b_l := B.out.lt; replace i_0 := I.out.c0; replace i_1 := I.out.c1; replace i_l := I.out.lt; replace f_0 := F.out.c0; replace f_1 := F.out.c1; replace f_2 := F.out.c2; replace f_3 := F.out.c3; replace f_l := F.out.lt; replace d_0 := D.out.c0; replace d_1 := D.out.c1; replace d_l := D.out.lt; clear b4 C2)
          rw [rounds_succ]
          go_wp2_with fail
          go_ret
          exact ⟨by simp, BB.out⟩
      · have s1 : (x == 3000000000000000) = false := by simp; omega
        have s0 := z1 m1
        clear m1 z1
        by_cases m2 : y = 3000000000000000
        · have s2 : (y == 3000000000000000) = true := by simp [m2]
          have M2 := Lib.hid m2
          clear m2 z2 C2
          obtain ⟨W, hW⟩ : ∃ W, (w.alloc (.cells #[.int .i64 p, .int .i64 l, .int .i64 h] 25)) = W := ⟨_, rfl⟩
          have B : Hid (Three W (w.heap.size) 25 (.int .i64 p) (.int .i64 l) (.int .i64 h)) := by
            rw [← hW]
            have k := Three.new w 25 (.int .i64 p) (.int .i64 l) (.int .i64 h)
            exact k
          have BB : Hid (Below w.heap.size w W) := by rw [← hW]; exact below_alloc w _
          have b_0 := B.out.c0
          have b_1 := B.out.c1
          have b_2 := B.out.c2
          have b_l := B.out.lt
          go_enter Try.func5, Try.ntmps5
          go_wp2_with (first
            | (go_at_call 11; (with_reducible refine (HD.out _).mono ?_); rintro e w1 ⟨rfl, b1⟩; replace B := Lib.hid (B.out.below b1 B.out.lt); replace BB := Lib.hid (below_more BB.out b1); replace b_0 := B.out.c0; replace b_1 := B.out.c1; replace b_2 := B.out.c2; replace b_l := B.out.lt; clear b1 HD)
            | (go_at_call 22; (with_reducible refine (VB.out _).mono ?_); rintro e w2 ⟨rfl, b2⟩; replace B := Lib.hid (B.out.below b2 B.out.lt); replace BB := Lib.hid (below_more BB.out b2); replace b_0 := B.out.c0; replace b_1 := B.out.c1; replace b_2 := B.out.c2; replace b_l := B.out.lt; clear b2 VB)
            | (go_at_call 14; (with_reducible refine (A1.out _).mono ?_); rintro e w3 ⟨rfl, b3⟩; replace B := Lib.hid ((B.out.below b3 B.out.lt).alloc (.cells #[.int .i64 x, .int .i64 y] 23)); have I := Lib.hid (Two.new w3 23 (.int .i64 x) (.int .i64 y)); replace BB := Lib.hid (below_more BB.out b3); have Gi := Lib.hid BB.out.size; replace BB := Lib.hid (BB.out.alloc BB.out.size (.cells #[.int .i64 x, .int .i64 y] 23)); replace b_0 := B.out.c0; replace b_1 := B.out.c1; replace b_2 := B.out.c2; replace b_l := B.out.lt; replace i_0 := I.out.c0; replace i_1 := I.out.c1; replace i_l := I.out.lt; clear b3 A1))
          have F := Lib.hid (Four.new (w3.alloc (.cells #[.int .i64 x, .int .i64 y] 23)) 47 (.int .i64 x) (.int .i64 l) (.int .i64 y) (.int .i64 h))
          rw [show (w3.alloc (.cells #[.int .i64 x, .int .i64 y] 23)).heap.size = w3.heap.size + 1 by simp] at F
          replace B := Lib.hid (B.out.alloc (.cells #[.int .i64 x, .int .i64 l, .int .i64 y, .int .i64 h] 47))
          replace I := Lib.hid (I.out.alloc (.cells #[.int .i64 x, .int .i64 l, .int .i64 y, .int .i64 h] 47))
          replace BB := Lib.hid (BB.out.alloc BB.out.size (.cells #[.int .i64 x, .int .i64 l, .int .i64 y, .int .i64 h] 47))
          replace b_0 := B.out.c0
          replace b_1 := B.out.c1
          replace b_2 := B.out.c2
          replace b_l := B.out.lt
          replace i_0 := I.out.c0
          replace i_1 := I.out.c1
          replace i_l := I.out.lt
          replace f_0 := F.out.c0
          replace f_1 := F.out.c1
          replace f_2 := F.out.c2
          replace f_3 := F.out.c3
          replace f_l := F.out.lt
          obtain ⟨wn, hwn⟩ : ∃ wn, (w3.alloc (.cells #[.int .i64 x, .int .i64 y] 23)).alloc (.cells #[.int .i64 x, .int .i64 l, .int .i64 y, .int .i64 h] 47) = wn := ⟨_, rfl⟩
          rw [hwn] at F B I BB
          try rw [hwn]
          replace b_0 := B.out.c0
          replace b_1 := B.out.c1
          replace b_2 := B.out.c2
          replace b_l := B.out.lt
          replace i_0 := I.out.c0
          replace i_1 := I.out.c1
          replace i_l := I.out.lt
          replace f_0 := F.out.c0
          replace f_1 := F.out.c1
          replace f_2 := F.out.c2
          replace f_3 := F.out.c3
          replace f_l := F.out.lt
          clear hwn
          refine wp_loop_rounds 3 ?_
          rw [rounds_succ]
          go_wp2_with (go_at_call 23; (with_reducible refine (C1.out _).mono ?_); rintro e w4 ⟨rfl, b4⟩; replace B := Lib.hid (B.out.alloc (.cells #[.int .i64 x, .int .i64 l] 47)); replace I := Lib.hid (I.out.alloc (.cells #[.int .i64 x, .int .i64 l] 47)); replace F := Lib.hid (F.out.alloc (.cells #[.int .i64 x, .int .i64 l] 47)); replace BB := Lib.hid (BB.out.alloc BB.out.size (.cells #[.int .i64 x, .int .i64 l] 47)); replace b_0 := B.out.c0; replace b_1 := B.out.c1; replace b_2 := B.out.c2; replace b_l := B.out.lt; replace i_0 := I.out.c0; replace i_1 := I.out.c1; replace i_l := I.out.lt; replace f_0 := F.out.c0; replace f_1 := F.out.c1; replace f_2 := F.out.c2; replace f_3 := F.out.c3; replace f_l := F.out.lt; replace B := Lib.hid ((B.out.below b4 B.out.lt).alloc (.cells #[.int .i64 c0, .int .i64 c1] 41)); replace I := Lib.hid ((I.out.below b4 I.out.lt).alloc (.cells #[.int .i64 c0, .int .i64 c1] 41)); replace F := Lib.hid ((F.out.below b4 F.out.lt).alloc (.cells #[.int .i64 c0, .int .i64 c1] 41)); have C := Lib.hid (Two.new w4 41 (.int .i64 c0) (.int .i64 c1)); replace BB := Lib.hid (below_more BB.out b4); have Gc := Lib.hid BB.out.size; replace BB := Lib.hid (BB.out.alloc BB.out.size (.cells #[.int .i64 c0, .int .i64 c1] 41)); replace b_0 := B.out.c0; replace b_1 := B.out.c1; replace b_2 := B.out.c2; replace b_l := B.out.lt; replace i_0 := I.out.c0; replace i_1 := I.out.c1; replace i_l := I.out.lt; replace f_0 := F.out.c0; replace f_1 := F.out.c1; replace f_2 := F.out.c2; replace f_3 := F.out.c3; replace f_l := F.out.lt; replace c_0 := C.out.c0; replace c_1 := C.out.c1; replace c_l := C.out.lt; clear b4 C1)
          rw [rounds_succ]
          go_wp2_with fail
          rw [rounds_succ]
          go_wp2_with fail
          replace B := Lib.hid (B.out.alloc (.cells #[.int .i64 y, .int .i64 h] 47))
          replace I := Lib.hid (I.out.alloc (.cells #[.int .i64 y, .int .i64 h] 47))
          replace F := Lib.hid (F.out.alloc (.cells #[.int .i64 y, .int .i64 h] 47))
          replace C := Lib.hid (C.out.alloc (.cells #[.int .i64 y, .int .i64 h] 47))
          replace BB := Lib.hid (BB.out.alloc BB.out.size (.cells #[.int .i64 y, .int .i64 h] 47))
          go_ret
          exact ⟨by simp, BB.out⟩
        · have s2 : (y == 3000000000000000) = false := by simp; omega
          have s3 := z2 m2
          clear m2 z2
          obtain ⟨W, hW⟩ : ∃ W, (w.alloc (.cells #[.int .i64 p, .int .i64 l, .int .i64 h] 25)) = W := ⟨_, rfl⟩
          have B : Hid (Three W (w.heap.size) 25 (.int .i64 p) (.int .i64 l) (.int .i64 h)) := by
            rw [← hW]
            have k := Three.new w 25 (.int .i64 p) (.int .i64 l) (.int .i64 h)
            exact k
          have BB : Hid (Below w.heap.size w W) := by rw [← hW]; exact below_alloc w _
          have b_0 := B.out.c0
          have b_1 := B.out.c1
          have b_2 := B.out.c2
          have b_l := B.out.lt
          go_enter Try.func5, Try.ntmps5
          go_wp2_with (first
            | (go_at_call 11; (with_reducible refine (HD.out _).mono ?_); rintro e w1 ⟨rfl, b1⟩; replace B := Lib.hid (B.out.below b1 B.out.lt); replace BB := Lib.hid (below_more BB.out b1); replace b_0 := B.out.c0; replace b_1 := B.out.c1; replace b_2 := B.out.c2; replace b_l := B.out.lt; clear b1 HD)
            | (go_at_call 22; (with_reducible refine (VB.out _).mono ?_); rintro e w2 ⟨rfl, b2⟩; replace B := Lib.hid (B.out.below b2 B.out.lt); replace BB := Lib.hid (below_more BB.out b2); replace b_0 := B.out.c0; replace b_1 := B.out.c1; replace b_2 := B.out.c2; replace b_l := B.out.lt; clear b2 VB)
            | (go_at_call 14; (with_reducible refine (A1.out _).mono ?_); rintro e w3 ⟨rfl, b3⟩; replace B := Lib.hid ((B.out.below b3 B.out.lt).alloc (.cells #[.int .i64 x, .int .i64 y] 23)); have I := Lib.hid (Two.new w3 23 (.int .i64 x) (.int .i64 y)); replace BB := Lib.hid (below_more BB.out b3); have Gi := Lib.hid BB.out.size; replace BB := Lib.hid (BB.out.alloc BB.out.size (.cells #[.int .i64 x, .int .i64 y] 23)); replace b_0 := B.out.c0; replace b_1 := B.out.c1; replace b_2 := B.out.c2; replace b_l := B.out.lt; replace i_0 := I.out.c0; replace i_1 := I.out.c1; replace i_l := I.out.lt; clear b3 A1))
          have F := Lib.hid (Four.new (w3.alloc (.cells #[.int .i64 x, .int .i64 y] 23)) 47 (.int .i64 x) (.int .i64 l) (.int .i64 y) (.int .i64 h))
          rw [show (w3.alloc (.cells #[.int .i64 x, .int .i64 y] 23)).heap.size = w3.heap.size + 1 by simp] at F
          replace B := Lib.hid (B.out.alloc (.cells #[.int .i64 x, .int .i64 l, .int .i64 y, .int .i64 h] 47))
          replace I := Lib.hid (I.out.alloc (.cells #[.int .i64 x, .int .i64 l, .int .i64 y, .int .i64 h] 47))
          replace BB := Lib.hid (BB.out.alloc BB.out.size (.cells #[.int .i64 x, .int .i64 l, .int .i64 y, .int .i64 h] 47))
          replace b_0 := B.out.c0
          replace b_1 := B.out.c1
          replace b_2 := B.out.c2
          replace b_l := B.out.lt
          replace i_0 := I.out.c0
          replace i_1 := I.out.c1
          replace i_l := I.out.lt
          replace f_0 := F.out.c0
          replace f_1 := F.out.c1
          replace f_2 := F.out.c2
          replace f_3 := F.out.c3
          replace f_l := F.out.lt
          obtain ⟨wn, hwn⟩ : ∃ wn, (w3.alloc (.cells #[.int .i64 x, .int .i64 y] 23)).alloc (.cells #[.int .i64 x, .int .i64 l, .int .i64 y, .int .i64 h] 47) = wn := ⟨_, rfl⟩
          rw [hwn] at F B I BB
          try rw [hwn]
          replace b_0 := B.out.c0
          replace b_1 := B.out.c1
          replace b_2 := B.out.c2
          replace b_l := B.out.lt
          replace i_0 := I.out.c0
          replace i_1 := I.out.c1
          replace i_l := I.out.lt
          replace f_0 := F.out.c0
          replace f_1 := F.out.c1
          replace f_2 := F.out.c2
          replace f_3 := F.out.c3
          replace f_l := F.out.lt
          clear hwn
          refine wp_loop_rounds 3 ?_
          rw [rounds_succ]
          go_wp2_with (go_at_call 23; (with_reducible refine (C1.out _).mono ?_); rintro e w4 ⟨rfl, b4⟩; replace B := Lib.hid (B.out.alloc (.cells #[.int .i64 x, .int .i64 l] 47)); replace I := Lib.hid (I.out.alloc (.cells #[.int .i64 x, .int .i64 l] 47)); replace F := Lib.hid (F.out.alloc (.cells #[.int .i64 x, .int .i64 l] 47)); replace BB := Lib.hid (BB.out.alloc BB.out.size (.cells #[.int .i64 x, .int .i64 l] 47)); replace b_0 := B.out.c0; replace b_1 := B.out.c1; replace b_2 := B.out.c2; replace b_l := B.out.lt; replace i_0 := I.out.c0; replace i_1 := I.out.c1; replace i_l := I.out.lt; replace f_0 := F.out.c0; replace f_1 := F.out.c1; replace f_2 := F.out.c2; replace f_3 := F.out.c3; replace f_l := F.out.lt; replace B := Lib.hid ((B.out.below b4 B.out.lt).alloc (.cells #[.int .i64 c0, .int .i64 c1] 41)); replace I := Lib.hid ((I.out.below b4 I.out.lt).alloc (.cells #[.int .i64 c0, .int .i64 c1] 41)); replace F := Lib.hid ((F.out.below b4 F.out.lt).alloc (.cells #[.int .i64 c0, .int .i64 c1] 41)); have C := Lib.hid (Two.new w4 41 (.int .i64 c0) (.int .i64 c1)); replace BB := Lib.hid (below_more BB.out b4); have Gc := Lib.hid BB.out.size; replace BB := Lib.hid (BB.out.alloc BB.out.size (.cells #[.int .i64 c0, .int .i64 c1] 41)); replace b_0 := B.out.c0; replace b_1 := B.out.c1; replace b_2 := B.out.c2; replace b_l := B.out.lt; replace i_0 := I.out.c0; replace i_1 := I.out.c1; replace i_l := I.out.lt; replace f_0 := F.out.c0; replace f_1 := F.out.c1; replace f_2 := F.out.c2; replace f_3 := F.out.c3; replace f_l := F.out.lt; replace c_0 := C.out.c0; replace c_1 := C.out.c1; replace c_l := C.out.lt; clear b4 C1)
          rw [rounds_succ]
          go_wp2_with (go_at_call 23; (with_reducible refine (C2.out _).mono ?_); rintro e w5 ⟨rfl, b5⟩; replace B := Lib.hid (B.out.alloc (.cells #[.int .i64 y, .int .i64 h] 47)); replace I := Lib.hid (I.out.alloc (.cells #[.int .i64 y, .int .i64 h] 47)); replace F := Lib.hid (F.out.alloc (.cells #[.int .i64 y, .int .i64 h] 47)); replace C := Lib.hid (C.out.alloc (.cells #[.int .i64 y, .int .i64 h] 47)); replace BB := Lib.hid (BB.out.alloc BB.out.size (.cells #[.int .i64 y, .int .i64 h] 47)); replace b_0 := B.out.c0; replace b_1 := B.out.c1; replace b_2 := B.out.c2; replace b_l := B.out.lt; replace i_0 := I.out.c0; replace i_1 := I.out.c1; replace i_l := I.out.lt; replace f_0 := F.out.c0; replace f_1 := F.out.c1; replace f_2 := F.out.c2; replace f_3 := F.out.c3; replace f_l := F.out.lt; replace c_0 := C.out.c0; replace c_1 := C.out.c1; replace c_l := C.out.lt; replace B := Lib.hid ((B.out.below b5 B.out.lt).alloc (.cells #[.int .i64 d0, .int .i64 d1] 41)); replace I := Lib.hid ((I.out.below b5 I.out.lt).alloc (.cells #[.int .i64 d0, .int .i64 d1] 41)); replace F := Lib.hid ((F.out.below b5 F.out.lt).alloc (.cells #[.int .i64 d0, .int .i64 d1] 41)); replace C := Lib.hid ((C.out.below b5 C.out.lt).alloc (.cells #[.int .i64 d0, .int .i64 d1] 41)); have D := Lib.hid (Two.new w5 41 (.int .i64 d0) (.int .i64 d1)); replace BB := Lib.hid (below_more BB.out b5); have Gd := Lib.hid BB.out.size; replace BB := Lib.hid (BB.out.alloc BB.out.size (.cells #[.int .i64 d0, .int .i64 d1] 41)); replace b_0 := B.out.c0; replace b_1 := B.out.c1; replace b_2 := B.out.c2; replace b_l := B.out.lt; replace i_0 := I.out.c0; replace i_1 := I.out.c1; replace i_l := I.out.lt; replace f_0 := F.out.c0; replace f_1 := F.out.c1; replace f_2 := F.out.c2; replace f_3 := F.out.c3; replace f_l := F.out.lt; replace c_0 := C.out.c0; replace c_1 := C.out.c1; replace c_l := C.out.lt; replace d_0 := D.out.c0; replace d_1 := D.out.c1; replace d_l := D.out.lt; clear b5 C2)
          rw [rounds_succ]
          go_wp2_with fail
          go_ret
          exact ⟨by simp, BB.out⟩
    · have d1 : decide (3000000000000000 < o) = true := by simp; omega
      clear q1 c G ip il ih
      unfold blV at VB ⊢
      obtain ⟨W, hW⟩ : ∃ W, (w.alloc (.cells #[.int .i64 p, .int .i64 l, .int .i64 h] 25)) = W := ⟨_, rfl⟩
      have B : Hid (Three W (w.heap.size) 25 (.int .i64 p) (.int .i64 l) (.int .i64 h)) := by
        rw [← hW]
        have k := Three.new w 25 (.int .i64 p) (.int .i64 l) (.int .i64 h)
        exact k
      have BB : Hid (Below w.heap.size w W) := by rw [← hW]; exact below_alloc w _
      have b_0 := B.out.c0
      have b_1 := B.out.c1
      have b_2 := B.out.c2
      have b_l := B.out.lt
      go_enter Try.func5, Try.ntmps5
      go_wp2_with (first
        | (go_at_call 11; (with_reducible refine (HD.out _).mono ?_); rintro e w1 ⟨rfl, b1⟩; replace B := Lib.hid (B.out.below b1 B.out.lt); replace BB := Lib.hid (below_more BB.out b1); replace b_0 := B.out.c0; replace b_1 := B.out.c1; replace b_2 := B.out.c2; replace b_l := B.out.lt; clear b1 HD)
        | (go_at_call 22; (with_reducible refine (VB.out _).mono ?_); rintro e w2 ⟨rfl, b2⟩; replace B := Lib.hid (B.out.below b2 B.out.lt); replace BB := Lib.hid (below_more BB.out b2); replace b_0 := B.out.c0; replace b_1 := B.out.c1; replace b_2 := B.out.c2; replace b_l := B.out.lt; clear b2 VB))
      go_ret
      exact ⟨by simp, BB.out⟩
  · have VB := Lib.hid (rbel_any p l h false ⟨fun h => (by cases h), fun h => absurd h q1⟩ ip)
    clear q1 G ip il ih
    unfold blV at VB ⊢
    obtain ⟨W, hW⟩ : ∃ W, (w.alloc (.cells #[.int .i64 p, .int .i64 l, .int .i64 h] 25)) = W := ⟨_, rfl⟩
    have B : Hid (Three W (w.heap.size) 25 (.int .i64 p) (.int .i64 l) (.int .i64 h)) := by
      rw [← hW]
      have k := Three.new w 25 (.int .i64 p) (.int .i64 l) (.int .i64 h)
      exact k
    have BB : Hid (Below w.heap.size w W) := by rw [← hW]; exact below_alloc w _
    have b_0 := B.out.c0
    have b_1 := B.out.c1
    have b_2 := B.out.c2
    have b_l := B.out.lt
    go_enter Try.func5, Try.ntmps5
    go_wp2_with (first
      | (go_at_call 11; (with_reducible refine (HD.out _).mono ?_); rintro e w1 ⟨rfl, b1⟩; replace B := Lib.hid (B.out.below b1 B.out.lt); replace BB := Lib.hid (below_more BB.out b1); replace b_0 := B.out.c0; replace b_1 := B.out.c1; replace b_2 := B.out.c2; replace b_l := B.out.lt; clear b1 HD)
      | (go_at_call 22; (with_reducible refine (VB.out _).mono ?_); rintro e w2 ⟨rfl, b2⟩; replace B := Lib.hid (B.out.below b2 B.out.lt); replace BB := Lib.hid (below_more BB.out b2); replace b_0 := B.out.c0; replace b_1 := B.out.c1; replace b_2 := B.out.c2; replace b_l := B.out.lt; clear b2 VB))
    go_ret
    exact ⟨by simp, BB.out⟩
end Go.Proofs.Ytpfcjffpomdhbaa
