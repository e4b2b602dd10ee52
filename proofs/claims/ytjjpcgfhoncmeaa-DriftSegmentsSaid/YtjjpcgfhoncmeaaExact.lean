/- Layer 7: DriftExact. -/
import Derived.Test.YtjjpcgfhoncmeaaOrder
namespace Go.Proofs.Ytjjpcgfhoncmeaa
open Go.RowKit Go
set_option linter.unusedVariables false
set_option linter.unusedSimpArgs false

theorem elHi_less {r c : Int} (h1 : 0 ≤ r) (h2 : r ≤ 1000000) (hc : 0 ≤ c) : elHi r c ≤ c + c / 2 + 2 := by
  rcases Int.lt_or_le (c + c / 2 + 2) (elHi r c) with h | h
  · exfalso
    have k : c + c / 2 + 3 ≤ elHi r c := by omega
    rw [le_elHi h2] at k
    have q := Int.mul_le_mul_of_nonneg_left (by omega : (999000000 : Int) ≤ 1000000000 - r) (by omega : 0 ≤ c + c / 2 + 3)
    omega
  · exact h
theorem coHi_less {r e : Int} (h2 : r ≤ 1000000) (he : 0 ≤ e) : coHi r e ≤ e + e / 2 + 1 := by
  rcases Int.lt_or_le (e + e / 2 + 1) (coHi r e) with h | h
  · exfalso
    have k : e + e / 2 + 2 ≤ coHi r e := by omega
    rw [le_coHi] at k
    have q := Int.mul_le_mul_of_nonneg_left (by omega : 1000000000 + r ≤ (1001000000 : Int)) he
    omega
  · exact h

theorem row4_new (w : World) (a b c d : Int) (ha : I64 a) (hb : I64 b) (hc : I64 c) (hd : I64 d) :
    RowI (w.alloc (.cells #[.int .i64 a, .int .i64 b, .int .i64 c, .int .i64 d] 3)).heap.size (w.alloc (.cells #[.int .i64 a, .int .i64 b, .int .i64 c, .int .i64 d] 3)) (some ⟨w.heap.size, 0, none⟩) 4 [a, b, c, d] := by
  have h : (w.alloc (.cells #[.int .i64 a, .int .i64 b, .int .i64 c, .int .i64 d] 3)).heap[w.heap.size]? = some (.cells #[.int .i64 a, .int .i64 b, .int .i64 c, .int .i64 d] 3 (0, 0)) := heap_alloc_new w _
  refine ⟨rfl, fun _ => ⟨_, rfl, by simp, fun i hi => ?_⟩, ?_⟩
  · rw [show Addr.add ⟨w.heap.size, 0, none⟩ i = ⟨w.heap.size, i, none⟩ by unfold Addr.add; split <;> simp_all]
    rcases (by omega : i = 0 ∨ i = 1 ∨ i = 2 ∨ i = 3) with rfl | rfl | rfl | rfl
    · exact cell_of_row _ _ 0 _ _ (0, 0) h
    · exact cell_of_row _ _ 1 _ _ (0, 0) h
    · exact cell_of_row _ _ 2 _ _ (0, 0) h
    · exact cell_of_row _ _ 3 _ _ (0, 0) h
  · intro x hx
    simp at hx
    rcases hx with rfl | rfl | rfl | rfl <;> assumption

theorem add_zero_off (g i : Nat) : Addr.add ⟨g, 0, none⟩ i = ⟨g, i, none⟩ := by unfold Addr.add; split <;> simp_all

set_option maxRecDepth 100000 in
set_option maxHeartbeats 2000000 in
theorem exact_no (G : Dft) (r e c : Int) (hno : ¬ (0 ≤ r ∧ r ≤ 1000000 ∧ 0 ≤ e ∧ e ≤ 1000000000 ∧ 0 ≤ c ∧ c ≤ 1000000000)) (w : World) :
    Calls Try.prog 4 #[.int .i64 r, .int .i64 e, .int .i64 c] w (Gives (.bool true) w) := by
  have HD := Lib.hid (head_true G w)
  clear G
  rcases (by omega : r < 0 ∨ (0 ≤ r ∧ 1000000 < r) ∨ (0 ≤ r ∧ r ≤ 1000000 ∧ e < 0) ∨ (0 ≤ r ∧ r ≤ 1000000 ∧ 0 ≤ e ∧ 1000000000 < e) ∨ (0 ≤ r ∧ r ≤ 1000000 ∧ 0 ≤ e ∧ e ≤ 1000000000 ∧ c < 0) ∨ (0 ≤ r ∧ r ≤ 1000000 ∧ 0 ≤ e ∧ e ≤ 1000000000 ∧ 0 ≤ c ∧ 1000000000 < c)) with h | ⟨h1, h⟩ | ⟨h1, h2, h⟩ | ⟨h1, h2, h3, h⟩ | ⟨h1, h2, h3, h4, h⟩ | ⟨h1, h2, h3, h4, h5, h⟩
  all_goals
    clear hno
    go_enter Try.func4, Try.ntmps4
    go_wp2_with (go_at_call 9; refine HD.out.mono ?_; rintro e w1 ⟨rfl, b1⟩; have B1 := Lib.hid b1; clear b1)
    go_ret
    exact ⟨rfl, B1.out⟩

set_option maxRecDepth 100000 in
set_option maxHeartbeats 8000000 in
theorem exact_yes (G : Dft) (r e c : Int) (h1 : 0 ≤ r) (h2 : r ≤ 1000000) (h3 : 0 ≤ e) (h4 : e ≤ 1000000000) (h5 : 0 ≤ c) (h6 : c ≤ 1000000000) (w : World) :
    Calls Try.prog 4 #[.int .i64 r, .int .i64 e, .int .i64 c] w (Gives (.bool true) w) := by
  have HD := Lib.hid (head_true G w)
  have E := Lib.hid (G.el r c ⟨by omega, by omega⟩ ⟨by omega, by omega⟩)
  have C := Lib.hid (G.co r e ⟨by omega, by omega⟩ ⟨by omega, by omega⟩)
  rw [elR_yes ⟨h1, h2⟩ ⟨by omega, by omega⟩] at E
  rw [coR_yes ⟨h1, h2⟩ ⟨by omega, by omega⟩] at C
  have a1 := elLo_nonneg h1 h5
  have a2 := elLo_up h1 h5
  have a3 := elHi_nonneg h1 h2 h5
  have a4 := elHi_less h1 h2 h5
  have c1 := coLo_nonneg h2 h3
  have c2 := coLo_le_self h1 h3
  have c3 := coHi_nonneg h1 h3
  have c4 := coHi_less h2 h3
  have EC := Lib.hid (fun (x : Int) (hx : 0 ≤ x) => el_can (e := x) (c := c) h1 h2 hx h5)
  have CC := Lib.hid (fun (x : Int) => co_can (r := r) (e := e) (c := x))
  generalize elLo r c = A0 at E a1 a2 EC
  generalize elHi r c = A1 at E a3 a4 EC
  generalize coLo r e = P0 at C c1 c2 CC
  generalize coHi r e = P1 at C c3 c4 CC
  have a5 : A1 ≤ 2000000000 := by omega
  have c5 : P1 ≤ 2000000000 := by omega
  have IA : ∀ x, inR x A0 A1 = true ↔ A0 ≤ x ∧ x ≤ A1 := fun x => by simp [inR]
  have IP : ∀ x, inR x P0 P1 = true ↔ P0 ≤ x ∧ x ≤ P1 := fun x => by simp [inR]
  obtain ⟨q, hq⟩ : ∃ q, inR e A0 A1 = q := ⟨_, rfl⟩
  have hqc : q = true ↔ Can r e c := by rw [← hq, IA]; exact EC.out e h3
  have hq2 : inR c P0 P1 = q := by rw [Bool.eq_iff_iff, IP, hqc]; exact CC.out c
  have I1 := Lib.hid (in_any e A0 A1)
  have I2 := Lib.hid (in_any c P0 P1)
  rw [hq] at I1
  rw [hq2] at I2
  have CN := Lib.hid (rcan_any r e c ⟨h1, h2⟩ (by omega) (by omega) (by omega) (by omega) q hqc)
  have LA := Lib.hid (fun (x : Int) => in_any x A0 A1)
  have LC := Lib.hid (fun (x : Int) (hx : 0 ≤ x) (hx2 : x ≤ 4000000000) => rcan_any r x c ⟨h1, h2⟩ (by omega) (by omega) (by omega) (by omega) (inR x A0 A1) ((IA x).trans (EC.out x hx)))
  have MA := Lib.hid (fun (x : Int) => in_any x P0 P1)
  have MC := Lib.hid (fun (x : Int) (hx : 0 ≤ x) (hx2 : x ≤ 4000000000) => rcan_any r e x ⟨h1, h2⟩ (by omega) (by omega) (by omega) (by omega) (inR x P0 P1) ((IP x).trans (CC.out x)))
  clear EC CC IA IP hq hqc hq2 G
  unfold rgV at E C I1 I2 LA MA
  go_enter Try.func4, Try.ntmps4
  go_wp2_with (first
    | (go_at_call 9; refine HD.out.mono ?_; rintro e w1 ⟨rfl, b1⟩; have Bw1 := Lib.hid b1; clear b1)
    | (go_at_call 17; (with_reducible refine (E.out _).mono ?_); rintro e w2 ⟨rfl, b2⟩; have Bw2 := Lib.hid (below_box (below_more Bw1.out b2) (.cells #[.int .i64 A0, .int .i64 A1] 27)); have K2 := Lib.hid (show Bag _ [(_, A0, A1)] from ⟨Two.new w2 _ _ _, trivial⟩); clear b2 E)
    | (go_at_call 19; (with_reducible refine (C.out _).mono ?_); rintro e w3 ⟨rfl, b3⟩; have Bw3 := Lib.hid (below_box (below_more Bw2.out b3) (.cells #[.int .i64 P0, .int .i64 P1] 27)); have K3 := Lib.hid (K2.out.box b3 P0 P1); have k0 := K3.out.1.c0; have k1 := K3.out.1.c1; have k2 := K3.out.1.lt; have k3 := K3.out.2.1.c0; have k4 := K3.out.2.1.c1; have k5 := K3.out.2.1.lt; clear b3 C)
    | (go_at_call 23; (with_reducible refine (CN.out _).mono ?_); rintro e w4 ⟨rfl, rfl⟩; clear CN)
    | (go_at_call 24; (with_reducible refine (I1.out _).mono ?_); rintro e w5 ⟨rfl, b5⟩; have Bw5 := Lib.hid (below_more Bw3.out b5); have K5 := Lib.hid (Bag.step b5 K3.out); have k0 := K5.out.1.c0; have k1 := K5.out.1.c1; have k2 := K5.out.1.lt; have k3 := K5.out.2.1.c0; have k4 := K5.out.2.1.c1; have k5 := K5.out.2.1.lt; clear b5 I1)
    | (go_at_call 24; (with_reducible refine (I2.out _).mono ?_); rintro e w6 ⟨rfl, b6⟩; have Bw6 := Lib.hid (below_more Bw5.out b6); have K6 := Lib.hid (Bag.step b6 K5.out); have k0 := K6.out.1.c0; have k1 := K6.out.1.c1; have k2 := K6.out.1.lt; have k3 := K6.out.2.1.c0; have k4 := K6.out.2.1.c1; have k5 := K6.out.2.1.lt; clear b6 I2))
  have K := Lib.hid K6.out
  have B := Lib.hid Bw6.out
  clear K2 K3 K5 K6 Bw1 Bw2 Bw3 Bw5 Bw6 HD
  have RR := Lib.hid (row4_new w6 (A0 - 1) A0 A1 (A1 + 1) ⟨by omega, by omega⟩ ⟨by omega, by omega⟩ ⟨by omega, by omega⟩ ⟨by omega, by omega⟩)
  have KK := Lib.hid (Bag.step (below_alloc w6 (.cells #[.int .i64 (A0 - 1), .int .i64 A0, .int .i64 A1, .int .i64 (A1 + 1)] 3)) K.out)
  have BB := Lib.hid (below_box B.out (.cells #[.int .i64 (A0 - 1), .int .i64 A0, .int .i64 A1, .int .i64 (A1 + 1)] 3))
  clear k0 k1 k2 k3 k4 k5
  go_loopw [7, 110] (fun u i wr => ∃ k : Nat, k ≤ 4 ∧ u = .bool true ∧ i = .int .i64 k ∧ Hid (RowI wr.heap.size wr (some ⟨(w6).heap.size, 0, none⟩) 4 [A0 - 1, A0, A1, A1 + 1]) ∧ Hid (Bag wr [(w3.heap.size, P0, P1), (w2.heap.size, A0, A1)]) ∧ Hid (Below w.heap.size w wr)) (fun _ i _ => 4 - (intOf i).toNat)
  case atStart => exact ⟨0, by omega, rfl, rfl, RR, KK, BB⟩
  case round =>
    obtain ⟨k, hk, rfl, rfl, R, K, B⟩ := hrel
    have k0 := K.out.1.c0
    have k1 := K.out.1.c1
    have k2 := K.out.1.lt
    have k3 := K.out.2.1.c0
    have k4 := K.out.2.1.c1
    have k5 := K.out.2.1.lt
    by_cases h : k < 4
    · obtain ⟨p, hp, hc, x1, x2⟩ := R.out.at_ k h
      injection hp with hp
      subst hp
      rw [add_zero_off] at hc
      have xb : ([A0 - 1, A0, A1, A1 + 1] : List Int).getD k 0 ≤ 4000000000 := by
        rcases (by omega : k = 0 ∨ k = 1 ∨ k = 2 ∨ k = 3) with rfl | rfl | rfl | rfl <;> simp <;> omega
      generalize ([A0 - 1, A0, A1, A1 + 1] : List Int).getD k 0 = x at hc x1 x2 xb
      by_cases hx : x < 0
      · go_wp2_with fail
        go_roundw
        case rel => exact ⟨k + 1, by omega, rfl, by go_num, R, K, B⟩
        case measure => simp [intOf]; omega
      · have L1 := Lib.hid (LA.out x)
        have L2 := Lib.hid (LC.out x (by omega) xb)
        generalize inR x A0 A1 = q' at L1 L2
        go_wp2_with (first
          | (go_at_call 24; (with_reducible refine (L1.out _).mono ?_); rintro e w7 ⟨rfl, b7⟩; have R7 := Lib.hid (R.out.step b7); have K7 := Lib.hid (Bag.step b7 K.out); have B7 := Lib.hid (below_more B.out b7); clear b7)
          | (go_at_call 23; (with_reducible refine (L2.out _).mono ?_); rintro e w8 ⟨rfl, rfl⟩))
        go_roundw
        case rel => exact ⟨k + 1, by omega, by simp, by go_num, R7, K7, B7⟩
        case measure => simp [intOf]; omega
    · obtain rfl : k = 4 := by omega
      obtain ⟨wo, rfl⟩ : ∃ wo : World, wo = wr := ⟨_, rfl⟩
      go_wp2_with fail
      have RR := Lib.hid (row4_new wo (P0 - 1) P0 P1 (P1 + 1) ⟨by omega, by omega⟩ ⟨by omega, by omega⟩ ⟨by omega, by omega⟩ ⟨by omega, by omega⟩)
      have KK := Lib.hid (Bag.step (below_alloc wo (.cells #[.int .i64 (P0 - 1), .int .i64 P0, .int .i64 P1, .int .i64 (P1 + 1)] 3)) K.out)
      have BB := Lib.hid (below_box B.out (.cells #[.int .i64 (P0 - 1), .int .i64 P0, .int .i64 P1, .int .i64 (P1 + 1)] 3))
      clear k0 k1 k2 k3 k4 k5 R
      go_loopw [7, 142] (fun u i wr => ∃ k : Nat, k ≤ 4 ∧ u = .bool true ∧ i = .int .i64 k ∧ Hid (RowI wr.heap.size wr (some ⟨(wo).heap.size, 0, none⟩) 4 [P0 - 1, P0, P1, P1 + 1]) ∧ Hid (Bag wr [(w3.heap.size, P0, P1), (w2.heap.size, A0, A1)]) ∧ Hid (Below w.heap.size w wr)) (fun _ i _ => 4 - (intOf i).toNat)
      case atStart => exact ⟨0, by omega, rfl, rfl, RR, KK, BB⟩
      case round =>
        obtain ⟨k, hk, rfl, rfl, R, K, B⟩ := hrel
        have k0 := K.out.1.c0
        have k1 := K.out.1.c1
        have k2 := K.out.1.lt
        have k3 := K.out.2.1.c0
        have k4 := K.out.2.1.c1
        have k5 := K.out.2.1.lt
        by_cases h : k < 4
        · obtain ⟨p, hp, hc, x1, x2⟩ := R.out.at_ k h
          injection hp with hp
          subst hp
          rw [add_zero_off] at hc
          have xb : ([P0 - 1, P0, P1, P1 + 1] : List Int).getD k 0 ≤ 4000000000 := by
            rcases (by omega : k = 0 ∨ k = 1 ∨ k = 2 ∨ k = 3) with rfl | rfl | rfl | rfl <;> simp <;> omega
          generalize ([P0 - 1, P0, P1, P1 + 1] : List Int).getD k 0 = x at hc x1 x2 xb
          by_cases hx : x < 0
          · go_wp2_with fail
            go_roundw
            case rel => exact ⟨k + 1, by omega, rfl, by go_num, R, K, B⟩
            case measure => simp [intOf]; omega
          · have L1 := Lib.hid (MA.out x)
            have L2 := Lib.hid (MC.out x (by omega) xb)
            generalize inR x P0 P1 = q' at L1 L2
            go_wp2_with (first
              | (go_at_call 24; (with_reducible refine (L1.out _).mono ?_); rintro e w7 ⟨rfl, b7⟩; have R7 := Lib.hid (R.out.step b7); have K7 := Lib.hid (Bag.step b7 K.out); have B7 := Lib.hid (below_more B.out b7); clear b7)
              | (go_at_call 23; (with_reducible refine (L2.out _).mono ?_); rintro e w8 ⟨rfl, rfl⟩))
            go_roundw
            case rel => first | exact ⟨k + 1, by omega, by simp, by go_num, R7, K7, B7⟩ | ((repeat apply Exists.intro); exact ⟨⟨k + 1, by omega, by simp, by go_num, R7, K7, B7⟩, rfl⟩)
            case measure => simp [intOf]; omega
        · obtain rfl : k = 4 := by omega
          go_wp2_with fail
          go_ret
          exact ⟨rfl, B.out⟩

theorem exact_law (G : Dft) (r e c : Int) (w : World) (hr : (Lit.int .i64 r).wf = true) (he : (Lit.int .i64 e).wf = true) (hc : (Lit.int .i64 c).wf = true) :
    Calls Try.prog 4 #[.int .i64 r, .int .i64 e, .int .i64 c] w (Gives (.bool true) w) := by
  by_cases h : 0 ≤ r ∧ r ≤ 1000000 ∧ 0 ≤ e ∧ e ≤ 1000000000 ∧ 0 ≤ c ∧ c ≤ 1000000000
  · exact exact_yes G r e c h.1 h.2.1 h.2.2.1 h.2.2.2.1 h.2.2.2.2.1 h.2.2.2.2.2 w
  · exact exact_no G r e c h w
end Go.Proofs.Ytjjpcgfhoncmeaa
