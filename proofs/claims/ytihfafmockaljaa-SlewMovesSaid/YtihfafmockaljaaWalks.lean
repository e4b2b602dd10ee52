/- Layer 9: SlewWalks (gen/gen_walks.py writes this). -/
import Derived.Test.YtihfafmockaljaaTurn
namespace Go.Proofs.Ytihfafmockaljaa
open Go.RowKit Go
set_option linter.unusedVariables false
set_option linter.unusedSimpArgs false

set_option maxRecDepth 100000 in
set_option maxHeartbeats 8000000 in
theorem walks_bad (G : Slw) (a s m : Int) (A : Option Addr) (len cap : Nat) (l : List Tn) (ia : I64 a) (is : I64 s) (im : I64 m) (w : World) (hr : RowT w.heap.size w A len l) (hl : len ≤ cap) (hc : cap ≤ 9223372036854775807) (hno : ¬ (TimeOk a ∧ TimeOk s ∧ 0 ≤ m ∧ m ≤ 100000000 ∧ len ≤ 8 ∧ a ≤ 1500000000000000 ∧ s ≤ 1500000000000000)) :
    Calls Try.prog 8 #[.int .i64 a, .int .i64 s, .int .i64 m, .slice A len cap] w (Gives (.bool true) w) := by
  have HD := Lib.hid (head_true G)
  have A1 := Lib.hid (G.start a s ia is)
  by_cases st : TimeOk a ∧ TimeOk s
  · have E : startR a s = (a, s, 0, 0) := if_pos st
    rw [E] at A1
    dsimp only at A1
    unfold clV at A1
    rcases (by have := st.1; have := st.2; rcases Int.lt_or_le m 0 with x | x; exact .inl x; rcases Int.lt_or_le 100000000 m with y | y; exact .inr (.inl ⟨x, y⟩); rcases Nat.lt_or_ge 8 len with z | z; exact .inr (.inr (.inl ⟨x, y, z⟩)); rcases Int.lt_or_le 1500000000000000 a with u | u; exact .inr (.inr (.inr (.inl ⟨x, y, z, u⟩))); exact .inr (.inr (.inr (.inr ⟨x, y, z, u, by rcases Int.lt_or_le 1500000000000000 s with q | q; exact q; exact absurd ⟨st.1, st.2, x, y, z, u, q⟩ hno⟩))) :
        m < 0 ∨ (0 ≤ m ∧ 100000000 < m) ∨ (0 ≤ m ∧ m ≤ 100000000 ∧ 8 < len) ∨ (0 ≤ m ∧ m ≤ 100000000 ∧ len ≤ 8 ∧ 1500000000000000 < a) ∨ (0 ≤ m ∧ m ≤ 100000000 ∧ len ≤ 8 ∧ a ≤ 1500000000000000 ∧ 1500000000000000 < s)) with q | ⟨q, q2⟩ | ⟨q, q2, q3⟩ | ⟨q, q2, q3, q4⟩ | ⟨q, q2, q3, q4, q5⟩
    · have d1 : decide (m < 0) = true := by simp; omega
      clear st hno E hr hl hc ia is im G q
      have BB : Hid (Below w.heap.size w w) := Below.refl _ w
      go_enter Try.func8, Try.ntmps8
      go_wp2_with (first
        | (go_at_call 9; (with_reducible refine (HD.out _).mono ?_); rintro e w1 ⟨rfl, b1⟩; replace BB := Lib.hid (below_more BB.out b1); clear b1 HD)
        | (go_at_call 16; (with_reducible refine (A1.out _).mono ?_); rintro e w2 ⟨rfl, b2⟩; have O := Lib.hid (Three.new w2 23 (.int .i64 a) (.int .i64 s) (.int .i64 0)); replace BB := Lib.hid (below_more BB.out b2); have Go := Lib.hid BB.out.size; replace BB := Lib.hid (BB.out.alloc BB.out.size (.cells #[.int .i64 a, .int .i64 s, .int .i64 0] 23)); replace o_0 := O.out.c0; replace o_1 := O.out.c1; replace o_2 := O.out.c2; replace o_l := O.out.lt; clear b2 A1))
      go_ret
      exact ⟨by simp, BB.out⟩
    · have d1 : decide (m < 0) = false := by simp; omega
      have d2 : decide (100000000 < m) = true := by simp; omega
      clear st hno E hr hl hc ia is im G q q2
      have BB : Hid (Below w.heap.size w w) := Below.refl _ w
      go_enter Try.func8, Try.ntmps8
      go_wp2_with (first
        | (go_at_call 9; (with_reducible refine (HD.out _).mono ?_); rintro e w1 ⟨rfl, b1⟩; replace BB := Lib.hid (below_more BB.out b1); clear b1 HD)
        | (go_at_call 16; (with_reducible refine (A1.out _).mono ?_); rintro e w2 ⟨rfl, b2⟩; have O := Lib.hid (Three.new w2 23 (.int .i64 a) (.int .i64 s) (.int .i64 0)); replace BB := Lib.hid (below_more BB.out b2); have Go := Lib.hid BB.out.size; replace BB := Lib.hid (BB.out.alloc BB.out.size (.cells #[.int .i64 a, .int .i64 s, .int .i64 0] 23)); replace o_0 := O.out.c0; replace o_1 := O.out.c1; replace o_2 := O.out.c2; replace o_l := O.out.lt; clear b2 A1))
      go_ret
      exact ⟨by simp, BB.out⟩
    · have d1 : decide (m < 0) = false := by simp; omega
      have d2 : decide (100000000 < m) = false := by simp; omega
      have d3 : decide (8 < (len : Int)) = true := by simp; omega
      have d3' : decide (8 < len) = true := by simp; omega
      clear st hno E hr hl hc ia is im G q q2 q3
      have BB : Hid (Below w.heap.size w w) := Below.refl _ w
      go_enter Try.func8, Try.ntmps8
      go_wp2_with (first
        | (go_at_call 9; (with_reducible refine (HD.out _).mono ?_); rintro e w1 ⟨rfl, b1⟩; replace BB := Lib.hid (below_more BB.out b1); clear b1 HD)
        | (go_at_call 16; (with_reducible refine (A1.out _).mono ?_); rintro e w2 ⟨rfl, b2⟩; have O := Lib.hid (Three.new w2 23 (.int .i64 a) (.int .i64 s) (.int .i64 0)); replace BB := Lib.hid (below_more BB.out b2); have Go := Lib.hid BB.out.size; replace BB := Lib.hid (BB.out.alloc BB.out.size (.cells #[.int .i64 a, .int .i64 s, .int .i64 0] 23)); replace o_0 := O.out.c0; replace o_1 := O.out.c1; replace o_2 := O.out.c2; replace o_l := O.out.lt; clear b2 A1))
      go_ret
      exact ⟨by simp, BB.out⟩
    · have d1 : decide (m < 0) = false := by simp; omega
      have d2 : decide (100000000 < m) = false := by simp; omega
      have d3 : decide (8 < (len : Int)) = false := by simp; omega
      have d3' : decide (8 < len) = false := by simp; omega
      have d4 : decide (1500000000000000 < a) = true := by simp; omega
      clear st hno E hr hl hc ia is im G q q2 q3 q4
      have BB : Hid (Below w.heap.size w w) := Below.refl _ w
      go_enter Try.func8, Try.ntmps8
      go_wp2_with (first
        | (go_at_call 9; (with_reducible refine (HD.out _).mono ?_); rintro e w1 ⟨rfl, b1⟩; replace BB := Lib.hid (below_more BB.out b1); clear b1 HD)
        | (go_at_call 16; (with_reducible refine (A1.out _).mono ?_); rintro e w2 ⟨rfl, b2⟩; have O := Lib.hid (Three.new w2 23 (.int .i64 a) (.int .i64 s) (.int .i64 0)); replace BB := Lib.hid (below_more BB.out b2); have Go := Lib.hid BB.out.size; replace BB := Lib.hid (BB.out.alloc BB.out.size (.cells #[.int .i64 a, .int .i64 s, .int .i64 0] 23)); replace o_0 := O.out.c0; replace o_1 := O.out.c1; replace o_2 := O.out.c2; replace o_l := O.out.lt; clear b2 A1))
      go_ret
      exact ⟨by simp, BB.out⟩
    · have d1 : decide (m < 0) = false := by simp; omega
      have d2 : decide (100000000 < m) = false := by simp; omega
      have d3 : decide (8 < (len : Int)) = false := by simp; omega
      have d3' : decide (8 < len) = false := by simp; omega
      have d4 : decide (1500000000000000 < a) = false := by simp; omega
      have d5 : decide (1500000000000000 < s) = true := by simp; omega
      clear st hno E hr hl hc ia is im G q q2 q3 q4 q5
      have BB : Hid (Below w.heap.size w w) := Below.refl _ w
      go_enter Try.func8, Try.ntmps8
      go_wp2_with (first
        | (go_at_call 9; (with_reducible refine (HD.out _).mono ?_); rintro e w1 ⟨rfl, b1⟩; replace BB := Lib.hid (below_more BB.out b1); clear b1 HD)
        | (go_at_call 16; (with_reducible refine (A1.out _).mono ?_); rintro e w2 ⟨rfl, b2⟩; have O := Lib.hid (Three.new w2 23 (.int .i64 a) (.int .i64 s) (.int .i64 0)); replace BB := Lib.hid (below_more BB.out b2); have Go := Lib.hid BB.out.size; replace BB := Lib.hid (BB.out.alloc BB.out.size (.cells #[.int .i64 a, .int .i64 s, .int .i64 0] 23)); replace o_0 := O.out.c0; replace o_1 := O.out.c1; replace o_2 := O.out.c2; replace o_l := O.out.lt; clear b2 A1))
      go_ret
      exact ⟨by simp, BB.out⟩
  · have E : startR a s = (0, 0, 0, 1) := if_neg st
    rw [E] at A1
    dsimp only at A1
    unfold clV at A1
    clear st hno E hr hl hc ia is im G
    have BB : Hid (Below w.heap.size w w) := Below.refl _ w
    go_enter Try.func8, Try.ntmps8
    go_wp2_with (first
      | (go_at_call 9; (with_reducible refine (HD.out _).mono ?_); rintro e w1 ⟨rfl, b1⟩; replace BB := Lib.hid (below_more BB.out b1); clear b1 HD)
      | (go_at_call 16; (with_reducible refine (A1.out _).mono ?_); rintro e w2 ⟨rfl, b2⟩; have O := Lib.hid (Three.new w2 23 (.int .i64 0) (.int .i64 0) (.int .i64 0)); replace BB := Lib.hid (below_more BB.out b2); have Go := Lib.hid BB.out.size; replace BB := Lib.hid (BB.out.alloc BB.out.size (.cells #[.int .i64 0, .int .i64 0, .int .i64 0] 23)); replace o_0 := O.out.c0; replace o_1 := O.out.c1; replace o_2 := O.out.c2; replace o_l := O.out.lt; clear b2 A1))
    go_ret
    exact ⟨by simp, BB.out⟩

set_option maxRecDepth 100000 in
set_option maxHeartbeats 8000000 in
theorem walks_yes (G : Slw) (a s m : Int) (A : Option Addr) (len cap : Nat) (l : List Tn) (ia : I64 a) (is : I64 s) (im : I64 m) (w : World) (hr : RowT w.heap.size w A len l) (hl : len ≤ cap) (hc : cap ≤ 9223372036854775807) (ta : TimeOk a) (ts : TimeOk s) (m0 : 0 ≤ m) (m1 : m ≤ 100000000) (h8 : len ≤ 8) (a1 : a ≤ 1500000000000000) (s1 : s ≤ 1500000000000000) :
    Calls Try.prog 8 #[.int .i64 a, .int .i64 s, .int .i64 m, .slice A len cap] w (Gives (.bool true) w) := by
  have HD := Lib.hid (head_true G)
  have A1 := Lib.hid (G.start a s ia is)
  have E : startR a s = (a, s, 0, 0) := if_pos ⟨ta, ts⟩
  rw [E] at A1
  dsimp only at A1
  unfold clV at A1
  have HR := Lib.hid hr
  have HG := Lib.hid G
  have TA := Lib.hid ta
  have TS := Lib.hid ts
  have I0 := Lib.hid (inv_start a s m m0)
  obtain ⟨ta0, _⟩ := ta
  obtain ⟨ts0, _⟩ := ts
  have d1 : decide (m < 0) = false := by simp; omega
  have d2 : decide (100000000 < m) = false := by simp; omega
  have d3 : decide (8 < (len : Int)) = false := by simp; omega
  have d3' : decide (8 < len) = false := by simp; omega
  have d4 : decide (1500000000000000 < a) = false := by simp; omega
  have d5 : decide (1500000000000000 < s) = false := by simp; omega
  clear hr E G ia is im
  have BB : Hid (Below w.heap.size w w) := Below.refl _ w
  go_enter Try.func8, Try.ntmps8
  go_wp2_with (first
    | (go_at_call 9; (with_reducible refine (HD.out _).mono ?_); rintro e w1 ⟨rfl, b1⟩; replace BB := Lib.hid (below_more BB.out b1); clear b1 HD)
    | (go_at_call 16; (with_reducible refine (A1.out _).mono ?_); rintro e w2 ⟨rfl, b2⟩; have O := Lib.hid (Three.new w2 23 (.int .i64 a) (.int .i64 s) (.int .i64 0)); replace BB := Lib.hid (below_more BB.out b2); have Go := Lib.hid BB.out.size; replace BB := Lib.hid (BB.out.alloc BB.out.size (.cells #[.int .i64 a, .int .i64 s, .int .i64 0] 23)); replace o_0 := O.out.c0; replace o_1 := O.out.c1; replace o_2 := O.out.c2; replace o_l := O.out.lt; replace o_f0 := O.out.free 0; replace o_f1 := O.out.free 1; replace o_f2 := O.out.free 2; clear b2 A1))
  clear o_0 o_1 o_2 o_f0 o_f1 o_f2 o_l
  go_loopw [12, 13, 58] (fun now sh i wr => ∃ (k : Nat) (t y z : Int), k ≤ len ∧ now = .int .i64 t ∧ sh = .int .i64 y ∧ i = .int .i64 k ∧ Hid (Inv a s m k t y z) ∧ Hid (Three wr w2.heap.size 23 (.int .i64 t) (.int .i64 y) (.int .i64 z)) ∧ Hid (Below w.heap.size w wr)) (fun _ _ i _ => len - (intOf i).toNat)
  case atStart => exact ⟨0, a, s, 0, by omega, rfl, rfl, rfl, I0, O, BB⟩
  case round =>
    obtain ⟨k, t, y, z, hk, rfl, rfl, rfl, IV, O, BB⟩ := hrel
    obtain ⟨t0, t1, y0, y1, CO⟩ := inv_bound m0 m1 IV.out (by omega) TA.out a1 TS.out s1
    have CO := Lib.hid CO
    have zi : I64 z := by have := CO.out.2.2; exact ⟨by omega, by omega⟩
    by_cases h : k < len
    · obtain ⟨p, rfl, hp, TT, TU⟩ := (HR.out.step BB.out).at_ k h
      generalize l.getD k Tn.nil = u at TT TU
      obtain ⟨tu, tv, th⟩ := u
      obtain ⟨⟨u1, u2⟩, ⟨u3, u4⟩, ⟨u5, u6⟩⟩ := TU
      obtain ⟨z0, z1, z2⟩ := TT
      dsimp only at u1 u2 u3 u4 u5 u6 z0 z1 z2
      obtain ⟨q, hq⟩ : ∃ q, p.add (k * 3) = q := ⟨_, rfl⟩
      rw [hq] at z0 z1 z2
      obtain ⟨c, hc1⟩ : ∃ c, tu % 1000000001 = c := ⟨_, rfl⟩
      have hc2 : tu.tmod 1000000001 = c := by rw [Int.tmod_eq_emod_of_nonneg u1]; exact hc1
      have c0 : 0 ≤ c := by omega
      have c1 : c ≤ 1000000000 := by omega
      obtain ⟨sh1, sh2, sh3⟩ := walk_show CO.out t1 y1 c0 c1
      have GO := go_on m0 m1 IV.out c0
      obtain ⟨n, hn⟩ : ∃ n, y + c + part c z = n := ⟨_, rfl⟩
      rw [hn] at sh1 sh2 sh3 GO
      obtain ⟨v2, hv2⟩ : ∃ v2, s + tv = v2 := ⟨_, rfl⟩
      obtain ⟨h2, hh2⟩ : ∃ h2, 1 + th = h2 := ⟨_, rfl⟩
      obtain ⟨R, st1, st2, st3⟩ := walk_steer (v := v2) (m := m) (h := h2) CO.out sh1 (by omega) (by omega) m0 m1 (by omega) (by omega)
      have A2 := HG.out.shows t y z (t + c) ⟨by omega, by omega⟩ ⟨by omega, by omega⟩ zi ⟨by omega, by omega⟩
      have A3 := HG.out.steer t y z (t + c) v2 m h2 ⟨by omega, by omega⟩ ⟨by omega, by omega⟩ zi ⟨by omega, by omega⟩ ⟨by omega, by omega⟩ ⟨by omega, by omega⟩ ⟨by omega, by omega⟩
      rw [sh1] at A2
      rw [st1] at A3
      obtain ⟨t2, ht2⟩ : ∃ t2, t + c = t2 := ⟨_, rfl⟩
      rw [ht2] at A2 A3 GO
      have IV2 : Hid (Inv a s m (k + 1) t2 n R) := by
        obtain ⟨g1, g2, g3⟩ := GO
        obtain ⟨i1, i2, i3, i4, i5, i6, i7⟩ := IV.out
        unfold Hid Inv
        refine ⟨by omega, ?_, st2, st3, ?_, g2, by omega⟩
        · rw [Int.natCast_add]; omega
        · rw [Int.natCast_add]; omega
      dsimp only at A2 A3
      unfold clV at A2 A3
      have A2 := Lib.hid A2
      have A3 := Lib.hid A3
      have d6 : decide (n < y) = false := by simp; omega
      have T0 : 0 ≤ t2 := by omega
      have T1 : t2 ≤ 1500009000000000 := by omega
      obtain ⟨W2, hW2⟩ : ∃ W2, wr.alloc (.cells #[.int .u32 tu, .int .u32 tv, .int .u32 th] 41) = W2 := ⟨_, rfl⟩
      have X : Hid (Three W2 wr.heap.size 41 (.int .u32 tu) (.int .u32 tv) (.int .u32 th)) := by rw [← hW2]; exact Three.new wr _ _ _ _
      have O : Hid (Three W2 w2.heap.size 23 (.int .i64 t) (.int .i64 y) (.int .i64 z)) := by rw [← hW2]; exact O.out.alloc _
      have BB : Hid (Below w.heap.size w W2) := by rw [← hW2]; exact BB.out.alloc BB.out.size _
      clear GO IV sh1 sh2 sh3 st1 st2 st3 hn CO zi hc1 I0
      have x_0 := X.out.c0
      have x_1 := X.out.c1
      have x_2 := X.out.c2
      have x_l := X.out.lt
      have o_0 := O.out.c0
      have o_1 := O.out.c1
      have o_2 := O.out.c2
      have o_l := O.out.lt
      have o_f0 := O.out.free 0
      have o_f1 := O.out.free 1
      have o_f2 := O.out.free 2
      go_wp2_with (first
        | (go_at_call 10; (with_reducible refine (A2.out _).mono ?_); rintro e w5 ⟨rfl, b5⟩; replace X := Lib.hid (X.out.below b5 X.out.lt); replace O := Lib.hid (O.out.below b5 O.out.lt); replace BB := Lib.hid (below_more BB.out b5); replace x_0 := X.out.c0; replace x_1 := X.out.c1; replace x_2 := X.out.c2; replace x_l := X.out.lt; replace o_0 := O.out.c0; replace o_1 := O.out.c1; replace o_2 := O.out.c2; replace o_l := O.out.lt; replace o_f0 := O.out.free 0; replace o_f1 := O.out.free 1; replace o_f2 := O.out.free 2; clear b5 A2)
        | (go_at_call 12; (with_reducible refine (A3.out _).mono ?_); rintro e w6 ⟨rfl, b6⟩; have NEoc := Lib.hid (Nat.ne_of_lt (O.out.below b6 O.out.lt).lt); replace X := Lib.hid ((X.out.below b6 X.out.lt).alloc (.cells #[.int .i64 t2, .int .i64 n, .int .i64 R] 23)); replace O := Lib.hid ((O.out.below b6 O.out.lt).alloc (.cells #[.int .i64 t2, .int .i64 n, .int .i64 R] 23)); have C := Lib.hid (Three.new w6 23 (.int .i64 t2) (.int .i64 n) (.int .i64 R)); replace BB := Lib.hid (below_more BB.out b6); have Gc := Lib.hid BB.out.size; replace BB := Lib.hid (BB.out.alloc BB.out.size (.cells #[.int .i64 t2, .int .i64 n, .int .i64 R] 23)); replace x_0 := X.out.c0; replace x_1 := X.out.c1; replace x_2 := X.out.c2; replace x_l := X.out.lt; replace o_0 := O.out.c0; replace o_1 := O.out.c1; replace o_2 := O.out.c2; replace o_l := O.out.lt; replace o_f0 := O.out.free 0; replace o_f1 := O.out.free 1; replace o_f2 := O.out.free 2; replace c_0 := C.out.c0; replace c_1 := C.out.c1; replace c_2 := C.out.c2; replace c_l := C.out.lt; clear b6 A3))
      have gw : w.heap.size ≤ w2.heap.size := Go.out
      have ON := Lib.hid (((O.out.set0 (.int .i64 t2)).set1 (.int .i64 n)).set2 (.int .i64 R))
      have BN := Lib.hid (((BB.out.setCell (p := ⟨w2.heap.size, 0, none⟩) gw (.int .i64 t2)).setCell (p := ⟨w2.heap.size, 1, none⟩) gw (.int .i64 n)).setCell (p := ⟨w2.heap.size, 2, none⟩) gw (.int .i64 R))
      go_roundw
      case rel => exact ⟨k + 1, t2, n, R, by omega, by go_num, by go_num, by go_num, IV2.out, ON.out, BN.out⟩
      case measure => simp [intOf]; omega
    · obtain rfl : k = len := by omega
      obtain ⟨sh1, sh2, sh3⟩ := walk_show (c := 1000) CO.out t1 y1 (by omega) (by omega)
      have GO := go_on (c := 1000) m0 m1 IV.out (by omega)
      obtain ⟨n, hn⟩ : ∃ n, y + 1000 + part 1000 z = n := ⟨_, rfl⟩
      rw [hn] at sh1 sh2 sh3 GO
      have A2 := HG.out.shows t y z (t + 1000) ⟨by omega, by omega⟩ ⟨by omega, by omega⟩ zi ⟨by omega, by omega⟩
      rw [sh1] at A2
      obtain ⟨t2, ht2⟩ : ∃ t2, t + 1000 = t2 := ⟨_, rfl⟩
      rw [ht2] at A2 GO
      obtain ⟨e, he⟩ : ∃ e, t2 - a = e := ⟨_, rfl⟩
      rw [he] at GO
      have it := IV.out.1
      have e0 : 0 ≤ e := by omega
      have e1 : e ≤ 1600000000000000 := by omega
      have P1 := Lib.hid (rpart_any e (-m) e0 (by omega) (by omega) (by omega))
      have P2 := Lib.hid (rpart_any e m e0 (by omega) (by omega) (by omega))
      have ps1 := part_small (n := e) (r := -m) e0 (by omega) (by omega)
      have ps2 := part_small (n := e) (r := m) e0 (by omega) (by omega)
      obtain ⟨f1, hf1⟩ : ∃ f, part e (-m) = f := ⟨_, rfl⟩
      obtain ⟨f2, hf2⟩ : ∃ f, part e m = f := ⟨_, rfl⟩
      rw [hf1] at P1 GO ps1
      rw [hf2] at P2 GO ps2
      obtain ⟨GO1, GO2, _⟩ := GO
      have d6 : decide (n < y) = false := by simp; omega
      have d7 : decide (e + f1 - (k : Int) - 1 ≤ n - s) = true := by simp; omega
      have d8 : decide (n - s ≤ e + f2) = true := by simp; omega
      dsimp only at A2
      unfold clV at A2
      have A2 := Lib.hid A2
      clear IV sh1 hn CO zi hf1 hf2 I0 it
      have o_0 := O.out.c0
      have o_1 := O.out.c1
      have o_2 := O.out.c2
      have o_l := O.out.lt
      go_wp2_with (first
        | (go_at_call 10; (with_reducible refine (A2.out _).mono ?_); rintro e w5 ⟨rfl, b5⟩; replace O := Lib.hid (O.out.below b5 O.out.lt); replace BB := Lib.hid (below_more BB.out b5); replace o_0 := O.out.c0; replace o_1 := O.out.c1; replace o_2 := O.out.c2; replace o_l := O.out.lt; clear b5 A2)
        | (go_at_call 11; (with_reducible refine (P1.out _).mono ?_); rintro e w' ⟨rfl, rfl⟩; clear P1)
        | (go_at_call 11; (with_reducible refine (P2.out _).mono ?_); rintro e w' ⟨rfl, rfl⟩; clear P2))
      go_ret
      exact ⟨by simp, BB.out⟩

theorem walks_walk (G : Slw) (a s m : Int) (A : Option Addr) (len cap : Nat) (l : List Tn) (ia : I64 a) (is : I64 s) (im : I64 m) (w : World) (hr : RowT w.heap.size w A len l) (hl : len ≤ cap) (hc : cap ≤ 9223372036854775807) :
    Calls Try.prog 8 #[.int .i64 a, .int .i64 s, .int .i64 m, .slice A len cap] w (Gives (.bool true) w) := by
  by_cases q : TimeOk a ∧ TimeOk s ∧ 0 ≤ m ∧ m ≤ 100000000 ∧ len ≤ 8 ∧ a ≤ 1500000000000000 ∧ s ≤ 1500000000000000
  · exact walks_yes G a s m A len cap l ia is im w hr hl hc q.1 q.2.1 q.2.2.1 q.2.2.2.1 q.2.2.2.2.1 q.2.2.2.2.2.1 q.2.2.2.2.2.2
  · exact walks_bad G a s m A len cap l ia is im w hr hl hc q
end Go.Proofs.Ytihfafmockaljaa
