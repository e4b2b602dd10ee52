/- math/bits.Div64 for any divisor that is greater than the upper half (gendiv.py writes this): it returns the quotient and the rest; memory stays as it is, up to draws. -/
import Derived.WalkKit
import Derived.BigQuiet
import Derived.LoopTactic
import Derived.Deep.QuietTactic
import Derived.Outline
import Derived.Lib.Hide
import Derived.Lib.ItoaNum
import Derived.Test.YtihfafmockaljaaShelf
import Derived.Test.YtihfafmockaljaaDNum
import Derived.Laws.BitsAllLaws
namespace Go.Proofs.Ytihfafmockaljaa
open Go.RowKit Go
set_option linter.unusedVariables false

/-- Returned v, and the world as it was but for draws. -/
def Drawn (v : Value) (w : World) (e : Ending) (w' : World) : Prop := ∃ n, e = .returned v ∧ w' = w.drewN n

set_option maxHeartbeats 400000 in
theorem div64_zero (lo d : Nat) (hd : 1 ≤ d) (hd2 : d < 18446744073709551616) (hlo : lo ≤ 18446744073709551615) (w : World) :
    Calls Try.prog 30 #[.int .u64 (0 : Int), .int .u64 (lo : Int), .int .u64 (d : Int)] w (Drawn (.tuple #[.int .u64 ((lo : Int) / (d : Int)), .int .u64 ((lo : Int) % (d : Int))]) w) := by
  have t1 : ((d : Int) == 0) = false := by simp; omega
  have t2 : ¬ ((d : Int) ≤ 0) := by omega
  have q0 : 0 ≤ (lo : Int) / (d : Int) := Int.ediv_nonneg (by omega) (by omega)
  have q1 : (lo : Int) / (d : Int) ≤ 18446744073709551615 := by
    have := Int.ediv_le_self (a := (lo : Int)) (d : Int) (by omega)
    omega
  have q2 : IntKind.u64.wrap ((lo : Int) / (d : Int)) = (lo : Int) / (d : Int) := IntWalk.u64_in _ ⟨q0, q1⟩
  go_enter Try.func30, Try.ntmps30
  go_wp2_with fail
  go_quiet (fail)
  go_wp2
  go_ret2
  exact ⟨_, rfl, rfl⟩

set_option maxRecDepth 100000 in
set_option maxHeartbeats 1000000 in
theorem div64_walk (hi lo d : Nat) (s Y y1 y0 U L u1 u0 Q1 G1 H1 r1 U2 Q0 G0 H0 r0 R : Nat) (hs2 : s ≤ 63) (hd : 1 ≤ d) (hd2 : d < 18446744073709551616) (h0 : 1 ≤ hi) (hh : hi < d) (hlo : lo ≤ 18446744073709551615)
  (lz : ∀ w, Calls Try.prog 35 #[.int .u64 (d:Int)] w fun e w' => e = .returned (.int .i64 (s : Int)) ∧ w' = w)
  (hm : min s 64 = s) (hm2 : min (64 - s) 64 = 64 - s)
  (hY : IntKind.u64.wrap ((d:Int) * 2 ^ s) = (Y:Int)) (hYb : Y < 18446744073709551616)
  (hy1 : (Y:Int) / 4294967296 = (y1:Int)) (hy1b : 1 ≤ y1) (hy1c : y1 ≤ 4294967295)
  (hand : bits BinOp.and IntKind.u64 (Y:Int) 4294967295 = (y0:Int)) (hy0b : y0 < 4294967296)
  (hYe : Y = y1 * 4294967296 + y0)
  (hor : bits BinOp.or IntKind.u64 (IntKind.u64.wrap ((hi:Int) * 2 ^ s)) ((lo:Int) / 2 ^ (64 - s)) = (U:Int)) (hUb : U < Y)
  (hL : IntKind.u64.wrap ((lo:Int) * 2 ^ s) = (L:Int)) (hLb : L < 18446744073709551616)
  (hu1 : (L:Int) / 4294967296 = (u1:Int)) (hu1b : u1 < 4294967296)
  (hu0 : bits BinOp.and IntKind.u64 (L:Int) 4294967295 = (u0:Int)) (hu0b : u0 < 4294967296)
  (hQ1 : (U * 4294967296 + u1) / Y = Q1) (hQ1b : Q1 < 4294967296)
  (hG1 : (U:Int) / (y1:Int) = (G1:Int)) (hG1b : G1 < 18446744073709551616)
  (hH1 : IntKind.u64.wrap ((G1:Int) * (y1:Int)) = (H1:Int)) (hH1b : H1 < 18446744073709551616)
  (hr1 : IntKind.u64.wrap ((U:Int) - (H1:Int)) = (r1:Int)) (hr1b : r1 < 4294967296)
  (hg1 : Num.Guess Q1 U y1 G1 r1)
  (hU2 : IntKind.u64.wrap (IntKind.u64.wrap (IntKind.u64.wrap ((U:Int) * 4294967296) + (u1:Int)) - IntKind.u64.wrap ((Q1:Int) * (Y:Int))) = (U2:Int)) (hU2b : U2 < Y)
  (hQ0 : (U2 * 4294967296 + u0) / Y = Q0) (hQ0b : Q0 < 4294967296)
  (hG0 : (U2:Int) / (y1:Int) = (G0:Int)) (hG0b : G0 < 18446744073709551616)
  (hH0 : IntKind.u64.wrap ((G0:Int) * (y1:Int)) = (H0:Int)) (hH0b : H0 < 18446744073709551616)
  (hr0 : IntKind.u64.wrap ((U2:Int) - (H0:Int)) = (r0:Int)) (hr0b : r0 < 4294967296)
  (hg0 : Num.Guess Q0 U2 y1 G0 r0)
  (hR : IntKind.u64.wrap (IntKind.u64.wrap (IntKind.u64.wrap ((U2:Int) * 4294967296) + (u0:Int)) - IntKind.u64.wrap ((Q0:Int) * (Y:Int))) = (R:Int)) (hRb : R < 18446744073709551616)
  (w : World) :
    Calls Try.prog 30 #[.int .u64 (hi : Int), .int .u64 (lo : Int), .int .u64 (d : Int)] w fun e w' => e = .returned (.tuple #[.int .u64 ((Q1:Int) * 4294967296 + (Q0:Int)), .int .u64 ((R:Int) / 2 ^ s)]) ∧ w = w' := by
  have t1 : ((d : Int) == 0) = false := by simp; omega
  have t2 : ¬ ((d : Int) ≤ (hi : Int)) := by omega
  have t3 : ((hi : Int) == 0) = false := by simp; omega
  have tt : Hid (1 ≤ y1 ∧ y1 ≤ 4294967295 ∧ y0 < 4294967296 ∧ u1 < 4294967296 ∧ u0 < 4294967296 ∧ Q1 < 4294967296 ∧ Q0 < 4294967296) := ⟨hy1b, hy1c, hy0b, hu1b, hu0b, hQ1b, hQ0b⟩
  have LZ : Hid _ := lz
  have HR : Hid _ := hR
  have HU2 : Hid _ := hU2
  have HH0 : Hid _ := hH0
  have HG0 : Hid _ := hG0
  have Hr0 : Hid _ := hr0
  have K1 : Hid _ := hQ1
  have K0 : Hid _ := hQ0
  have KY : Hid _ := hYe
  have M1 : Hid _ := hg1
  have M0 : Hid _ := hg0
  clear lz hR hU2 hH0 hG0 hr0 hQ1 hQ0 hYe hg1 hg0
  go_enter Try.func30, Try.ntmps30
  go_wp2_with (go_at_call 35; refine (LZ.out _).mono ?_; rintro e w' ⟨rfl, rfl⟩)
  go_loop [15, 16] (fun q r => ∃ a b : Nat, q = .int .u64 a ∧ r = .int .u64 b ∧ a < 18446744073709551616 ∧ b < 4294967296 ∧ Hid (Num.Guess Q1 U y1 a b)) (fun q _ => (intOf q).toNat)
  case atStart => exact ⟨G1, r1, rfl, rfl, hG1b, hr1b, M1⟩
  case round =>
    obtain ⟨a, b, rfl, rfl, ha, hb, HG⟩ := hrel
    have ⟨b1, b2, b3, b4, b5, b6, b7⟩ := tt.out
    have hVY : U < Y := hUb
    by_cases h1 : 4294967296 ≤ a
    · have c1 : (4294967296 : Int) ≤ (a : Int) := by omega
      obtain ⟨k1, k2⟩ := Num.guess_less KY.out b1 K1.out b6 HG.out (.inl h1)
      have e1 : IntKind.u64.wrap ((a : Int) - 1) = ((a - 1 : Nat) : Int) := by rw [IntKind.wrap_u64]; omega
      have e2 : IntKind.u64.wrap ((b : Int) + (y1 : Int)) = ((b + y1 : Nat) : Int) := by rw [IntKind.wrap_u64]; omega
      have N2 : Hid _ := k2
      clear k2
      by_cases h2 : 4294967296 ≤ b + y1
      · have k3 := Num.guess_far KY.out b1 b3 hVY K1.out N2.out h2
        obtain ⟨b', hb'⟩ : ∃ b', b + y1 = b' := ⟨_, rfl⟩
        have c2 : (4294967296 : Int) ≤ (b' : Int) := by omega
        rw [k3] at e1
        rw [hb'] at e2
        clear k3 h2 ha hb hb' N2 k1 b1 b2 b3 b4 b5 b6 b7 hVY
        have hU2 := HU2.out
        have hG0 := HG0.out
        have hH0 := HH0.out
        have hr0 := Hr0.out
        go_wp2_with fail
        clear hU2 hG0 hH0 hr0
        try clear hor hY hL hand hy1 hu1 hu0 hG1 hH1 hr1
        try clear hm2
        try clear e1
        try clear e2
        try clear e3
        try clear e4
        try clear c1
        try clear c2
        try clear c3
        try clear h1
        try clear h3
        try clear hn
        try clear hmm
        try clear m1
        go_loop [18, 16] (fun q r => ∃ a b : Nat, q = .int .u64 a ∧ r = .int .u64 b ∧ a < 18446744073709551616 ∧ b < 4294967296 ∧ Hid (Num.Guess Q0 U2 y1 a b)) (fun q _ => (intOf q).toNat)
        case atStart => exact ⟨G0, r0, rfl, rfl, hG0b, hr0b, M0⟩
        case round =>
          obtain ⟨a, b, rfl, rfl, ha, hb, HG⟩ := hrel
          have ⟨b1, b2, b3, b4, b5, b6, b7⟩ := tt.out
          have hVY : U2 < Y := hU2b
          by_cases h1 : 4294967296 ≤ a
          · have c1 : (4294967296 : Int) ≤ (a : Int) := by omega
            obtain ⟨k1, k2⟩ := Num.guess_less KY.out b1 K0.out b7 HG.out (.inl h1)
            have e1 : IntKind.u64.wrap ((a : Int) - 1) = ((a - 1 : Nat) : Int) := by rw [IntKind.wrap_u64]; omega
            have e2 : IntKind.u64.wrap ((b : Int) + (y1 : Int)) = ((b + y1 : Nat) : Int) := by rw [IntKind.wrap_u64]; omega
            have N2 : Hid _ := k2
            clear k2
            by_cases h2 : 4294967296 ≤ b + y1
            · have k3 := Num.guess_far KY.out b1 b3 hVY K0.out N2.out h2
              obtain ⟨b', hb'⟩ : ∃ b', b + y1 = b' := ⟨_, rfl⟩
              have c2 : (4294967296 : Int) ≤ (b' : Int) := by omega
              rw [k3] at e1
              rw [hb'] at e2
              clear k3 h2 ha hb hb' N2 k1 b1 b2 b3 b4 b5 b6 b7 hVY
              have hR := HR.out
              go_wp2_with fail
              go_ret2
              exact ⟨rfl, rfl⟩
            · have c2 : ¬ ((4294967296 : Int) ≤ ((b + y1 : Nat) : Int)) := by omega
              obtain ⟨a', ha'⟩ : ∃ a', a - 1 = a' := ⟨_, rfl⟩
              obtain ⟨b', hb'⟩ : ∃ b', b + y1 = b' := ⟨_, rfl⟩
              rw [ha'] at e1 N2
              rw [hb'] at e2 c2 N2 h2
              clear b1 b2 b3 b4 b5 b6 b7 hVY
              go_wp2_with fail
              go_round
              case rel => exact ⟨a', b', rfl, rfl, by omega, by omega, N2⟩
              case measure => simp [intOf]; omega
          · have c1 : ¬ ((4294967296 : Int) ≤ (a : Int)) := by omega
            have m1 := Num.guess_small (q := a) b3 (by omega)
            obtain ⟨m, hmm⟩ : ∃ m, a * y0 = m := ⟨_, rfl⟩
            have e3 : IntKind.u64.wrap ((a : Int) * (y0 : Int)) = (m : Int) := by rw [← Int.natCast_mul, hmm]; exact IntWalk.u64_in _ ⟨by omega, by omega⟩
            have e4 : IntKind.u64.wrap (IntKind.u64.wrap (4294967296 * (b : Int)) + (u0 : Int)) = ((4294967296 * b + u0 : Nat) : Int) := by rw [IntKind.wrap_u64, IntKind.wrap_u64]; omega
            obtain ⟨n, hn⟩ : ∃ n, 4294967296 * b + u0 = n := ⟨_, rfl⟩
            rw [hn] at e4
            by_cases h3 : n < m
            · have c3 : (n : Int) < (m : Int) := by omega
              obtain ⟨k1, k2⟩ := Num.guess_less KY.out b1 K0.out b7 HG.out (.inr (by omega))
              have e1 : IntKind.u64.wrap ((a : Int) - 1) = ((a - 1 : Nat) : Int) := by rw [IntKind.wrap_u64]; omega
              have e2 : IntKind.u64.wrap ((b : Int) + (y1 : Int)) = ((b + y1 : Nat) : Int) := by rw [IntKind.wrap_u64]; omega
              have N2 : Hid _ := k2
              clear k2
              by_cases h2 : 4294967296 ≤ b + y1
              · have k3 := Num.guess_far KY.out b1 b3 hVY K0.out N2.out h2
                obtain ⟨b', hb'⟩ : ∃ b', b + y1 = b' := ⟨_, rfl⟩
                have c2 : (4294967296 : Int) ≤ (b' : Int) := by omega
                rw [k3] at e1
                rw [hb'] at e2
                clear k3 h2 ha hb hb' N2 k1 b1 b2 b3 b4 b5 b6 b7 hVY
                have hR := HR.out
                go_wp2_with fail
                go_ret2
                exact ⟨rfl, rfl⟩
              · have c2 : ¬ ((4294967296 : Int) ≤ ((b + y1 : Nat) : Int)) := by omega
                obtain ⟨a', ha'⟩ : ∃ a', a - 1 = a' := ⟨_, rfl⟩
                obtain ⟨b', hb'⟩ : ∃ b', b + y1 = b' := ⟨_, rfl⟩
                rw [ha'] at e1 N2
                rw [hb'] at e2 c2 N2 h2
                clear b1 b2 b3 b4 b5 b6 b7 hVY
                go_wp2_with fail
                go_round
                case rel => exact ⟨a', b', rfl, rfl, by omega, by omega, N2⟩
                case measure => simp [intOf]; omega
            · have c3 : ¬ ((n : Int) < (m : Int)) := by omega
              have k3 := Num.guess_right KY.out b1 K0.out HG.out (by omega)
              subst k3
              clear b1 b2 b3 b4 b5 b6 b7 hVY h3 hn hmm m1 h1 ha hb
              have hR := HR.out
              go_wp2_with fail
              go_ret2
              exact ⟨rfl, rfl⟩
      · have c2 : ¬ ((4294967296 : Int) ≤ ((b + y1 : Nat) : Int)) := by omega
        obtain ⟨a', ha'⟩ : ∃ a', a - 1 = a' := ⟨_, rfl⟩
        obtain ⟨b', hb'⟩ : ∃ b', b + y1 = b' := ⟨_, rfl⟩
        rw [ha'] at e1 N2
        rw [hb'] at e2 c2 N2 h2
        clear b1 b2 b3 b4 b5 b6 b7 hVY
        go_wp2_with fail
        go_round
        case rel => exact ⟨a', b', rfl, rfl, by omega, by omega, N2⟩
        case measure => simp [intOf]; omega
    · have c1 : ¬ ((4294967296 : Int) ≤ (a : Int)) := by omega
      have m1 := Num.guess_small (q := a) b3 (by omega)
      obtain ⟨m, hmm⟩ : ∃ m, a * y0 = m := ⟨_, rfl⟩
      have e3 : IntKind.u64.wrap ((a : Int) * (y0 : Int)) = (m : Int) := by rw [← Int.natCast_mul, hmm]; exact IntWalk.u64_in _ ⟨by omega, by omega⟩
      have e4 : IntKind.u64.wrap (IntKind.u64.wrap (4294967296 * (b : Int)) + (u1 : Int)) = ((4294967296 * b + u1 : Nat) : Int) := by rw [IntKind.wrap_u64, IntKind.wrap_u64]; omega
      obtain ⟨n, hn⟩ : ∃ n, 4294967296 * b + u1 = n := ⟨_, rfl⟩
      rw [hn] at e4
      by_cases h3 : n < m
      · have c3 : (n : Int) < (m : Int) := by omega
        obtain ⟨k1, k2⟩ := Num.guess_less KY.out b1 K1.out b6 HG.out (.inr (by omega))
        have e1 : IntKind.u64.wrap ((a : Int) - 1) = ((a - 1 : Nat) : Int) := by rw [IntKind.wrap_u64]; omega
        have e2 : IntKind.u64.wrap ((b : Int) + (y1 : Int)) = ((b + y1 : Nat) : Int) := by rw [IntKind.wrap_u64]; omega
        have N2 : Hid _ := k2
        clear k2
        by_cases h2 : 4294967296 ≤ b + y1
        · have k3 := Num.guess_far KY.out b1 b3 hVY K1.out N2.out h2
          obtain ⟨b', hb'⟩ : ∃ b', b + y1 = b' := ⟨_, rfl⟩
          have c2 : (4294967296 : Int) ≤ (b' : Int) := by omega
          rw [k3] at e1
          rw [hb'] at e2
          clear k3 h2 ha hb hb' N2 k1 b1 b2 b3 b4 b5 b6 b7 hVY
          have hU2 := HU2.out
          have hG0 := HG0.out
          have hH0 := HH0.out
          have hr0 := Hr0.out
          go_wp2_with fail
          clear hU2 hG0 hH0 hr0
          try clear hor hY hL hand hy1 hu1 hu0 hG1 hH1 hr1
          try clear hm2
          try clear e1
          try clear e2
          try clear e3
          try clear e4
          try clear c1
          try clear c2
          try clear c3
          try clear h1
          try clear h3
          try clear hn
          try clear hmm
          try clear m1
          go_loop [18, 16] (fun q r => ∃ a b : Nat, q = .int .u64 a ∧ r = .int .u64 b ∧ a < 18446744073709551616 ∧ b < 4294967296 ∧ Hid (Num.Guess Q0 U2 y1 a b)) (fun q _ => (intOf q).toNat)
          case atStart => exact ⟨G0, r0, rfl, rfl, hG0b, hr0b, M0⟩
          case round =>
            obtain ⟨a, b, rfl, rfl, ha, hb, HG⟩ := hrel
            have ⟨b1, b2, b3, b4, b5, b6, b7⟩ := tt.out
            have hVY : U2 < Y := hU2b
            by_cases h1 : 4294967296 ≤ a
            · have c1 : (4294967296 : Int) ≤ (a : Int) := by omega
              obtain ⟨k1, k2⟩ := Num.guess_less KY.out b1 K0.out b7 HG.out (.inl h1)
              have e1 : IntKind.u64.wrap ((a : Int) - 1) = ((a - 1 : Nat) : Int) := by rw [IntKind.wrap_u64]; omega
              have e2 : IntKind.u64.wrap ((b : Int) + (y1 : Int)) = ((b + y1 : Nat) : Int) := by rw [IntKind.wrap_u64]; omega
              have N2 : Hid _ := k2
              clear k2
              by_cases h2 : 4294967296 ≤ b + y1
              · have k3 := Num.guess_far KY.out b1 b3 hVY K0.out N2.out h2
                obtain ⟨b', hb'⟩ : ∃ b', b + y1 = b' := ⟨_, rfl⟩
                have c2 : (4294967296 : Int) ≤ (b' : Int) := by omega
                rw [k3] at e1
                rw [hb'] at e2
                clear k3 h2 ha hb hb' N2 k1 b1 b2 b3 b4 b5 b6 b7 hVY
                have hR := HR.out
                go_wp2_with fail
                go_ret2
                exact ⟨rfl, rfl⟩
              · have c2 : ¬ ((4294967296 : Int) ≤ ((b + y1 : Nat) : Int)) := by omega
                obtain ⟨a', ha'⟩ : ∃ a', a - 1 = a' := ⟨_, rfl⟩
                obtain ⟨b', hb'⟩ : ∃ b', b + y1 = b' := ⟨_, rfl⟩
                rw [ha'] at e1 N2
                rw [hb'] at e2 c2 N2 h2
                clear b1 b2 b3 b4 b5 b6 b7 hVY
                go_wp2_with fail
                go_round
                case rel => exact ⟨a', b', rfl, rfl, by omega, by omega, N2⟩
                case measure => simp [intOf]; omega
            · have c1 : ¬ ((4294967296 : Int) ≤ (a : Int)) := by omega
              have m1 := Num.guess_small (q := a) b3 (by omega)
              obtain ⟨m, hmm⟩ : ∃ m, a * y0 = m := ⟨_, rfl⟩
              have e3 : IntKind.u64.wrap ((a : Int) * (y0 : Int)) = (m : Int) := by rw [← Int.natCast_mul, hmm]; exact IntWalk.u64_in _ ⟨by omega, by omega⟩
              have e4 : IntKind.u64.wrap (IntKind.u64.wrap (4294967296 * (b : Int)) + (u0 : Int)) = ((4294967296 * b + u0 : Nat) : Int) := by rw [IntKind.wrap_u64, IntKind.wrap_u64]; omega
              obtain ⟨n, hn⟩ : ∃ n, 4294967296 * b + u0 = n := ⟨_, rfl⟩
              rw [hn] at e4
              by_cases h3 : n < m
              · have c3 : (n : Int) < (m : Int) := by omega
                obtain ⟨k1, k2⟩ := Num.guess_less KY.out b1 K0.out b7 HG.out (.inr (by omega))
                have e1 : IntKind.u64.wrap ((a : Int) - 1) = ((a - 1 : Nat) : Int) := by rw [IntKind.wrap_u64]; omega
                have e2 : IntKind.u64.wrap ((b : Int) + (y1 : Int)) = ((b + y1 : Nat) : Int) := by rw [IntKind.wrap_u64]; omega
                have N2 : Hid _ := k2
                clear k2
                by_cases h2 : 4294967296 ≤ b + y1
                · have k3 := Num.guess_far KY.out b1 b3 hVY K0.out N2.out h2
                  obtain ⟨b', hb'⟩ : ∃ b', b + y1 = b' := ⟨_, rfl⟩
                  have c2 : (4294967296 : Int) ≤ (b' : Int) := by omega
                  rw [k3] at e1
                  rw [hb'] at e2
                  clear k3 h2 ha hb hb' N2 k1 b1 b2 b3 b4 b5 b6 b7 hVY
                  have hR := HR.out
                  go_wp2_with fail
                  go_ret2
                  exact ⟨rfl, rfl⟩
                · have c2 : ¬ ((4294967296 : Int) ≤ ((b + y1 : Nat) : Int)) := by omega
                  obtain ⟨a', ha'⟩ : ∃ a', a - 1 = a' := ⟨_, rfl⟩
                  obtain ⟨b', hb'⟩ : ∃ b', b + y1 = b' := ⟨_, rfl⟩
                  rw [ha'] at e1 N2
                  rw [hb'] at e2 c2 N2 h2
                  clear b1 b2 b3 b4 b5 b6 b7 hVY
                  go_wp2_with fail
                  go_round
                  case rel => exact ⟨a', b', rfl, rfl, by omega, by omega, N2⟩
                  case measure => simp [intOf]; omega
              · have c3 : ¬ ((n : Int) < (m : Int)) := by omega
                have k3 := Num.guess_right KY.out b1 K0.out HG.out (by omega)
                subst k3
                clear b1 b2 b3 b4 b5 b6 b7 hVY h3 hn hmm m1 h1 ha hb
                have hR := HR.out
                go_wp2_with fail
                go_ret2
                exact ⟨rfl, rfl⟩
        · have c2 : ¬ ((4294967296 : Int) ≤ ((b + y1 : Nat) : Int)) := by omega
          obtain ⟨a', ha'⟩ : ∃ a', a - 1 = a' := ⟨_, rfl⟩
          obtain ⟨b', hb'⟩ : ∃ b', b + y1 = b' := ⟨_, rfl⟩
          rw [ha'] at e1 N2
          rw [hb'] at e2 c2 N2 h2
          clear b1 b2 b3 b4 b5 b6 b7 hVY
          go_wp2_with fail
          go_round
          case rel => exact ⟨a', b', rfl, rfl, by omega, by omega, N2⟩
          case measure => simp [intOf]; omega
      · have c3 : ¬ ((n : Int) < (m : Int)) := by omega
        have k3 := Num.guess_right KY.out b1 K1.out HG.out (by omega)
        subst k3
        clear b1 b2 b3 b4 b5 b6 b7 hVY h3 hn hmm m1 h1 ha hb
        have hU2 := HU2.out
        have hG0 := HG0.out
        have hH0 := HH0.out
        have hr0 := Hr0.out
        go_wp2_with fail
        clear hU2 hG0 hH0 hr0
        try clear hor hY hL hand hy1 hu1 hu0 hG1 hH1 hr1
        try clear hm2
        try clear e1
        try clear e2
        try clear e3
        try clear e4
        try clear c1
        try clear c2
        try clear c3
        try clear h1
        try clear h3
        try clear hn
        try clear hmm
        try clear m1
        go_loop [18, 16] (fun q r => ∃ a b : Nat, q = .int .u64 a ∧ r = .int .u64 b ∧ a < 18446744073709551616 ∧ b < 4294967296 ∧ Hid (Num.Guess Q0 U2 y1 a b)) (fun q _ => (intOf q).toNat)
        case atStart => exact ⟨G0, r0, rfl, rfl, hG0b, hr0b, M0⟩
        case round =>
          obtain ⟨a, b, rfl, rfl, ha, hb, HG⟩ := hrel
          have ⟨b1, b2, b3, b4, b5, b6, b7⟩ := tt.out
          have hVY : U2 < Y := hU2b
          by_cases h1 : 4294967296 ≤ a
          · have c1 : (4294967296 : Int) ≤ (a : Int) := by omega
            obtain ⟨k1, k2⟩ := Num.guess_less KY.out b1 K0.out b7 HG.out (.inl h1)
            have e1 : IntKind.u64.wrap ((a : Int) - 1) = ((a - 1 : Nat) : Int) := by rw [IntKind.wrap_u64]; omega
            have e2 : IntKind.u64.wrap ((b : Int) + (y1 : Int)) = ((b + y1 : Nat) : Int) := by rw [IntKind.wrap_u64]; omega
            have N2 : Hid _ := k2
            clear k2
            by_cases h2 : 4294967296 ≤ b + y1
            · have k3 := Num.guess_far KY.out b1 b3 hVY K0.out N2.out h2
              obtain ⟨b', hb'⟩ : ∃ b', b + y1 = b' := ⟨_, rfl⟩
              have c2 : (4294967296 : Int) ≤ (b' : Int) := by omega
              rw [k3] at e1
              rw [hb'] at e2
              clear k3 h2 ha hb hb' N2 k1 b1 b2 b3 b4 b5 b6 b7 hVY
              have hR := HR.out
              go_wp2_with fail
              go_ret2
              exact ⟨rfl, rfl⟩
            · have c2 : ¬ ((4294967296 : Int) ≤ ((b + y1 : Nat) : Int)) := by omega
              obtain ⟨a', ha'⟩ : ∃ a', a - 1 = a' := ⟨_, rfl⟩
              obtain ⟨b', hb'⟩ : ∃ b', b + y1 = b' := ⟨_, rfl⟩
              rw [ha'] at e1 N2
              rw [hb'] at e2 c2 N2 h2
              clear b1 b2 b3 b4 b5 b6 b7 hVY
              go_wp2_with fail
              go_round
              case rel => exact ⟨a', b', rfl, rfl, by omega, by omega, N2⟩
              case measure => simp [intOf]; omega
          · have c1 : ¬ ((4294967296 : Int) ≤ (a : Int)) := by omega
            have m1 := Num.guess_small (q := a) b3 (by omega)
            obtain ⟨m, hmm⟩ : ∃ m, a * y0 = m := ⟨_, rfl⟩
            have e3 : IntKind.u64.wrap ((a : Int) * (y0 : Int)) = (m : Int) := by rw [← Int.natCast_mul, hmm]; exact IntWalk.u64_in _ ⟨by omega, by omega⟩
            have e4 : IntKind.u64.wrap (IntKind.u64.wrap (4294967296 * (b : Int)) + (u0 : Int)) = ((4294967296 * b + u0 : Nat) : Int) := by rw [IntKind.wrap_u64, IntKind.wrap_u64]; omega
            obtain ⟨n, hn⟩ : ∃ n, 4294967296 * b + u0 = n := ⟨_, rfl⟩
            rw [hn] at e4
            by_cases h3 : n < m
            · have c3 : (n : Int) < (m : Int) := by omega
              obtain ⟨k1, k2⟩ := Num.guess_less KY.out b1 K0.out b7 HG.out (.inr (by omega))
              have e1 : IntKind.u64.wrap ((a : Int) - 1) = ((a - 1 : Nat) : Int) := by rw [IntKind.wrap_u64]; omega
              have e2 : IntKind.u64.wrap ((b : Int) + (y1 : Int)) = ((b + y1 : Nat) : Int) := by rw [IntKind.wrap_u64]; omega
              have N2 : Hid _ := k2
              clear k2
              by_cases h2 : 4294967296 ≤ b + y1
              · have k3 := Num.guess_far KY.out b1 b3 hVY K0.out N2.out h2
                obtain ⟨b', hb'⟩ : ∃ b', b + y1 = b' := ⟨_, rfl⟩
                have c2 : (4294967296 : Int) ≤ (b' : Int) := by omega
                rw [k3] at e1
                rw [hb'] at e2
                clear k3 h2 ha hb hb' N2 k1 b1 b2 b3 b4 b5 b6 b7 hVY
                have hR := HR.out
                go_wp2_with fail
                go_ret2
                exact ⟨rfl, rfl⟩
              · have c2 : ¬ ((4294967296 : Int) ≤ ((b + y1 : Nat) : Int)) := by omega
                obtain ⟨a', ha'⟩ : ∃ a', a - 1 = a' := ⟨_, rfl⟩
                obtain ⟨b', hb'⟩ : ∃ b', b + y1 = b' := ⟨_, rfl⟩
                rw [ha'] at e1 N2
                rw [hb'] at e2 c2 N2 h2
                clear b1 b2 b3 b4 b5 b6 b7 hVY
                go_wp2_with fail
                go_round
                case rel => exact ⟨a', b', rfl, rfl, by omega, by omega, N2⟩
                case measure => simp [intOf]; omega
            · have c3 : ¬ ((n : Int) < (m : Int)) := by omega
              have k3 := Num.guess_right KY.out b1 K0.out HG.out (by omega)
              subst k3
              clear b1 b2 b3 b4 b5 b6 b7 hVY h3 hn hmm m1 h1 ha hb
              have hR := HR.out
              go_wp2_with fail
              go_ret2
              exact ⟨rfl, rfl⟩

theorem or_add (x y A : Nat) (s : Nat) (hA : A = 2 ^ s) (hx : ∃ k, x = k * A) (hy : y < A) (h : x + y < 18446744073709551616) : bits BinOp.or IntKind.u64 (x : Int) (y : Int) = ((x + y : Nat) : Int) := by
  rw [Go.u64_or_nat x y (by omega) (by omega)]
  obtain ⟨k, rfl⟩ := hx
  subst hA
  rw [Nat.mul_comm k, Nat.two_pow_add_eq_or_of_lt hy]

theorem and_low (x : Nat) (h : x < 18446744073709551616) : bits BinOp.and IntKind.u64 (x : Int) 4294967295 = ((x % 4294967296 : Nat) : Int) := by
  have := Go.u64_and_nat x 4294967295 h (by decide)
  rw [show ((4294967295 : Nat) : Int) = 4294967295 from rfl] at this
  rw [this]
  have e := Nat.and_two_pow_sub_one_eq_mod x 32
  rw [show (2 : Nat) ^ 32 - 1 = 4294967295 from by decide, show (2 : Nat) ^ 32 = 4294967296 from by decide] at e
  rw [e]

theorem cast_wrap (x : Nat) (h : x < 18446744073709551616) : IntKind.u64.wrap (x : Int) = (x : Int) := IntWalk.u64_in _ ⟨by omega, by omega⟩

theorem wrap_mod (x : Nat) : IntKind.u64.wrap (x : Int) = ((x % 18446744073709551616 : Nat) : Int) := by rw [IntKind.wrap_u64]; omega

theorem wrap_three (u v p y : Nat) (h : u * 4294967296 + v = p + y) (hy : y < 18446744073709551616) :
    IntKind.u64.wrap (IntKind.u64.wrap (IntKind.u64.wrap ((u : Int) * 4294967296) + (v : Int)) - IntKind.u64.wrap (p : Int)) = (y : Int) := by
  simp only [IntKind.wrap_u64]; omega

theorem div64_all (hi lo d : Nat) (hd : 1 ≤ d) (hd2 : d < 18446744073709551616) (hh : hi < d) (hlo : lo < 18446744073709551616) (w : World) :
    Calls Try.prog 30 #[.int .u64 (hi : Int), .int .u64 (lo : Int), .int .u64 (d : Int)] w
      (Drawn (.tuple #[.int .u64 (((hi * 18446744073709551616 + lo) / d : Nat) : Int), .int .u64 (((hi * 18446744073709551616 + lo) % d : Nat) : Int)]) w) := by
  by_cases h0 : hi = 0
  · subst h0
    rw [Nat.zero_mul, Nat.zero_add, Int.natCast_ediv, Int.natCast_emod]
    exact div64_zero lo d hd hd2 (by omega) w
  · have hd64 : d < 2 ^ 64 := by omega
    have b1 : Lib.bitLen d ≤ 64 := Lib.bitLen_le d 64 (by decide) (by omega)
    have b2 := Num.bitLen_pos d (by omega) hd64
    have b3 := Num.bitLen_lt 64 d (by omega) hd64
    have b4 := (Lib.bitLenAux_bounds 64 d hd64 (by omega)).2.1
    obtain ⟨s, hs⟩ : ∃ s, s = 64 - Lib.bitLen d := ⟨_, rfl⟩
    have hb : Lib.bitLen d = 64 - s := by omega
    have hb4 : 9223372036854775808 ≤ d * 2 ^ s := by
      have e : (2 : Nat) ^ (Lib.bitLen d - 1) * 2 ^ s = 9223372036854775808 := by
        rw [← Nat.pow_add, show Lib.bitLen d - 1 + s = 63 from by omega]
      rw [← e]; exact Nat.mul_le_mul_right _ b4
    rw [hb] at b3
    have hAB : (2 : Nat) ^ s * 2 ^ (64 - s) = 18446744073709551616 := by
      rw [← Nat.pow_add, show s + (64 - s) = 64 from by omega]
    obtain ⟨Y, y1, y0, U, L, u1, u0, Q1, U2, Q0, R, h1, h2, h3, h4, h5, h6, h7, h8, h9, h10, h11, h12, h13, h14, h15, h16, h17, h18, h19, h20, h21, h22, h23, h24, h25, h26, h27, h28⟩ :=
      Num.halves hi lo d (2 ^ s) (2 ^ (64 - s)) hAB b3 hb4 hd hh hlo
    have c1 : ∀ x : Nat, ((x : Int) * 2 ^ s) = ((x * 2 ^ s : Nat) : Int) := fun x => by rw [Int.natCast_mul, Int.natCast_pow]; rfl
    have c2 : ((lo : Int) / 2 ^ (64 - s)) = ((lo / 2 ^ (64 - s) : Nat) : Int) := by rw [Int.natCast_ediv, Int.natCast_pow]; rfl
    obtain ⟨g1, g2, g3⟩ := Num.guess_first h7 (by omega) h16 h19
    obtain ⟨g4, g5, g6⟩ := Num.guess_first h7 (by omega) h18 h23
    have g7 := Nat.div_le_self U y1
    have g8 := Nat.div_le_self U2 y1
    refine (div64_walk hi lo d s Y y1 y0 U L u1 u0 Q1 (U / y1) (U / y1 * y1) (U - U / y1 * y1) U2 Q0 (U2 / y1) (U2 / y1 * y1) (U2 - U2 / y1 * y1) R (by omega) hd hd2 (by omega) hh (by omega) ?_ (by omega) (by omega)
      ?_ h2 (by omega) (by omega) (by omega) ?_ h8 h7 ?_ h12 ?_ h14 (by omega) h16 ?_ h18 h19 h20 ?_ (by omega) ?_ (by omega) ?_ (by omega) g1 ?_ h22 h23 h24 ?_ (by omega) ?_ (by omega) ?_ (by omega) g4 ?_ (by omega) w).mono ?_
    · intro w
      refine (Try.bits_LeadingZeros64 _ _ (by omega) (by omega)).mono ?_
      rintro e w' ⟨rfl, rfl⟩
      refine ⟨?_, rfl⟩
      rw [Int.toNat_natCast, hb]
      congr 2
      omega
    · rw [c1, h1, cast_wrap Y h2]
    · rw [and_low Y h2, h6]
    · rw [c1, c2, cast_wrap _ h9, or_add _ _ _ s rfl ⟨hi, rfl⟩ h10 (by omega), h11]
    · rw [c1, wrap_mod, h13]
    · rw [and_low L h14, h17]
    · rw [Int.natCast_ediv]
    · rw [← Int.natCast_mul]; exact cast_wrap _ (by omega)
    · rw [IntKind.wrap_u64]; omega
    · rw [← Int.natCast_mul]; exact wrap_three _ _ _ _ h21 (by omega)
    · rw [Int.natCast_ediv]
    · rw [← Int.natCast_mul]; exact cast_wrap _ (by omega)
    · rw [IntKind.wrap_u64]; omega
    · rw [← Int.natCast_mul]; exact wrap_three _ _ _ _ h25 (by omega)
    · rintro e w' ⟨rfl, rfl⟩
      refine ⟨0, ?_, rfl⟩
      rw [← h27, ← h28, Int.natCast_ediv, Int.natCast_pow]
      rfl
theorem div64_any (hi lo d : Nat) (hd : 1 ≤ d) (hd2 : d ≤ 2000000000) (hh : hi < d) (hlo : lo < 18446744073709551616) (w : World) :
    Calls Try.prog 30 #[.int .u64 (hi : Int), .int .u64 (lo : Int), .int .u64 (d : Int)] w
      (Drawn (.tuple #[.int .u64 (((hi * 18446744073709551616 + lo) / d : Nat) : Int), .int .u64 (((hi * 18446744073709551616 + lo) % d : Nat) : Int)]) w) :=
  div64_all hi lo d hd (by omega) hh hlo w
end Go.Proofs.Ytihfafmockaljaa
