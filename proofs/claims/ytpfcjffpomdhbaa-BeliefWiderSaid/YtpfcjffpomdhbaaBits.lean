/- math/bits.Div64 for a divisor of up to 2000000000 that is greater than the upper half: it returns the quotient and the rest; memory stays as it is, up to draws. -/
import Derived.WalkKit
import Derived.BigQuiet
import Derived.Deep.QuietTactic
import Derived.Outline
import Derived.Test.YtpfcjffpomdhbaaShelf
import Derived.Test.YtpfcjffpomdhbaaNum
import Derived.Laws.BitsAllLaws
namespace Go.Proofs.Ytpfcjffpomdhbaa
open Go.RowKit Go
set_option linter.unusedVariables false

/-- Returned v, and the world as it was but for draws. -/
def Drawn (v : Value) (w : World) (e : Ending) (w' : World) : Prop := ∃ n, e = .returned v ∧ w' = w.drewN n

set_option maxHeartbeats 400000 in
theorem div64_zero (lo d : Nat) (hd : 1 ≤ d) (hd2 : d ≤ 2147483648) (hlo : lo ≤ 18446744073709551615) (w : World) :
    Calls Try.prog 60 #[.int .u64 (0 : Int), .int .u64 (lo : Int), .int .u64 (d : Int)] w (Drawn (.tuple #[.int .u64 ((lo : Int) / (d : Int)), .int .u64 ((lo : Int) % (d : Int))]) w) := by
  have t1 : ((d : Int) == 0) = false := by simp; omega
  have t2 : ¬ ((d : Int) ≤ 0) := by omega
  have q0 : 0 ≤ (lo : Int) / (d : Int) := Int.ediv_nonneg (by omega) (by omega)
  have q1 : (lo : Int) / (d : Int) ≤ 18446744073709551615 := by
    have := Int.ediv_le_self (a := (lo : Int)) (d : Int) (by omega)
    omega
  have q2 : IntKind.u64.wrap ((lo : Int) / (d : Int)) = (lo : Int) / (d : Int) := IntWalk.u64_in _ ⟨q0, q1⟩
  go_enter Try.func60, Try.ntmps60
  go_wp2_with fail
  go_quiet (fail)
  go_wp2
  go_ret2
  exact ⟨_, rfl, rfl⟩

set_option maxRecDepth 100000 in
set_option maxHeartbeats 400000 in
theorem div64_walk (hi lo d : Nat) (s Y y1 U L u1 u0 q1 p1 U2 q0 p0 R : Nat) (hs1 : 33 ≤ s) (hs2 : s ≤ 63) (hd : 1 ≤ d) (hd2 : d ≤ 2147483648) (h0 : 1 ≤ hi) (hh : hi < d) (hlo : lo ≤ 18446744073709551615)
  (lz : ∀ w, Calls Try.prog 61 #[.int .u64 (d:Int)] w fun e w' => e = .returned (.int .i64 (s : Int)) ∧ w' = w)
  (hm : min s 64 = s) (hm2 : min (64 - s) 64 = 64 - s)
  (hY : IntKind.u64.wrap ((d:Int) * 2 ^ s) = (Y:Int)) (hYb : Y ≤ 18446744073709551615)
  (hy1 : (Y:Int) / 4294967296 = (y1:Int)) (hy1b : 1 ≤ y1) (hy1c : y1 ≤ 4294967295)
  (hand : bits BinOp.and IntKind.u64 (Y:Int) 4294967295 = 0)
  (hor : bits BinOp.or IntKind.u64 (IntKind.u64.wrap ((hi:Int) * 2 ^ s)) ((lo:Int) / 2 ^ (64 - s)) = (U:Int)) (hUb : U ≤ 18446744073709551615)
  (hL : IntKind.u64.wrap ((lo:Int) * 2 ^ s) = (L:Int)) (hLb : L ≤ 18446744073709551615)
  (hu1 : (L:Int) / 4294967296 = (u1:Int)) (hu1b : u1 ≤ 4294967295)
  (hu0 : bits BinOp.and IntKind.u64 (L:Int) 4294967295 = (u0:Int)) (hu0b : u0 ≤ 4294967295)
  (hq1 : (U:Int) / (y1:Int) = (q1:Int)) (hq1b : q1 ≤ 4294967295)
  (hp1 : IntKind.u64.wrap ((q1:Int) * (y1:Int)) = (p1:Int)) (hp1b : p1 ≤ U) (hp1c : U - p1 < y1)
  (hU2 : IntKind.u64.wrap (IntKind.u64.wrap (IntKind.u64.wrap ((U:Int) * 4294967296) + (u1:Int)) - IntKind.u64.wrap ((q1:Int) * (Y:Int))) = (U2:Int)) (hU2b : U2 ≤ 18446744073709551615)
  (hq0 : (U2:Int) / (y1:Int) = (q0:Int)) (hq0b : q0 ≤ 4294967295)
  (hp0 : IntKind.u64.wrap ((q0:Int) * (y1:Int)) = (p0:Int)) (hp0b : p0 ≤ U2) (hp0c : U2 - p0 < y1)
  (hR : IntKind.u64.wrap (IntKind.u64.wrap (IntKind.u64.wrap ((U2:Int) * 4294967296) + (u0:Int)) - IntKind.u64.wrap ((q0:Int) * (Y:Int))) = (R:Int)) (hRb : R ≤ 18446744073709551615)
  (w : World) :
    Calls Try.prog 60 #[.int .u64 (hi : Int), .int .u64 (lo : Int), .int .u64 (d : Int)] w fun e w' => e = .returned (.tuple #[.int .u64 ((q1:Int) * 4294967296 + (q0:Int)), .int .u64 ((R:Int) / 2 ^ s)]) ∧ w = w' := by
  have t1 : ((d : Int) == 0) = false := by simp; omega
  have t2 : ¬ ((d : Int) ≤ (hi : Int)) := by omega
  have t3 : ((hi : Int) == 0) = false := by simp; omega
  have LZ : Hid _ := lz
  have HR : Hid _ := hR
  have HU2 : Hid _ := hU2
  have HQ0 : Hid _ := hq0
  have HP0 : Hid _ := hp0
  clear lz hR hU2 hq0 hp0
  go_enter Try.func60, Try.ntmps60
  go_wp2_with (go_at_call 61; refine (LZ.out _).mono ?_; rintro e w' ⟨rfl, rfl⟩)
  refine wp_loop_rounds 1 ?_; rw [rounds_succ]
  clear LZ hor hY hL hand hy1 hu1 hu0 hq1 hp1 hm2 hm hLb
  have t4 : ¬ ((4294967296 : Int) ≤ (q1:Int)) := by omega
  have t6 : 0 ≤ (U:Int) - (p1:Int) := by omega
  have t7 : (U:Int) - (p1:Int) < 4294967296 := by omega
  go_wp2_with fail
  have e1 : IntKind.u64.wrap ((U2 : Int).tdiv (y1 : Int)) = (q0 : Int) := by
    rw [Int.tdiv_eq_ediv_of_nonneg (by omega), HQ0.out]; exact IntWalk.u64_in _ ⟨by omega, by omega⟩
  have e2 : IntKind.u64.wrap ((U2 : Int) - (p0 : Int)) = (U2 : Int) - (p0 : Int) := IntWalk.u64_in _ ⟨by omega, by omega⟩
  simp only [HU2.out, e1, HP0.out, e2]
  clear HU2 e1 HP0 e2 HQ0 hUb hp1b hp1c hu1b t4 t6 t7
  refine wp_loop_rounds 1 ?_; rw [rounds_succ]
  have t8 : ¬ ((4294967296 : Int) ≤ (q0:Int)) := by omega
  have t9 : 0 ≤ (U2:Int) - (p0:Int) := by omega
  have t10 : (U2:Int) - (p0:Int) < 4294967296 := by omega
  have hR := HR.out
  clear HR
  go_wp2_with fail
  go_ret2
  exact ⟨rfl, rfl⟩

theorem or_add (x y A : Nat) (s : Nat) (hA : A = 2 ^ s) (hx : ∃ k, x = k * A) (hy : y < A) (h : x + y < 18446744073709551616) : bits BinOp.or IntKind.u64 (x : Int) (y : Int) = ((x + y : Nat) : Int) := by
  rw [Go.u64_or_nat x y (by omega) (by omega)]
  obtain ⟨k, rfl⟩ := hx
  subst hA
  rw [Nat.mul_comm k, Nat.two_pow_add_eq_or_of_lt hy]

theorem and_low (x : Nat) (h : x < 18446744073709551616) : bits BinOp.and IntKind.u64 (x : Int) 4294967295 = ((x % 4294967296 : Nat) : Int) := by
  have := Go.u64_and_nat x 4294967295 h (by decide)
  rw [show ((4294967295 : Nat) : Int) = 4294967295 from rfl] at this
  rw [this]
  have e := Nat.and_two_pow_sub_one_eq_mod x 32
  rw [show (2 : Nat) ^ 32 - 1 = 4294967295 from by decide, show (2 : Nat) ^ 32 = 4294967296 from by decide] at e
  rw [e]

theorem cast_wrap (x : Nat) (h : x < 18446744073709551616) : IntKind.u64.wrap (x : Int) = (x : Int) := IntWalk.u64_in _ ⟨by omega, by omega⟩

theorem wrap_mod (x : Nat) : IntKind.u64.wrap (x : Int) = ((x % 18446744073709551616 : Nat) : Int) := by rw [IntKind.wrap_u64]; omega

theorem wrap_three (u v p y : Nat) (h : u * 4294967296 + v = p + y) (hy : y < 18446744073709551616) :
    IntKind.u64.wrap (IntKind.u64.wrap (IntKind.u64.wrap ((u : Int) * 4294967296) + (v : Int)) - IntKind.u64.wrap (p : Int)) = (y : Int) := by
  simp only [IntKind.wrap_u64]; omega

theorem div64_any (hi lo d : Nat) (hd : 1 ≤ d) (hd2 : d ≤ 2000000000) (hh : hi < d) (hlo : lo < 18446744073709551616) (w : World) :
    Calls Try.prog 60 #[.int .u64 (hi : Int), .int .u64 (lo : Int), .int .u64 (d : Int)] w
      (Drawn (.tuple #[.int .u64 (((hi * 18446744073709551616 + lo) / d : Nat) : Int), .int .u64 (((hi * 18446744073709551616 + lo) % d : Nat) : Int)]) w) := by
  by_cases h0 : hi = 0
  · subst h0
    rw [Nat.zero_mul, Nat.zero_add, Int.natCast_ediv, Int.natCast_emod]
    exact div64_zero lo d hd (by omega) (by omega) w
  · have hd64 : d < 2 ^ 64 := by omega
    have b1 : Lib.bitLen d ≤ 31 := Lib.bitLen_le d 31 (by decide) (by omega)
    have b2 := Num.bitLen_pos d (by omega) hd64
    have b3 := Num.bitLen_lt 64 d (by omega) hd64
    obtain ⟨s, hs⟩ : ∃ s, s = 64 - Lib.bitLen d := ⟨_, rfl⟩
    have hb : Lib.bitLen d = 64 - s := by omega
    rw [hb] at b3
    have hA : (2 : Nat) ^ s = 2 ^ (s - 32) * 4294967296 := by
      rw [show (4294967296 : Nat) = 2 ^ 32 from by decide, ← Nat.pow_add]; congr 1; omega
    have hAB : (2 : Nat) ^ s * 2 ^ (64 - s) = 18446744073709551616 := by
      rw [← Nat.pow_add, show s + (64 - s) = 64 from by omega]
    obtain ⟨Y, y1, U, L, u1, u0, q1, p1, U2, q0, p0, R, h1, h2, h3, h4, h5, h6, h7, h8, h9, h10, h11, h12, h13, h14, h15, h16, h17, h18, h19, h20, h21, h22, h23, h24, h25, h26, h27, h28, h29, h30⟩ :=
      Num.halves hi lo d (2 ^ s) (2 ^ (64 - s)) (2 ^ (s - 32)) hA hAB (Nat.two_pow_pos _) b3 hd hh hlo
    have hLb : L < 18446744073709551616 := by rw [h11]; exact Nat.mod_lt _ (by decide)
    have c1 : ∀ x : Nat, ((x : Int) * 2 ^ s) = ((x * 2 ^ s : Nat) : Int) := fun x => by rw [Int.natCast_mul, Int.natCast_pow]; rfl
    have c2 : ((lo : Int) / 2 ^ (64 - s)) = ((lo / 2 ^ (64 - s) : Nat) : Int) := by rw [Int.natCast_ediv, Int.natCast_pow]; rfl
    refine (div64_walk hi lo d s Y y1 U L u1 u0 q1 p1 U2 q0 p0 R (by omega) (by omega) hd (by omega) (by omega) hh (by omega) ?_ (by omega) (by omega)
      ?_ (by omega) ?_ h4 h5 ?_ ?_ (by omega) ?_ (by omega) ?_ (by omega) ?_ (by omega) ?_ h16 ?_ h18 h19 ?_ (by omega) ?_ h23 ?_ h25 h26 ?_ (by omega) w).mono ?_
    · intro w
      refine (Try.bits_LeadingZeros64 _ _ (by omega) (by omega)).mono ?_
      rintro e w' ⟨rfl, rfl⟩
      refine ⟨?_, rfl⟩
      rw [Int.toNat_natCast, hb]
      congr 2
      omega
    · rw [c1, ← h1, cast_wrap Y h2]
    · rw [h3, Int.natCast_ediv]; rfl
    · rw [and_low Y h2, h6]; rfl
    · rw [c1, c2, cast_wrap _ h7, or_add _ _ _ s rfl ⟨hi, rfl⟩ h8 (by omega), ← h9]
    · rw [c1, wrap_mod, ← h11]
    · rw [h12, Int.natCast_ediv]; rfl
    · rw [and_low L hLb, ← h14]
    · rw [h15, Int.natCast_ediv]
    · rw [← Int.natCast_mul, ← h17]; exact cast_wrap _ (by omega)
    · rw [← Int.natCast_mul]; exact wrap_three _ _ _ _ h20 (by omega)
    · rw [h22, Int.natCast_ediv]
    · rw [← Int.natCast_mul, ← h24]; exact cast_wrap _ (by omega)
    · rw [← Int.natCast_mul]; exact wrap_three _ _ _ _ h27 (by omega)
    · rintro e w' ⟨rfl, rfl⟩
      refine ⟨0, ?_, rfl⟩
      rw [← h29, ← h30, Int.natCast_ediv, Int.natCast_pow]
      rfl

end Go.Proofs.Ytpfcjffpomdhbaa
