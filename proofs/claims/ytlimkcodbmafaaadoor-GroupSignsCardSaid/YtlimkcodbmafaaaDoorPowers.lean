/- Layer 6: GroupPowers. -/
import Derived.Test.YtlimkcodbmafaaaDoorNats
namespace Go.Proofs.YtlimkcodbmafaaaDoor
open Go.RowKit Go.Sort Go
set_option linter.unusedVariables false
set_option linter.unusedSimpArgs false

set_option maxHeartbeats 2000000 in
theorem powers_walk (G : Grp) (n m i k : Int) (hn : 0 ≤ n ∧ n ≤ 18446744073709551615) (hm : 0 ≤ m ∧ m ≤ 18446744073709551615) (hi : 0 ≤ i ∧ i ≤ 18446744073709551615) (hk : 0 ≤ k ∧ k ≤ 18446744073709551615) (a b x y : Nat) (ea : pw 2147483579 4 (n % 1073741789).toNat = a) (eb : pw 2147483579 4 (m % 1073741789).toNat = b) (ex : i % 1073741789 = (x : Int)) (ey : k % 1073741789 = (y : Int)) (w : World) (ht : Tab w) :
    Calls Tryd.prog 4 #[.int .u64 n, .int .u64 m, .int .u64 i, .int .u64 k] w (Gives (.bool true) w) := by
  have OK := Lib.hid (ok_refl ht)
  clear ht
  have HD := Lib.hid (head_true G w)
  have E1 := Lib.hid (element_c n hn a ea w)
  have E2 := Lib.hid (element_c m hm b eb w)
  have ha : El a := by rw [← ea]; exact el_pow el_four _
  have hb : El b := by rw [← eb]; exact el_pow el_four _
  have x1 : x < 1073741789 := by omega
  have y1 : y < 1073741789 := by omega
  have t1 : Int.tmod i 1073741789 = (x : Int) := by rw [Int.tmod_eq_emod_of_nonneg hi.1]; exact ex
  have t2 : Int.tmod k 1073741789 = (y : Int) := by rw [Int.tmod_eq_emod_of_nonneg hk.1]; exact ey
  obtain ⟨c, hc⟩ : ∃ c, a * b % 2147483579 = c := ⟨_, rfl⟩
  have C1 := Lib.hid (mul_c G a b c ha hb hc w)
  have C2 := Lib.hid (mul_c G b a c hb ha (by rw [Nat.mul_comm]; exact hc) w)
  have C3 := Lib.hid (mem_c G c (by rw [← hc]; exact el_mul ha hb) w)
  obtain ⟨p, hp⟩ : ∃ p, pw 2147483579 a x = p := ⟨_, rfl⟩
  obtain ⟨q, hq⟩ : ∃ q, pw 2147483579 a y = q := ⟨_, rfl⟩
  have Ep : El p := by rw [← hp]; exact el_pow ha x
  have Eq : El q := by rw [← hq]; exact el_pow ha y
  obtain ⟨z, hz⟩ : ∃ z, (x + y) % 1073741789 = z := ⟨_, rfl⟩
  obtain ⟨v, hv⟩ : ∃ v, x * y % 1073741789 = v := ⟨_, rfl⟩
  have z1 : z < 1073741789 := by omega
  have v1 : v < 1073741789 := by rw [← hv]; exact Nat.mod_lt _ (by omega)
  obtain ⟨r, hr⟩ : ∃ r, pw 2147483579 a z = r := ⟨_, rfl⟩
  obtain ⟨u, hu⟩ : ∃ u, pw 2147483579 a v = u := ⟨_, rfl⟩
  have D1 := Lib.hid (exp_c G a x p ha x1 hp w)
  have D2 := Lib.hid (exp_c G a y q ha y1 hq w)
  have D3 := Lib.hid (exp_c G a z r ha z1 hr w)
  have D4 := Lib.hid (mem_c G p Ep w)
  have D5 := Lib.hid (mem_c G q Eq w)
  have D6 := Lib.hid (mul_c G p q r Ep Eq (by rw [← hp, ← hq, el_add ha, hz, hr]) w)
  have D7 := Lib.hid (exp_c G p y u Ep y1 (by rw [← hp, el_times ha, hv, hu]) w)
  have D8 := Lib.hid (exp_c G a v u ha v1 hu w)
  have s1 : Int.tmod ((x : Int) + (y : Int)) 1073741789 = (z : Int) := by rw [Int.tmod_eq_emod_of_nonneg (by omega)]; omega
  have s2 := mul_small (m := 1073741789) (a := x) (b := y) (by omega) (by omega)
  have s3 : Int.tmod ((x * y : Nat) : Int) 1073741789 = (v : Int) := by rw [← hv]; exact mod_nat _ 1073741789
  obtain ⟨xy, hxy⟩ : ∃ xy, x * y = xy := ⟨_, rfl⟩
  rw [hxy] at s2 s3
  clear hxy hz hv hr hu hp hq hc ea eb ex ey Ep Eq ha hb
  go_enter Tryd.func4, Tryd.ntmps4
  go_wp2_with (first
    | (go_at_call 9; refine (HD.out _ OK.out).mono ?_; rintro e w1 ⟨rfl, o1⟩; have O1 := Lib.hid o1; clear o1 OK)
    | (go_at_call 21; refine (E1.out _ O1.out).mono ?_; rintro e w2 ⟨rfl, o2⟩; have O2 := Lib.hid o2; clear o2 O1)
    | (go_at_call 21; refine (E2.out _ O2.out).mono ?_; rintro e w3 ⟨rfl, o3⟩; have O3 := Lib.hid o3; clear o3 O2)
    | (go_at_call 11; refine (C1.out _ O3.out).mono ?_; rintro e w4 ⟨rfl, o4⟩; have O4 := Lib.hid o4; clear o4 O3)
    | (go_at_call 11; refine (C2.out _ O4.out).mono ?_; rintro e w5 ⟨rfl, o5⟩; have O5 := Lib.hid o5; clear o5 O4)
    | (go_at_call 13; refine (C3.out _ O5.out).mono ?_; rintro e w6 ⟨rfl, o6⟩; have O6 := Lib.hid o6; clear o6 O5)
    | (go_at_call 15; refine (D1.out _ O6.out).mono ?_; rintro e w7 ⟨rfl, o7⟩; have O7 := Lib.hid o7; clear o7 O6)
    | (go_at_call 15; refine (D2.out _ O7.out).mono ?_; rintro e w8 ⟨rfl, o8⟩; have O8 := Lib.hid o8; clear o8 O7)
    | (go_at_call 15; refine (D3.out _ O8.out).mono ?_; rintro e w9 ⟨rfl, o9⟩; have O9 := Lib.hid o9; clear o9 O8)
    | (go_at_call 13; refine (D4.out _ O9.out).mono ?_; rintro e w10 ⟨rfl, o10⟩; have O10 := Lib.hid o10; clear o10 O9)
    | (go_at_call 13; refine (D5.out _ O10.out).mono ?_; rintro e w11 ⟨rfl, o11⟩; have O11 := Lib.hid o11; clear o11 O10)
    | (go_at_call 11; refine (D6.out _ O11.out).mono ?_; rintro e w12 ⟨rfl, o12⟩; have O12 := Lib.hid o12; clear o12 O11)
    | (go_at_call 15; refine (D7.out _ O12.out).mono ?_; rintro e w13 ⟨rfl, o13⟩; have O13 := Lib.hid o13; clear o13 O12)
    | (go_at_call 15; refine (D8.out _ O13.out).mono ?_; rintro e w14 ⟨rfl, o14⟩; have O14 := Lib.hid o14; clear o14 O13))
  all_goals (go_ret; exact ⟨by first | (simp; done) | (simp; omega), O14.out.1⟩)

theorem powers_law (G : Grp) (n m i k : Int) (w : World) (hn : (Lit.int .u64 n).wf = true) (hm : (Lit.int .u64 m).wf = true) (hi : (Lit.int .u64 i).wf = true) (hk : (Lit.int .u64 k).wf = true) (ht : Tab w) :
    Calls Tryd.prog 4 #[.int .u64 n, .int .u64 m, .int .u64 i, .int .u64 k] w (Gives (.bool true) w) :=
  powers_walk G n m i k (u64_wf hn) (u64_wf hm) (u64_wf hi) (u64_wf hk) _ _ (i % 1073741789).toNat (k % 1073741789).toNat rfl rfl (by omega) (by omega) w ht
end Go.Proofs.YtlimkcodbmafaaaDoor
