/- Layer 6: GroupOrder. -/
import Derived.Test.YtlimkcodbmafaaaDoorNats
namespace Go.Proofs.YtlimkcodbmafaaaDoor
open Go.RowKit Go.Sort Go
set_option linter.unusedVariables false
set_option linter.unusedSimpArgs false

set_option maxHeartbeats 4000000 in
theorem order_walk (G : Grp) (n m o i k : Int) (hn : 0 ≤ n ∧ n ≤ 18446744073709551615) (hm : 0 ≤ m ∧ m ≤ 18446744073709551615) (ho : 0 ≤ o ∧ o ≤ 18446744073709551615) (hi : 0 ≤ i ∧ i ≤ 18446744073709551615) (hk : 0 ≤ k ∧ k ≤ 18446744073709551615) (a b c r s : Nat) (ea : pw 2147483579 4 (n % 1073741789).toNat = a) (eb : pw 2147483579 4 (m % 1073741789).toNat = b) (ec : pw 2147483579 4 (o % 1073741789).toNat = c) (er : i % 1073741789 = (r : Int)) (es : k % 1073741789 = (s : Int)) (w : World) (ht : Tab w) :
    Calls Tryd.prog 5 #[.int .u64 n, .int .u64 m, .int .u64 o, .int .u64 i, .int .u64 k] w (Gives (.bool true) w) := by
  have OK := Lib.hid (ok_refl ht)
  clear ht
  have HD := Lib.hid (head_true G w)
  have E1 := Lib.hid (element_c n hn a ea w)
  have E2 := Lib.hid (element_c m hm b eb w)
  have E3 := Lib.hid (element_c o ho c ec w)
  have ha : El a := by rw [← ea]; exact el_pow el_four _
  have hb : El b := by rw [← eb]; exact el_pow el_four _
  have hc : El c := by rw [← ec]; exact el_pow el_four _
  have r1 : r < 1073741789 := by omega
  have s1 : s < 1073741789 := by omega
  have t1 : Int.tmod i 1073741789 = (r : Int) := by rw [Int.tmod_eq_emod_of_nonneg hi.1]; exact er
  have t2 : Int.tmod k 1073741789 = (s : Int) := by rw [Int.tmod_eq_emod_of_nonneg hk.1]; exact es
  obtain ⟨p, hp⟩ : ∃ p, pw 2147483579 a 1073741788 = p := ⟨_, rfl⟩
  have Ep : El p := by rw [← hp]; exact el_pow ha _
  have i1 : a * p % 2147483579 = 1 := by rw [← hp]; exact el_inv ha
  obtain ⟨x, hx⟩ : ∃ x, a * b % 2147483579 = x := ⟨_, rfl⟩
  obtain ⟨y, hy⟩ : ∃ y, a * c % 2147483579 = y := ⟨_, rfl⟩
  have XY : x = y ↔ b = c := by
    rw [← hx, ← hy]
    exact ⟨el_cancel ha hb.2.1 hc.2.1, fun h => by rw [h]⟩
  obtain ⟨u, hu⟩ : ∃ u, pw 2147483579 a r = u := ⟨_, rfl⟩
  obtain ⟨v, hv⟩ : ∃ v, pw 2147483579 a s = v := ⟨_, rfl⟩
  have UV : a ≠ 1 → (u = v ↔ r = s) := fun h => by rw [← hu, ← hv]; exact el_inj ha h r1 s1
  have C1 := Lib.hid (exp_c G a 1073741788 p ha (by omega) hp w)
  have C2 := Lib.hid (mul_c G a p 1 ha Ep i1 w)
  have C3 := Lib.hid (mul_c G a b x ha hb hx w)
  have C4 := Lib.hid (mul_c G a c y ha hc hy w)
  have C5 := Lib.hid (exp_c G a r u ha r1 hu w)
  have C6 := Lib.hid (exp_c G a s v ha s1 hv w)
  clear hx hy hu hv hp ea eb ec er es Ep i1 ha hb hc
  have a1 : (a = 1 ∧ ((a : Int) == 1) = true) ∨ (a ≠ 1 ∧ ((a : Int) == 1) = false) := by
    by_cases q : a = 1
    · exact .inl ⟨q, by rw [q]; rfl⟩
    · exact .inr ⟨q, beq_eq_false_iff_ne.2 (by omega)⟩
  have XX : (x = y ∧ b = c) ∨ (((x : Int) == (y : Int)) = false ∧ ((b : Int) == (c : Int)) = false) := by
    by_cases q : x = y
    · exact .inl ⟨q, XY.1 q⟩
    · exact .inr ⟨beq_eq_false_iff_ne.2 (by omega), beq_eq_false_iff_ne.2 (by intro h; exact q (XY.2 (by omega)))⟩
  have UU : a ≠ 1 → (u = v ∧ r = s) ∨ (((u : Int) == (v : Int)) = false ∧ ((r : Int) == (s : Int)) = false) := fun h => by
    by_cases q : u = v
    · exact .inl ⟨q, (UV h).1 q⟩
    · exact .inr ⟨beq_eq_false_iff_ne.2 (by omega), beq_eq_false_iff_ne.2 (by intro g; exact q ((UV h).2 (by omega)))⟩
  clear XY UV
  rcases XX with ⟨rfl, rfl⟩ | ⟨x1, x2⟩
  all_goals
    rcases a1 with ⟨q1, q2⟩ | ⟨q1, q2⟩
    · clear UU q1
      go_enter Tryd.func5, Tryd.ntmps5
      go_wp2_with (first
        | (go_at_call 9; refine (HD.out _ OK.out).mono ?_; rintro e w1 ⟨rfl, o1⟩; have O1 := Lib.hid o1; clear o1 OK)
        | (go_at_call 21; refine (E1.out _ O1.out).mono ?_; rintro e w2 ⟨rfl, o2⟩; have O2 := Lib.hid o2; clear o2 O1)
        | (go_at_call 21; refine (E2.out _ O2.out).mono ?_; rintro e w3 ⟨rfl, o3⟩; have O3 := Lib.hid o3; clear o3 O2)
        | (go_at_call 21; refine (E3.out _ O3.out).mono ?_; rintro e w4 ⟨rfl, o4⟩; have O4 := Lib.hid o4; clear o4 O3)
        | (go_at_call 15; refine (C1.out _ O4.out).mono ?_; rintro e w5 ⟨rfl, o5⟩; have O5 := Lib.hid o5; clear o5 O4)
        | (go_at_call 11; refine (C2.out _ O5.out).mono ?_; rintro e w6 ⟨rfl, o6⟩; have O6 := Lib.hid o6; clear o6 O5)
        | (go_at_call 11; refine (C3.out _ O6.out).mono ?_; rintro e w7 ⟨rfl, o7⟩; have O7 := Lib.hid o7; clear o7 O6)
        | (go_at_call 11; refine (C4.out _ O7.out).mono ?_; rintro e w8 ⟨rfl, o8⟩; have O8 := Lib.hid o8; clear o8 O7)
        | (go_at_call 15; refine (C5.out _ O8.out).mono ?_; rintro e w9 ⟨rfl, o9⟩; have O9 := Lib.hid o9; clear o9 O8)
        | (go_at_call 15; refine (C6.out _ O9.out).mono ?_; rintro e w10 ⟨rfl, o10⟩; have O10 := Lib.hid o10; clear o10 O9))
      all_goals (go_ret; exact ⟨by first | (simp; done) | (simp [*]; done) | (simp; omega), O10.out.1⟩)
    · rcases UU q1 with ⟨rfl, rfl⟩ | ⟨u1, u2⟩
      · clear UU q1
        go_enter Tryd.func5, Tryd.ntmps5
        go_wp2_with (first
          | (go_at_call 9; refine (HD.out _ OK.out).mono ?_; rintro e w1 ⟨rfl, o1⟩; have O1 := Lib.hid o1; clear o1 OK)
          | (go_at_call 21; refine (E1.out _ O1.out).mono ?_; rintro e w2 ⟨rfl, o2⟩; have O2 := Lib.hid o2; clear o2 O1)
          | (go_at_call 21; refine (E2.out _ O2.out).mono ?_; rintro e w3 ⟨rfl, o3⟩; have O3 := Lib.hid o3; clear o3 O2)
          | (go_at_call 21; refine (E3.out _ O3.out).mono ?_; rintro e w4 ⟨rfl, o4⟩; have O4 := Lib.hid o4; clear o4 O3)
          | (go_at_call 15; refine (C1.out _ O4.out).mono ?_; rintro e w5 ⟨rfl, o5⟩; have O5 := Lib.hid o5; clear o5 O4)
          | (go_at_call 11; refine (C2.out _ O5.out).mono ?_; rintro e w6 ⟨rfl, o6⟩; have O6 := Lib.hid o6; clear o6 O5)
          | (go_at_call 11; refine (C3.out _ O6.out).mono ?_; rintro e w7 ⟨rfl, o7⟩; have O7 := Lib.hid o7; clear o7 O6)
          | (go_at_call 11; refine (C4.out _ O7.out).mono ?_; rintro e w8 ⟨rfl, o8⟩; have O8 := Lib.hid o8; clear o8 O7)
          | (go_at_call 15; refine (C5.out _ O8.out).mono ?_; rintro e w9 ⟨rfl, o9⟩; have O9 := Lib.hid o9; clear o9 O8)
          | (go_at_call 15; refine (C6.out _ O9.out).mono ?_; rintro e w10 ⟨rfl, o10⟩; have O10 := Lib.hid o10; clear o10 O9))
        all_goals (go_ret; exact ⟨by first | (simp; done) | (simp [*]; done) | (simp; omega), O10.out.1⟩)
      · clear UU q1
        go_enter Tryd.func5, Tryd.ntmps5
        go_wp2_with (first
          | (go_at_call 9; refine (HD.out _ OK.out).mono ?_; rintro e w1 ⟨rfl, o1⟩; have O1 := Lib.hid o1; clear o1 OK)
          | (go_at_call 21; refine (E1.out _ O1.out).mono ?_; rintro e w2 ⟨rfl, o2⟩; have O2 := Lib.hid o2; clear o2 O1)
          | (go_at_call 21; refine (E2.out _ O2.out).mono ?_; rintro e w3 ⟨rfl, o3⟩; have O3 := Lib.hid o3; clear o3 O2)
          | (go_at_call 21; refine (E3.out _ O3.out).mono ?_; rintro e w4 ⟨rfl, o4⟩; have O4 := Lib.hid o4; clear o4 O3)
          | (go_at_call 15; refine (C1.out _ O4.out).mono ?_; rintro e w5 ⟨rfl, o5⟩; have O5 := Lib.hid o5; clear o5 O4)
          | (go_at_call 11; refine (C2.out _ O5.out).mono ?_; rintro e w6 ⟨rfl, o6⟩; have O6 := Lib.hid o6; clear o6 O5)
          | (go_at_call 11; refine (C3.out _ O6.out).mono ?_; rintro e w7 ⟨rfl, o7⟩; have O7 := Lib.hid o7; clear o7 O6)
          | (go_at_call 11; refine (C4.out _ O7.out).mono ?_; rintro e w8 ⟨rfl, o8⟩; have O8 := Lib.hid o8; clear o8 O7)
          | (go_at_call 15; refine (C5.out _ O8.out).mono ?_; rintro e w9 ⟨rfl, o9⟩; have O9 := Lib.hid o9; clear o9 O8)
          | (go_at_call 15; refine (C6.out _ O9.out).mono ?_; rintro e w10 ⟨rfl, o10⟩; have O10 := Lib.hid o10; clear o10 O9))
        all_goals (go_ret; exact ⟨by first | (simp; done) | (simp [*]; done) | (simp; omega), O10.out.1⟩)

theorem order_law (G : Grp) (n m o i k : Int) (w : World) (hn : (Lit.int .u64 n).wf = true) (hm : (Lit.int .u64 m).wf = true) (ho : (Lit.int .u64 o).wf = true) (hi : (Lit.int .u64 i).wf = true) (hk : (Lit.int .u64 k).wf = true) (ht : Tab w) :
    Calls Tryd.prog 5 #[.int .u64 n, .int .u64 m, .int .u64 o, .int .u64 i, .int .u64 k] w (Gives (.bool true) w) :=
  order_walk G n m o i k (u64_wf hn) (u64_wf hm) (u64_wf ho) (u64_wf hi) (u64_wf hk) _ _ _ (i % 1073741789).toNat (k % 1073741789).toNat rfl rfl rfl (by omega) (by omega) w ht
end Go.Proofs.YtlimkcodbmafaaaDoor
