/- Layer 6: GroupSigns. -/
import Derived.Deep.RegionHeld3
import Derived.Deep.RegionWith
import Derived.Deep.CutBlock
import Derived.Deep.DeepCutAuto
import Derived.Test.YtlimkcodbmafaaaDoorNats
namespace Go.Proofs.YtlimkcodbmafaaaDoor
open Go.RowKit Go.Sort Go
set_option linter.unusedVariables false
set_option linter.unusedSimpArgs false

set_option maxHeartbeats 4000000 in
theorem signs_walk (G : Grp) (x y : Int) (hx : 0 ≤ x ∧ x ≤ 18446744073709551615) (hy : 0 ≤ y ∧ y ≤ 18446744073709551615) (k o : Nat) (ek : 1 + x % 1073741788 = (k : Int)) (eo : 1 + y % 1073741788 = (o : Int)) (A : Option Addr) (n cap : Nat) (one : List Int) (C0 S0 : Int) (hC0 : I64 C0) (hS0 : I64 S0) (w : World)
    (hr : RowI w.heap.size w A n one) (hl : n ≤ cap) (hcap : cap ≤ 9223372036854775807) (hn : A = none → cap = 0) (ht : Tab w) :
    Calls Tryd.prog 6 #[.int .u64 x, .int .u64 y, .slice A n cap, .agg #[.int .i64 C0, .int .i64 S0]] w (Gives (.bool true) w) := by
  obtain ⟨W, hW⟩ : ∃ W, w.alloc (.cells #[.int .i64 C0, .int .i64 S0] 23) = W := ⟨_, rfl⟩
  have HT : Hid (Two W w.heap.size 23 (.int .i64 C0) (.int .i64 S0)) := by rw [← hW]; exact Two.new w _ _ _
  have BW : Hid (Below w.heap.size w W) := by rw [← hW]; exact below_alloc w _
  have lt0 := HT.out.lt
  have OK := Lib.hid (ok_refl (ht.step BW.out))
  have k1 : 1 ≤ k ∧ k < 1073741789 := by omega
  have o1 : 1 ≤ o ∧ o < 1073741789 := by omega
  obtain ⟨m, hm⟩ : ∃ m, min n 20 = m := ⟨_, rfl⟩
  have F1 := Lib.hid (few_any A n cap m hm)
  have R0 := row_few hr
  rw [hm] at R0
  have R1 := R0.step BW.out
  have m1 : m ≤ 20 := by omega
  generalize one.take 20 = l at R0 R1
  have HTAB := Lib.hid ht
  have HD := Lib.hid (head_true G W)
  have S1 := Lib.hid (secret_c x hx k ek W)
  have S2 := Lib.hid (secret_c y hy o eo W)
  obtain ⟨p, hp⟩ : ∃ p, pw 2147483579 4 k = p := ⟨_, rfl⟩
  have P1 := Lib.hid (public_c k p k1.2 hp W)
  have Ep : El p := by rw [← hp]; exact el_pow el_four _
  have p1 := Ep.2.1
  obtain ⟨c, hc⟩ : ∃ c, sigC k o l = c := ⟨_, rfl⟩
  obtain ⟨s, hs⟩ : ∃ s, sigS k o l = s := ⟨_, rfl⟩
  have c1 : c < 1073741789 := by rw [← hc]; exact sigC_lt _ _ _
  have s1 : s < 1073741789 := by rw [← hs]; exact sigS_lt _ _ _
  have hR : rightB p c s l = true := by
    have h := right_sign k o l l
    rw [hs, hc, hp, ← hc, sigC_nat, hp, decide_eq_true rfl] at h
    rw [← hc, sigC_nat, hp]
    exact h
  have SG := Lib.hid (sign_c G k o c s k1 o1 A m cap l hc hs W R1 (by omega) hn)
  have VE := Lib.hid (ver_c G p c s Ep c1 s1 A m cap l true hR W R1 (by omega) hn)
  -- the pair that came in, modulo Q
  obtain ⟨c', hc'⟩ : ∃ c', restN C0 = c' := ⟨_, rfl⟩
  obtain ⟨s', hs'⟩ : ∃ s', restN S0 = s' := ⟨_, rfl⟩
  have c2 : c' < 1073741789 := by rw [← hc']; exact restN_lt _
  have s2 : s' < 1073741789 := by rw [← hs']; exact restN_lt _
  have RC : Hid (∀ w, Calls Tryd.prog 24 #[.int .i64 C0] w fun x w' => x = .returned (.int .i64 c') ∧ w = w') := fun w => by
    have h := rrest_any C0 hC0.1 hC0.2 w
    rwa [hc'] at h
  have RS : Hid (∀ w, Calls Tryd.prog 24 #[.int .i64 S0] w fun x w' => x = .returned (.int .i64 s') ∧ w = w') := fun w => by
    have h := rrest_any S0 hS0.1 hS0.2 w
    rwa [hs'] at h
  obtain ⟨b, hb⟩ : ∃ b, backN p c' s' = b := ⟨_, rfl⟩
  have b1 : b < 2147483579 := by rw [← hb]; exact back_lt _ _ _
  obtain ⟨d, hd⟩ : ∃ d, chalN (b : Int) (p : Int) l = d := ⟨_, rfl⟩
  have d1 : d < 1073741789 := by rw [← hd]; exact chal_lt _ _ _
  obtain ⟨q, hq⟩ : ∃ q, decide (d = c') = q := ⟨_, rfl⟩
  have hR2 : rightB p c' s' l = q := by unfold rightB; rw [hb, hd, hq]
  have VF := Lib.hid (ver_c G p c' s' Ep c2 s2 A m cap l q hR2 w R0 (by omega) hn)
  have BK : Hid (∀ w, Calls Tryd.prog 26 #[.int .i64 p, .agg #[.int .i64 c', .int .i64 s']] w (Gives (.int .i64 b) w)) := fun w => by
    have h := rback_any p c' s' Ep.2.1 c2 s2 w
    rw [hb] at h
    exact h
  have CH := Lib.hid (chal_c b p d b1 Ep.2.1 A m cap l hd w R0 (by omega) hn)
  have HN := Lib.hid hn
  have QQ : (c' = d ∧ q = true) ∨ (((d : Int) == (c' : Int)) = false ∧ q = false) := by
    by_cases h : d = c'
    · exact .inl ⟨h.symm, by rw [← hq]; exact decide_eq_true h⟩
    · exact .inr ⟨beq_eq_false_iff_ne.2 (by omega), by rw [← hq]; exact decide_eq_false h⟩
  clear hr hn ht hm R0 R1 hp hc hs hR hR2 hb hd hq hc' hs' Ep ek eo
  go_enter Tryd.func6, Tryd.ntmps6
  go_wp2_with (first
    | (go_at_call 9; refine (HD.out _ OK.out).mono ?_; rintro e w1 ⟨rfl, o1⟩; have O1 := Lib.hid o1; clear o1 OK)
    | (go_at_call 10; refine (F1.out _ hl hcap HN.out).mono ?_; rintro e w' ⟨rfl, rfl⟩)
    | (go_at_call 22; refine (S1.out _ O1.out).mono ?_; rintro e w2 ⟨rfl, o2⟩; have O2 := Lib.hid o2; clear o2 O1)
    | (go_at_call 23; refine (P1.out _ O2.out).mono ?_; rintro e w3 ⟨rfl, o3⟩; have O3 := Lib.hid o3; clear o3 O2)
    | (go_at_call 22; refine (S2.out _ O3.out).mono ?_; rintro e w4 ⟨rfl, o4⟩; have O4 := Lib.hid o4; clear o4 O3)
    | (go_at_call 17; refine (SG.out _ O4.out).mono ?_; rintro e w5 ⟨rfl, b5⟩; have O5 := Lib.hid (ok_grow (ok_grow O4.out b5) (below_alloc _ (.cells #[.int .i64 c, .int .i64 s] 23))); clear b5 O4)
    | (go_at_call 19; refine (VE.out _ O5.out).mono ?_; rintro e w6 ⟨rfl, b6⟩; refine Hid.out ?_))
  refine Lib.hid ?_
  have O6 := Lib.hid (ok_grow O5.out b6)
  clear b6 O5 hW
  have T6 := HT.out.below O6.out.1 lt0
  have HT6 := Lib.hid T6
  have t0 := T6.c0
  have t1 := T6.c1
  have t2 := T6.lt
  have t3 := T6.free 0
  have t4 := T6.free 1
  clear T6
  have B6 := Lib.hid (below_more BW.out O6.out.1)
  clear O6
  go_upto_region 9 with fail
  go_cut [9] (fun u wx => u = .bool true ∧ Hid (Below w.heap.size w wx) ∧ Hid (Two wx w.heap.size 23 (.int .i64 c') (.int .i64 s')))
  case first =>
    go_region_with (first
      | (go_at_call 24; with_reducible refine (RC.out _).mono ?_; rintro e w' ⟨rfl, rfl⟩)
      | (go_at_call 24; with_reducible refine (RS.out _).mono ?_; rintro e w' ⟨rfl, rfl⟩))
    all_goals
      go_wp2_with fail
      go_meet
      exact ⟨rfl, ((B6.out.setCell (p := ⟨w.heap.size, 0, none⟩) (by simp) _).setCell (p := ⟨w.heap.size, 1, none⟩) (by simp) _).drew, (HT6.out.set0 _).set1 _⟩
  case rest =>
  obtain ⟨rfl, B7, T7⟩ := hcut
  obtain ⟨w7, rfl⟩ : ∃ w7 : World, w7 = wc := ⟨_, rfl⟩
  clear B6 HT6 t0 t1 t2 t3 t4 RC RS
  have O7 : Hid (Ok w w7) := ⟨B7.out, HTAB.out.step B7.out⟩
  have t0 := T7.out.c0
  have t1 := T7.out.c1
  have t2 := T7.out.lt
  go_wp2_with (go_at_call 19; refine (VF.out _ O7.out).mono ?_; rintro e w8 ⟨rfl, b8⟩; refine Hid.out ?_)
  refine Lib.hid ?_
  have O8 := Lib.hid (ok_grow O7.out b8)
  have T8 := Lib.hid (T7.out.below b8 T7.out.lt)
  have r0 := T8.out.c0
  have r1 := T8.out.c1
  have r2 := T8.out.lt
  clear b8 O7
  go_wp2_with fail
  have TD : Hid (Two w8.drew w.heap.size 23 (.int .i64 c') (.int .i64 s')) := T8.out
  have OD : Hid (Ok w w8.drew) := ok_grow O8.out ((Below.refl _ _).drew)
  have LD : Hid (w.heap.size < w8.drew.heap.size) := r2
  have BKD := Lib.hid (BK.out w8.drew)
  clear BK VF
  rcases QQ with ⟨rfl, rfl⟩ | ⟨q1, rfl⟩
  all_goals
    go_region_held3 (fun w' => w'.cell? ⟨w.heap.size, 0, none⟩ = some (.int .i64 c') ∧ w'.cell? ⟨w.heap.size, 1, none⟩ = some (.int .i64 s')) (go_keep)
      (first
        | (go_at_call 26; refine BKD.out.mono ?_; rintro e w9 ⟨rfl, b9⟩; have T9 := Lib.hid (TD.out.below b9 LD.out); have O9 := Lib.hid (ok_grow OD.out b9); have s0 := T9.out.c0; have s1 := T9.out.c1; have CW := Lib.hid (CH.out _ O9.out); clear b9)
        | (go_at_call 25; refine CW.out.mono ?_; rintro e w10 ⟨rfl, b10⟩; have T10 := Lib.hid (T9.out.below b10 T9.out.lt); have O10 := Lib.hid (ok_grow O9.out b10); have s0 := T10.out.c0; have s1 := T10.out.c1; clear b10))
    all_goals
      go_wp2_with fail
      go_ret
      exact ⟨by first | (simp; done) | (simp [*]; done), O10.out.1⟩

theorem signs_law (G : Grp) (x y : Int) (A : Option Addr) (n cap : Nat) (one : List Int) (C0 S0 : Int) (w : World) (hx : (Lit.int .u64 x).wf = true) (hy : (Lit.int .u64 y).wf = true)
    (hr : RowI w.heap.size w A n one) (hl : n ≤ cap) (hcap : cap ≤ 9223372036854775807) (hn : A = none → cap = 0) (hC0 : I64 C0) (hS0 : I64 S0) (ht : Tab w) :
    Calls Tryd.prog 6 #[.int .u64 x, .int .u64 y, .slice A n cap, .agg #[.int .i64 C0, .int .i64 S0]] w (Gives (.bool true) w) :=
  signs_walk G x y (u64_wf hx) (u64_wf hy) (1 + x % 1073741788).toNat (1 + y % 1073741788).toNat (by have := u64_wf hx; omega) (by have := u64_wf hy; omega) A n cap one C0 S0 hC0 hS0 w hr hl hcap hn ht
end Go.Proofs.YtlimkcodbmafaaaDoor
