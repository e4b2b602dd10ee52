/- Layer 6: GroupMessages. -/
import Derived.Deep.RegionHeld3
import Derived.Deep.RegionWith
import Derived.Test.YtlimkcodbmafaaaDoorNats
namespace Go.Proofs.YtlimkcodbmafaaaDoor
open Go.RowKit Go.Sort Go
set_option linter.unusedVariables false
set_option linter.unusedSimpArgs false

set_option maxHeartbeats 4000000 in
theorem messages_walk (G : Grp) (x y : Int) (hx : 0 ≤ x ∧ x ≤ 18446744073709551615) (hy : 0 ≤ y ∧ y ≤ 18446744073709551615) (k o : Nat) (ek : 1 + x % 1073741788 = (k : Int)) (eo : 1 + y % 1073741788 = (o : Int)) (A : Option Addr) (n cap : Nat) (one : List Int) (A' : Option Addr) (n' cap' : Nat) (two : List Int) (w : World)
    (hr : RowI w.heap.size w A n one) (hl : n ≤ cap) (hcap : cap ≤ 9223372036854775807) (hn : A = none → cap = 0) (hr' : RowI w.heap.size w A' n' two) (hl' : n' ≤ cap') (hcap' : cap' ≤ 9223372036854775807) (hn' : A' = none → cap' = 0) (ht : Tab w) :
    Calls Tryd.prog 7 #[.int .u64 x, .int .u64 y, .slice A n cap, .slice A' n' cap'] w (Gives (.bool true) w) := by
  have OK := Lib.hid (ok_refl ht)
  have k1 : 1 ≤ k ∧ k < 1073741789 := by omega
  have o1 : 1 ≤ o ∧ o < 1073741789 := by omega
  obtain ⟨m, hm⟩ : ∃ m, min n 20 = m := ⟨_, rfl⟩
  obtain ⟨m', hm'⟩ : ∃ m, min n' 20 = m := ⟨_, rfl⟩
  have F1 := Lib.hid (few_any A n cap m hm)
  have F2 := Lib.hid (few_any A' n' cap' m' hm')
  have R1 := row_few hr
  have R2 := row_few hr'
  rw [hm] at R1
  rw [hm'] at R2
  have m1 : m ≤ 20 := by omega
  have m2 : m' ≤ 20 := by omega
  generalize one.take 20 = l at R1
  generalize two.take 20 = l' at R2
  have HD := Lib.hid (head_true G w)
  have S1 := Lib.hid (secret_c x hx k ek w)
  have S2 := Lib.hid (secret_c y hy o eo w)
  obtain ⟨p, hp⟩ : ∃ p, pw 2147483579 4 k = p := ⟨_, rfl⟩
  obtain ⟨b, hb⟩ : ∃ b, pw 2147483579 4 o = b := ⟨_, rfl⟩
  have P1 := Lib.hid (public_c k p k1.2 hp w)
  have P2 := Lib.hid (public_c o b o1.2 hb w)
  have Ep : El p := by rw [← hp]; exact el_pow el_four _
  have Eb : El b := by rw [← hb]; exact el_pow el_four _
  obtain ⟨c, hc⟩ : ∃ c, chalN (b : Int) (p : Int) l = c := ⟨_, rfl⟩
  obtain ⟨d, hd⟩ : ∃ d, chalN (b : Int) (p : Int) l' = d := ⟨_, rfl⟩
  obtain ⟨s, hs⟩ : ∃ s, sigS k o l = s := ⟨_, rfl⟩
  have hC : sigC k o l = c := by rw [sigC_nat, hp, hb, hc]
  have c1 : c < 1073741789 := by rw [← hc]; exact chal_lt _ _ _
  have d1 : d < 1073741789 := by rw [← hd]; exact chal_lt _ _ _
  have s1 : s < 1073741789 := by rw [← hs]; exact sigS_lt _ _ _
  obtain ⟨q, hq⟩ : ∃ q, decide (d = c) = q := ⟨_, rfl⟩
  have hR : rightB p c s l' = q := by
    have h := right_sign k o l l'
    rw [hs, hC, hp, hb, hd, hq] at h
    exact h
  have SG := Lib.hid (sign_c G k o c s k1 o1 A m cap l hC hs w R1 (by omega) hn)
  have VE := Lib.hid (ver_c G p c s Ep c1 s1 A' m' cap' l' q hR w R2 (by omega) hn')
  have C1 := Lib.hid (chal_c b p c Eb.2.1 Ep.2.1 A m cap l hc w R1 (by omega) hn)
  have C2 := Lib.hid (chal_c b p d Eb.2.1 Ep.2.1 A' m' cap' l' hd w R2 (by omega) hn')
  have HN := Lib.hid hn
  have HN' := Lib.hid hn'
  have QQ : (d = c ∧ q = true) ∨ (((c : Int) == (d : Int)) = false ∧ q = false) := by
    by_cases h : d = c
    · exact .inl ⟨h, by rw [← hq]; exact decide_eq_true h⟩
    · exact .inr ⟨beq_eq_false_iff_ne.2 (by omega), by rw [← hq]; exact decide_eq_false h⟩
  clear hr hr' hn hn' ht hm hm' R1 R2 hp hb hc hd hs hC hq hR Ep Eb ek eo
  go_enter Tryd.func7, Tryd.ntmps7
  go_wp2_with (first
    | (go_at_call 9; refine (HD.out _ OK.out).mono ?_; rintro e w1 ⟨rfl, o1⟩; have O1 := Lib.hid o1; clear o1 OK)
    | (go_at_call 22; refine (S1.out _ O1.out).mono ?_; rintro e w2 ⟨rfl, o2⟩; have O2 := Lib.hid o2; clear o2 O1)
    | (go_at_call 22; refine (S2.out _ O2.out).mono ?_; rintro e w3 ⟨rfl, o3⟩; have O3 := Lib.hid o3; clear o3 O2)
    | (go_at_call 23; refine (P1.out _ O3.out).mono ?_; rintro e w4 ⟨rfl, o4⟩; have O4 := Lib.hid o4; clear o4 O3)
    | (go_at_call 23; refine (P2.out _ O4.out).mono ?_; rintro e w5 ⟨rfl, o5⟩; have O5 := Lib.hid o5; clear o5 O4)
    | (go_at_call 10; refine (F1.out _ hl hcap HN.out).mono ?_; rintro e w' ⟨rfl, rfl⟩)
    | (go_at_call 17; refine (SG.out _ O5.out).mono ?_; rintro e w6 ⟨rfl, b6⟩; refine Hid.out ?_))
  refine Lib.hid ?_
  have o6 := ok_grow O5.out b6
  obtain ⟨W, hW⟩ : ∃ W, w6.alloc (.cells #[.int .i64 c, .int .i64 s] 23) = W := ⟨_, rfl⟩
  have T : Hid (Two W w6.heap.size 23 (.int .i64 c) (.int .i64 s)) := by rw [← hW]; exact Two.new w6 _ _ _
  have O6 : Hid (Ok w W) := by rw [← hW]; exact ok_grow o6 (below_alloc _ _)
  have t0 := T.out.c0
  have t1 := T.out.c1
  have t2 := T.out.lt
  clear b6 o6 O5
  go_wp2_with fail
  have TD : Hid (Two W.drew w6.heap.size 23 (.int .i64 c) (.int .i64 s)) := T.out
  have OD : Hid (Ok w W.drew) := ok_grow O6.out ((Below.refl _ _).drew)
  have LD : Hid (w6.heap.size < W.drew.heap.size) := t2
  have VD := Lib.hid (VE.out _ OD.out)
  have FD := Lib.hid (F2.out W.drew hl' hcap' HN'.out)
  clear hW
  go_region_held3 (fun w' => w'.cell? ⟨w6.heap.size, 0, none⟩ = some (.int .i64 c) ∧ w'.cell? ⟨w6.heap.size, 1, none⟩ = some (.int .i64 s)) (go_keep)
    (first
      | (go_at_call 10; refine FD.out.mono ?_; rintro e w' ⟨rfl, rfl⟩)
      | (go_at_call 19; refine VD.out.mono ?_; rintro e w7 ⟨rfl, b7⟩; have T7 := Lib.hid (TD.out.below b7 LD.out); have O7 := Lib.hid (ok_grow OD.out b7); have s0 := T7.out.c0; have s1 := T7.out.c1; clear b7))
  all_goals
    clear VD FD TD OD LD
    rcases QQ with ⟨rfl, rfl⟩ | ⟨q1, rfl⟩
    all_goals
      go_wp2_with (first
        | (go_at_call 10; with_reducible refine (F1.out _ hl hcap HN.out).mono ?_; rintro e w' ⟨rfl, rfl⟩; clear F1)
        | (go_at_call 25; refine (C1.out _ O7.out).mono ?_; rintro e w8 ⟨rfl, b8⟩; have O8 := Lib.hid (ok_grow O7.out b8); clear O7 C1 b8)
        | (go_at_call 10; with_reducible refine (F2.out _ hl' hcap' HN'.out).mono ?_; rintro e w' ⟨rfl, rfl⟩; clear F2)
        | (go_at_call 25; refine (C2.out _ O8.out).mono ?_; rintro e w9 ⟨rfl, b9⟩; have O9 := Lib.hid (ok_grow O8.out b9); clear O8 C2 b9))
      go_ret
      exact ⟨by first | (simp; done) | (simp [*]; done), O9.out.1⟩

theorem messages_law (G : Grp) (x y : Int) (A : Option Addr) (n cap : Nat) (one : List Int) (A' : Option Addr) (n' cap' : Nat) (two : List Int) (w : World) (hx : (Lit.int .u64 x).wf = true) (hy : (Lit.int .u64 y).wf = true)
    (hr : RowI w.heap.size w A n one) (hl : n ≤ cap) (hcap : cap ≤ 9223372036854775807) (hn : A = none → cap = 0) (hr' : RowI w.heap.size w A' n' two) (hl' : n' ≤ cap') (hcap' : cap' ≤ 9223372036854775807) (hn' : A' = none → cap' = 0) (ht : Tab w) :
    Calls Tryd.prog 7 #[.int .u64 x, .int .u64 y, .slice A n cap, .slice A' n' cap'] w (Gives (.bool true) w) :=
  messages_walk G x y (u64_wf hx) (u64_wf hy) (1 + x % 1073741788).toNat (1 + y % 1073741788).toNat (by have := u64_wf hx; omega) (by have := u64_wf hy; omega) A n cap one A' n' cap' two w hr hl hcap hn hr' hl' hcap' hn' ht
end Go.Proofs.YtlimkcodbmafaaaDoor
