/- Layer 6: GroupExtracts. -/
import Derived.Deep.QuietTactic
import Derived.BigQuiet
import Derived.Test.YtlimkcodbmafaaaDoorNats
namespace Go.Proofs.YtlimkcodbmafaaaDoor
open Go.RowKit Go.Sort Go
set_option linter.unusedVariables false
set_option linter.unusedSimpArgs false

set_option maxHeartbeats 4000000 in
theorem extracts_walk (G : Grp) (x y : Int) (hx : 0 ≤ x ∧ x ≤ 18446744073709551615) (hy : 0 ≤ y ∧ y ≤ 18446744073709551615) (k o : Nat) (ek : 1 + x % 1073741788 = (k : Int)) (eo : 1 + y % 1073741788 = (o : Int)) (A : Option Addr) (n cap : Nat) (one : List Int) (A' : Option Addr) (n' cap' : Nat) (two : List Int) (w : World)
    (hr : RowI w.heap.size w A n one) (hl : n ≤ cap) (hcap : cap ≤ 9223372036854775807) (hn : A = none → cap = 0) (hr' : RowI w.heap.size w A' n' two) (hl' : n' ≤ cap') (hcap' : cap' ≤ 9223372036854775807) (hn' : A' = none → cap' = 0) (ht : Tab w) :
    Calls Tryd.prog 8 #[.int .u64 x, .int .u64 y, .slice A n cap, .slice A' n' cap'] w (Gives (.bool true) w) := by
  have OK := Lib.hid (ok_refl ht)
  have k1 : 1 ≤ k ∧ k < 1073741789 := by omega
  have o1 : 1 ≤ o ∧ o < 1073741789 := by omega
  obtain ⟨m, hm⟩ : ∃ m, min n 20 = m := ⟨_, rfl⟩
  obtain ⟨m', hm'⟩ : ∃ m, min n' 20 = m := ⟨_, rfl⟩
  have F1 := Lib.hid (few_any A n cap m hm)
  have F2 := Lib.hid (few_any A' n' cap' m' hm')
  have R1 := row_few hr
  have R2 := row_few hr'
  rw [hm] at R1
  rw [hm'] at R2
  have m1 : m ≤ 20 := by omega
  have m2 : m' ≤ 20 := by omega
  generalize one.take 20 = l at R1
  generalize two.take 20 = l' at R2
  have HD := Lib.hid (head_true G w)
  have S1 := Lib.hid (secret_c x hx k ek w)
  have S2 := Lib.hid (secret_c y hy o eo w)
  obtain ⟨c, hc⟩ : ∃ c, sigC k o l = c := ⟨_, rfl⟩
  obtain ⟨d, hd⟩ : ∃ d, sigC k o l' = d := ⟨_, rfl⟩
  obtain ⟨s, hs⟩ : ∃ s, sigS k o l = s := ⟨_, rfl⟩
  obtain ⟨t, ht'⟩ : ∃ t, sigS k o l' = t := ⟨_, rfl⟩
  have c1 : c < 1073741789 := by rw [← hc]; exact sigC_lt _ _ _
  have d1 : d < 1073741789 := by rw [← hd]; exact sigC_lt _ _ _
  have s1 : s < 1073741789 := by rw [← hs]; exact sigS_lt _ _ _
  have t1 : t < 1073741789 := by rw [← ht']; exact sigS_lt _ _ _
  have es : s = (o + c * k) % 1073741789 := by rw [← hs, ← hc]; unfold sigS; rw [Int.toNat_natCast, Int.toNat_natCast]
  have et : t = (o + d * k) % 1073741789 := by rw [← ht', ← hd]; unfold sigS; rw [Int.toNat_natCast, Int.toNat_natCast]
  have SG := Lib.hid (sign_c G k o c s k1 o1 A m cap l hc hs w R1 (by omega) hn)
  have SH := Lib.hid (sign_c G k o d t k1 o1 A' m' cap' l' hd ht' w R2 (by omega) hn')
  obtain ⟨e, he⟩ : ∃ e, restN ((s : Int) - (t : Int)) = e := ⟨_, rfl⟩
  obtain ⟨f, hf⟩ : ∃ f, restN ((c : Int) - (d : Int)) = f := ⟨_, rfl⟩
  have RE : Hid (∀ w, Calls Tryd.prog 24 #[.int .i64 ((s : Int) - (t : Int))] w fun x w' => x = .returned (.int .i64 e) ∧ w' = w) := fun w => by
    have h := rrest_any ((s : Int) - (t : Int)) (by omega) (by omega) w
    rw [he] at h
    exact h.mono fun _ _ ⟨a, b⟩ => ⟨a, b.symm⟩
  have RF : Hid (∀ w, Calls Tryd.prog 24 #[.int .i64 ((c : Int) - (d : Int))] w fun x w' => x = .returned (.int .i64 f) ∧ w' = w) := fun w => by
    have h := rrest_any ((c : Int) - (d : Int)) (by omega) (by omega) w
    rw [hf] at h
    exact h.mono fun _ _ ⟨a, b⟩ => ⟨a, b.symm⟩
  have e1 : e < 1073741789 := by rw [← he]; exact restN_lt _
  have f1 : f < 1073741789 := by rw [← hf]; exact restN_lt _
  have OV : Hid (c ≠ d → ∀ w, Calls Tryd.prog 28 #[.int .i64 e, .int .i64 f] w fun x w' => x = .returned (.int .i64 k) ∧ w' = w) := fun h w => by
    have g := rover_any e f e1 f1 w
    rw [extracted o k c d k1.2 c1 d1 h e f (by rw [← he, restN_eq, es, et]) (by rw [← hf, restN_eq])] at g
    exact g.mono fun _ _ ⟨a, b⟩ => ⟨a, b.symm⟩
  have X1 := Lib.hid (rexponent_any c true (by simp [ExI]; omega) (by omega) (by omega))
  have X2 := Lib.hid (rexponent_any s true (by simp [ExI]; omega) (by omega) (by omega))
  have X3 := Lib.hid (rexponent_any d true (by simp [ExI]; omega) (by omega) (by omega))
  have X4 := Lib.hid (rexponent_any t true (by simp [ExI]; omega) (by omega) (by omega))
  have HN := Lib.hid hn
  have HN' := Lib.hid hn'
  clear hr hr' hn hn' ht hm hm' R1 R2 hc hd hs ht' es et he hf ek eo
  go_enter Tryd.func8, Tryd.ntmps8
  go_wp2_with (first
    | (go_at_call 9; refine (HD.out _ OK.out).mono ?_; rintro e w1 ⟨rfl, o1⟩; have O1 := Lib.hid o1; clear o1 OK)
    | (go_at_call 22; refine (S1.out _ O1.out).mono ?_; rintro e w2 ⟨rfl, o2⟩; have O2 := Lib.hid o2; clear o2 O1)
    | (go_at_call 22; refine (S2.out _ O2.out).mono ?_; rintro e w3 ⟨rfl, o3⟩; have O3 := Lib.hid o3; clear o3 O2)
    | (go_at_call 10; refine (F1.out _ hl hcap HN.out).mono ?_; rintro e w' ⟨rfl, rfl⟩)
    | (go_at_call 17; refine (SG.out _ O3.out).mono ?_; rintro e w6 ⟨rfl, b6⟩; refine Hid.out ?_))
  refine Lib.hid ?_
  have o6 := ok_grow O3.out b6
  obtain ⟨W, hW⟩ : ∃ W, w6.alloc (.cells #[.int .i64 c, .int .i64 s] 23) = W := ⟨_, rfl⟩
  have T : Hid (Two W w6.heap.size 23 (.int .i64 c) (.int .i64 s)) := by rw [← hW]; exact Two.new w6 _ _ _
  have O6 : Hid (Ok w W) := by rw [← hW]; exact ok_grow o6 (below_alloc _ _)
  clear b6 o6 O3
  go_wp2_with (first
    | (go_at_call 10; refine (F2.out _ hl' hcap' HN'.out).mono ?_; rintro e w' ⟨rfl, rfl⟩)
    | (go_at_call 17; refine (SH.out _ O6.out).mono ?_; rintro e w7 ⟨rfl, b7⟩; refine Hid.out ?_))
  refine Lib.hid ?_
  have o7 := ok_grow O6.out b7
  have T7 := T.out.below b7 T.out.lt
  obtain ⟨V, hV⟩ : ∃ V, w7.alloc (.cells #[.int .i64 d, .int .i64 t] 23) = V := ⟨_, rfl⟩
  have U : Hid (Two V w7.heap.size 23 (.int .i64 d) (.int .i64 t)) := by rw [← hV]; exact Two.new w7 _ _ _
  have O7 : Hid (Ok w V) := by rw [← hV]; exact ok_grow o7 (below_alloc _ _)
  have T8 : Hid (Two V w6.heap.size 23 (.int .i64 c) (.int .i64 s)) := by rw [← hV]; exact T7.below (below_alloc _ _) T7.lt
  have t0 := T8.out.c0
  have t1 := T8.out.c1
  have t2 := T8.out.lt
  have u0 := U.out.c0
  have u1 := U.out.c1
  have u2 := U.out.lt
  clear b7 o7 O6 T7 hW T U T8
  go_wp2_with (first
    | (go_at_call 27; with_reducible refine (X1.out _).mono ?_; rintro e w' ⟨rfl, rfl⟩; clear X1)
    | (go_at_call 27; with_reducible refine (X2.out _).mono ?_; rintro e w' ⟨rfl, rfl⟩; clear X2)
    | (go_at_call 27; with_reducible refine (X3.out _).mono ?_; rintro e w' ⟨rfl, rfl⟩; clear X3)
    | (go_at_call 27; with_reducible refine (X4.out _).mono ?_; rintro e w' ⟨rfl, rfl⟩; clear X4))
  by_cases q : c = d
  · have q1 : ((c : Int) == (d : Int)) = true := by simp [q]
    clear q
    go_quiet (fail)
    go_wp2_with fail
    go_ret
    exact ⟨by first | (simp; done) | (simp [*]; done), below_draws O7.out.1 _⟩
  · have q1 : ((c : Int) == (d : Int)) = false := beq_eq_false_iff_ne.2 (by omega)
    have OW := Lib.hid (OV.out q)
    clear q OV
    go_quiet (first
      | (go_at_call 24; with_reducible refine Calls.quiet_of_same (RE.out _))
      | (go_at_call 24; with_reducible refine Calls.quiet_of_same (RF.out _))
      | (go_at_call 28; with_reducible refine Calls.quiet_of_same (OW.out _)))
    go_wp2_with fail
    go_ret
    exact ⟨by first | (simp; done) | (simp [*]; done), below_draws O7.out.1 _⟩

theorem extracts_law (G : Grp) (x y : Int) (A : Option Addr) (n cap : Nat) (one : List Int) (A' : Option Addr) (n' cap' : Nat) (two : List Int) (w : World) (hx : (Lit.int .u64 x).wf = true) (hy : (Lit.int .u64 y).wf = true)
    (hr : RowI w.heap.size w A n one) (hl : n ≤ cap) (hcap : cap ≤ 9223372036854775807) (hn : A = none → cap = 0) (hr' : RowI w.heap.size w A' n' two) (hl' : n' ≤ cap') (hcap' : cap' ≤ 9223372036854775807) (hn' : A' = none → cap' = 0) (ht : Tab w) :
    Calls Tryd.prog 8 #[.int .u64 x, .int .u64 y, .slice A n cap, .slice A' n' cap'] w (Gives (.bool true) w) :=
  extracts_walk G x y (u64_wf hx) (u64_wf hy) (1 + x % 1073741788).toNat (1 + y % 1073741788).toNat (by have := u64_wf hx; omega) (by have := u64_wf hy; omega) A n cap one A' n' cap' two w hr hl hcap hn hr' hl' hcap' hn' ht
end Go.Proofs.YtlimkcodbmafaaaDoor
