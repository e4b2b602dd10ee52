/- Layer 6: package group's Verify. -/
import Derived.Deep.RegionHeld3
import Derived.Deep.RegionWith
import Derived.Laws.StructEq
import Derived.Test.YtlimkcodbmafaaaDoorGSign
namespace Go.Proofs.YtlimkcodbmafaaaDoor
open Go.RowKit Go.Sort Go
set_option linter.unusedVariables false
set_option linter.unusedSimpArgs false

theorem gver_no (q1 q2 q3 : Bool) (hq : q1 = false ∨ q2 = false ∨ q3 = false) (pub c s : Int) (A : Option Addr) (n cap : Nat) (w : World)
    (K1 : Hid (∀ w, Calls Tryd.prog 13 #[.int .i64 pub] w (Gives (.bool q1) w)))
    (K2 : Hid (∀ w, Calls Tryd.prog 32 #[.int .i64 c] w fun e w' => e = .returned (.bool q2) ∧ w = w'))
    (K3 : Hid (∀ w, Calls Tryd.prog 32 #[.int .i64 s] w fun e w' => e = .returned (.bool q3) ∧ w = w')) :
    Calls Tryd.prog 19 #[.int .i64 pub, sgV c s, .slice A n cap] w (Gives (.tuple #[.bool false, .int .i64 1]) w) := by
  unfold sgV
  obtain ⟨W, hW⟩ : ∃ W, w.alloc (.cells #[.int .i64 c, .int .i64 s] 23) = W := ⟨_, rfl⟩
  have T0 : Hid (Two W w.heap.size 23 (.int .i64 c) (.int .i64 s)) := by rw [← hW]; exact Two.new w _ _ _
  have hb : Hid (Below w.heap.size w W) := by rw [← hW]; exact below_alloc w _
  have t4 := T0.out.lt
  rcases (by cases q1 <;> cases q2 <;> simp_all : q1 = false ∨ (q1 = true ∧ q2 = false) ∨ (q1 = true ∧ q2 = true ∧ q3 = false)) with rfl | ⟨rfl, rfl⟩ | ⟨rfl, rfl, rfl⟩
  all_goals
    clear hq
    go_enter Tryd.func19, Tryd.ntmps19
    go_wp2_with (first
      | (go_at_call 13; refine (K1.out _).mono ?_; rintro e w1 ⟨rfl, b1⟩; have T1 := Lib.hid (T0.out.below b1 t4); have B1 := Lib.hid (below_more hb.out b1); have t0 := T1.out.c0; have t1 := T1.out.c1; clear K1 b1)
      | (go_at_call 32; refine (K2.out _).mono ?_; rintro e w' ⟨rfl, rfl⟩; clear K2)
      | (go_at_call 32; refine (K3.out _).mono ?_; rintro e w' ⟨rfl, rfl⟩; clear K3))
    go_ret2
    exact ⟨rfl, B1.out⟩

set_option maxHeartbeats 2000000 in
theorem gver_yes (pub c s : Nat) (hp : El pub) (hc : c < 1073741789) (hs : s < 1073741789) (A : Option Addr) (n cap : Nat) (zs : List Int) (w : World) (hr : RowI w.heap.size w A n zs) (hl : n ≤ 100) (hn : A = none → cap = 0) (htab : Tab w) :
    Calls Tryd.prog 19 #[.int .i64 pub, sgV c s, .slice A n cap] w (Gives (.tuple #[.bool (rightB pub c s zs), .int .i64 0]) w) := by
  have K1 := Lib.hid (gmember_any pub true (by simp [elI_nat hp]) (by omega) (by have := hp.2.1; omega))
  have K2 := Lib.hid (gexponent_any c true (by simp [ExI]; omega) (by omega) (by omega))
  have K3 := Lib.hid (gexponent_any s true (by simp [ExI]; omega) (by omega) (by omega))
  obtain ⟨x, hx⟩ : ∃ x, (1073741789 - c) % 1073741789 = x := ⟨_, rfl⟩
  have e0 : Int.tmod (1073741789 - (c : Int)) 1073741789 = (x : Int) := by rw [Int.tmod_eq_emod_of_nonneg (by omega)]; omega
  have xl : x < 1073741789 := by omega
  have eW : Hid ((IntKind.i64.wrap (1073741789 - (c : Int))).tmod 1073741789 = (x : Int)) := by
    unfold Hid; rw [IntKind.wrap_i64, show (1073741789 - (c : Int) + 9223372036854775808) % 18446744073709551616 - 9223372036854775808 = 1073741789 - (c : Int) by omega]; exact e0
  have P1 := Lib.hid (gpower_any 4 s (by omega) (by omega) (by omega))
  rw [show ((4 : Nat) : Int) = 4 from rfl] at P1
  have P2 := Lib.hid (gpower_any pub x hp.1 hp.2.1 (by omega))
  have eB : backN pub c s = pw 2147483579 4 s * pw 2147483579 pub x % 2147483579 := by unfold backN; rw [hx]
  have l1 := pw_lt (m := 2147483579) 4 s (by omega)
  have l2 := pw_lt (m := 2147483579) pub x (by omega)
  have eR : rightB pub c s zs = decide (chalN (backN pub c s : Int) (pub : Int) zs = c) := rfl
  rw [eR, eB]
  clear eB eR hx
  generalize pw 2147483579 4 s = r1 at P1 l1 ⊢
  generalize pw 2147483579 pub x = r2 at P2 l2 ⊢
  have PR := Lib.hid (product_any r1 r2 l1 l2)
  have bl : r1 * r2 % 2147483579 < 2147483579 := Nat.mod_lt _ (by omega)
  generalize r1 * r2 % 2147483579 = b at PR bl ⊢
  have pl := hp.2.1
  have CH := Lib.hid (fun (w2 : World) (k : Below w.heap.size w w2) => gchal_any (b : Int) (pub : Int) (by omega) (by omega) A n cap zs w2 (hr.step k) hl hn (htab.step k))
  have cl := chal_lt (b : Int) (pub : Int) zs
  generalize chalN (b : Int) (pub : Int) zs = y at CH cl ⊢
  clear hr hn hp htab
  unfold sgV
  obtain ⟨W, hW⟩ : ∃ W, w.alloc (.cells #[.int .i64 c, .int .i64 s] 23) = W := ⟨_, rfl⟩
  have T0 : Hid (Two W w.heap.size 23 (.int .i64 c) (.int .i64 s)) := by rw [← hW]; exact Two.new w _ _ _
  have hb : Hid (Below w.heap.size w W) := by rw [← hW]; exact below_alloc w _
  have t4 := T0.out.lt
  go_enter Tryd.func19, Tryd.ntmps19
  go_wp2_with (first
    | (go_at_call 13; refine (K1.out _).mono ?_; rintro e w1 ⟨rfl, b1⟩; have T1 := Lib.hid (T0.out.below b1 t4); have B1 := Lib.hid (below_more hb.out b1); have t0 := T1.out.c0; have t1 := T1.out.c1; clear K1 b1)
    | (go_at_call 32; refine (K2.out _).mono ?_; rintro e w' ⟨rfl, rfl⟩; clear K2)
    | (go_at_call 32; refine (K3.out _).mono ?_; rintro e w' ⟨rfl, rfl⟩; clear K3))
  have TD : Hid (Two w1.drew w.heap.size 23 (.int .i64 c) (.int .i64 s)) := T1.out
  have BD : Hid (Below w.heap.size w w1.drew) := B1.out.drew
  have s0 := TD.out.c0
  have s1 := TD.out.c1
  clear hW T0 hb T1 B1
  go_region_held3 (fun w' => w'.cell? ⟨w.heap.size, 0, none⟩ = some (.int .i64 c) ∧ w'.cell? ⟨w.heap.size, 1, none⟩ = some (.int .i64 s)) (go_keep)
    (first
      | (go_at_call 30; (with_reducible refine (P1.out _).mono ?_); rintro e w5 ⟨rfl, b5⟩; replace BD := Lib.hid (below_more BD.out b5); replace TD := Lib.hid (TD.out.below b5 TD.out.lt); have s0 := TD.out.c0; have s1 := TD.out.c1; clear b5)
      | (go_at_call 30; (try rw [eW.out]); (with_reducible refine (P2.out _).mono ?_); rintro e w6 ⟨rfl, b6⟩; replace BD := Lib.hid (below_more BD.out b6); replace TD := Lib.hid (TD.out.below b6 TD.out.lt); have s0 := TD.out.c0; have s1 := TD.out.c1; clear b6)
      | (go_at_call 29; (with_reducible refine (PR.out _).mono ?_); rintro e w7 ⟨rfl, rfl⟩))
  go_wp2_with fail
  have BX := Lib.hid BD.out.drew
  have TX : Hid (Two w6.drew w.heap.size 23 (.int .i64 c) (.int .i64 s)) := TD.out
  have CX := Lib.hid (CH.out w6.drew BX.out)
  have BA : Hid (Below w.heap.size w (w6.alloc (.cells #[.int .i64 0, .int .i64 0] 23)).drew) := (BD.out.alloc BD.out.size _).drew
  have TA : Hid (Two (w6.alloc (.cells #[.int .i64 0, .int .i64 0] 23)).drew w.heap.size 23 (.int .i64 c) (.int .i64 s)) := TD.out.below (below_alloc w6 _).drew TD.out.lt
  have NA : Hid (Two (w6.alloc (.cells #[.int .i64 0, .int .i64 0] 23)).drew w6.heap.size 23 (.int .i64 0) (.int .i64 0)) := Two.new w6 _ _ _
  have CA := Lib.hid (CH.out _ BA.out)
  have u0 := TX.out.c0
  have u1 := TX.out.c1
  have u2 : w.heap.size < w6.heap.size := TD.out.lt
  have u3 : ¬ w.heap.size = w6.heap.size := by omega
  have u4 : ¬ w6.heap.size = w.heap.size := by omega
  clear TD BD P1 P2 PR t0 t1 s0 s1 W t4
  go_region_held3 (fun w' => w'.cell? ⟨w.heap.size, 0, none⟩ = some (.int .i64 c) ∧ w'.cell? ⟨w.heap.size, 1, none⟩ = some (.int .i64 s)) (go_keep)
    (first
      | (go_at_call 34; (with_reducible refine CX.out.mono ?_); rintro e w8 ⟨rfl, b8⟩; have T8 := Lib.hid (TX.out.below b8 TX.out.lt); have B8 := Lib.hid (below_more BX.out b8); have s0 := T8.out.c0; have s1 := T8.out.c1; have s2 := T8.out.lt; clear b8)
      | (go_at_call 34; (with_reducible refine CA.out.mono ?_); rintro e w9 ⟨rfl, b9⟩; have T9 := Lib.hid (TA.out.below b9 TA.out.lt); have N9 := Lib.hid (NA.out.below b9 NA.out.lt); have B9 := Lib.hid (below_more BA.out b9); have s0 := T9.out.c0; have s1 := T9.out.c1; have s2 := T9.out.lt; have n0 := N9.out.c0; have n1 := N9.out.c1; have n2 := N9.out.free 0; have n3 := N9.out.free 1; have n4 := N9.out.lt; clear b9))
  · by_cases q : y = c
    · subst q
      go_wp2_with fail
      go_ret2
      exact ⟨by simp, B8.out.alloc B8.out.size _⟩
    · have d1 : ((c : Int) == (y : Int)) = false := by simp; omega
      have Q := Lib.hid q
      clear q
      go_wp2_with fail
      go_ret2
      exact ⟨by simp; exact Q.out, B8.out.alloc B8.out.size _⟩
  · by_cases q : y = c
    · subst q
      go_wp2_with fail
      go_ret2
      exact ⟨by simp, (B9.out.setCell (p := ⟨w6.heap.size, 0, none⟩) (by simp; omega) _).setCell (p := ⟨w6.heap.size, 1, none⟩) (by simp; omega) _⟩
    · have d1 : ((c : Int) == (y : Int)) = false := by simp; omega
      have Q := Lib.hid q
      clear q
      go_wp2_with fail
      go_ret2
      exact ⟨by simp; exact Q.out, (B9.out.setCell (p := ⟨w6.heap.size, 0, none⟩) (by simp; omega) _).setCell (p := ⟨w6.heap.size, 1, none⟩) (by simp; omega) _⟩

theorem gver_any (p c s : Int) (hp : I64 p) (hc : I64 c) (hs : I64 s) (A : Option Addr) (n cap : Nat) (zs : List Int) (w : World) (hr : RowI w.heap.size w A n zs) (hl : n ≤ 100) (hn : A = none → cap = 0) (htab : Tab w) :
    Calls Tryd.prog 19 #[.int .i64 p, sgV c s, .slice A n cap] w (Gives (.tuple #[.bool (verR p c s zs).1, .int .i64 (verR p c s zs).2]) w) := by
  by_cases h : ElI p ∧ ExI c ∧ ExI s
  · have e : verR p c s zs = (rightB p.toNat c.toNat s.toNat zs, 0) := if_pos h
    rw [e]
    obtain ⟨a, ⟨b1, b2⟩, d1, d2⟩ := h
    obtain ⟨p', rfl, hp'⟩ := a.nat
    obtain ⟨c', rfl⟩ : ∃ c' : Nat, c = (c' : Int) := ⟨c.toNat, by omega⟩
    obtain ⟨s', rfl⟩ : ∃ s' : Nat, s = (s' : Int) := ⟨s.toNat, by omega⟩
    rw [Int.toNat_natCast, Int.toNat_natCast, Int.toNat_natCast]
    exact gver_yes p' c' s' hp' (by omega) (by omega) A n cap zs w hr hl hn htab
  · have e : verR p c s zs = (false, 1) := if_neg h
    rw [e]
    refine gver_no (decide (ElI p)) (decide (ExI c)) (decide (ExI s)) ?_ p c s A n cap w (gmember_any p _ (by simp) hp.1 hp.2) (gexponent_any c _ (by simp) hc.1 hc.2) (gexponent_any s _ (by simp) hs.1 hs.2)
    by_cases q : ElI p
    · by_cases r : ExI c
      · exact .inr (.inr (by simp; exact fun x => h ⟨q, r, x⟩))
      · exact .inr (.inl (by simp [r]))
    · exact .inl (by simp [q])

/-- What package group's functions return. -/
theorem grp : Grp :=
  ⟨fun a q hq h w => gmember_any a q hq h.1 h.2 w, fun a b ha hb w => gmul_any a b ha hb w, fun a x ha hx w => gexp_any a x ha hx w,
    fun k o hk ho A n cap zs w hr hl hn ht => gsign_any k o hk ho A n cap zs w hr hl hn ht,
    fun p c s hp hc hs A n cap zs w hr hl hn ht => gver_any p c s hp hc hs A n cap zs w hr hl hn ht⟩
end Go.Proofs.YtlimkcodbmafaaaDoor
