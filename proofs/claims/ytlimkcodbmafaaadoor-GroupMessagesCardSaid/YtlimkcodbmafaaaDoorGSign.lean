/- Layer 6: package group's Sign. -/
import Derived.Test.YtlimkcodbmafaaaDoorGSmall
namespace Go.Proofs.YtlimkcodbmafaaaDoor
open Go.RowKit Go.Sort Go
set_option linter.unusedVariables false
set_option linter.unusedSimpArgs false

theorem gsign_no (q1 q2 : Bool) (hq : q1 = false ∨ q2 = false) (key once : Int) (A : Option Addr) (n cap : Nat) (w : World)
    (K1 : Hid (∀ w, Calls Tryd.prog 33 #[.int .i64 key] w fun e w' => e = .returned (.bool q1) ∧ w = w'))
    (K2 : Hid (∀ w, Calls Tryd.prog 33 #[.int .i64 once] w fun e w' => e = .returned (.bool q2) ∧ w = w')) :
    Calls Tryd.prog 17 #[.int .i64 key, .int .i64 once, .slice A n cap] w (Gives (.tuple #[sgV 0 0, .int .i64 1]) w) := by
  obtain ⟨W, hW⟩ : ∃ W, w.alloc (.cells #[.int .i64 0, .int .i64 0] 23) = W := ⟨_, rfl⟩
  have T0 : Two W w.heap.size 23 (.int .i64 0) (.int .i64 0) := by rw [← hW]; exact Two.new w _ _ _
  have hb : Hid (Below w.heap.size w W) := by rw [← hW]; exact below_alloc w _
  have t0 := T0.c0
  have t1 := T0.c1
  have t2 := T0.free 0
  have t3 := T0.free 1
  have t4 := T0.lt
  clear T0
  cases q1 with
  | false =>
    go_enter Tryd.func17, Tryd.ntmps17
    go_wp2_with (go_at_call 33; refine (K1.out _).mono ?_; rintro e w' ⟨rfl, rfl⟩)
    refine bodyPost_ret (v := .tuple #[.agg #[.int .i64 0, .int .i64 0], .int .i64 1]) (by simp [results, Tryd.results17, go_sem, t0, t1]) rfl ⟨rfl, ?_⟩
    exact (hb.out.setCell (p := ⟨w.heap.size, 0, none⟩) (by simp) _).setCell (p := ⟨w.heap.size, 1, none⟩) (by simp) _
  | true =>
    obtain rfl : q2 = false := by simpa using hq
    go_enter Tryd.func17, Tryd.ntmps17
    go_wp2_with (first
      | (go_at_call 33; refine (K1.out _).mono ?_; rintro e w' ⟨rfl, rfl⟩; clear K1)
      | (go_at_call 33; refine (K2.out _).mono ?_; rintro e w' ⟨rfl, rfl⟩))
    refine bodyPost_ret (v := .tuple #[.agg #[.int .i64 0, .int .i64 0], .int .i64 1]) (by simp [results, Tryd.results17, go_sem, t0, t1]) rfl ⟨rfl, ?_⟩
    exact (hb.out.setCell (p := ⟨w.heap.size, 0, none⟩) (by simp) _).setCell (p := ⟨w.heap.size, 1, none⟩) (by simp) _

set_option maxHeartbeats 1000000 in
theorem gsign_yes (k o : Nat) (hk : 1 ≤ k) (hk2 : k < 1073741789) (ho : 1 ≤ o) (ho2 : o < 1073741789) (A : Option Addr) (n cap : Nat) (zs : List Int) (w : World) (hr : RowI w.heap.size w A n zs) (hl : n ≤ 100) (hn : A = none → cap = 0) (htab : Tab w) :
    Calls Tryd.prog 17 #[.int .i64 k, .int .i64 o, .slice A n cap] w (Gives (.tuple #[sgV (sigC k o zs) (sigS k o zs), .int .i64 0]) w) := by
  have K1 := Lib.hid (gsecret_any k true (by simp [SeI]; omega) (by omega) (by omega))
  have K2 := Lib.hid (gsecret_any o true (by simp [SeI]; omega) (by omega) (by omega))
  have P1 := Lib.hid (gpower_any 4 o (by omega) (by omega) (by omega))
  have P2 := Lib.hid (gpower_any 4 k (by omega) (by omega) (by omega))
  rw [show ((4 : Nat) : Int) = 4 from rfl] at P1 P2
  have eC : sigC k o zs = chalN (pw 2147483579 4 o : Int) (pw 2147483579 4 k : Int) zs := by unfold sigC; rw [Int.toNat_natCast, Int.toNat_natCast]
  have eS : sigS k o zs = (o + sigC k o zs * k) % 1073741789 := by unfold sigS; rw [Int.toNat_natCast, Int.toNat_natCast]
  have cl := chal_lt (pw 2147483579 4 o : Int) (pw 2147483579 4 k : Int) zs
  have l1 := pw_lt (m := 2147483579) 4 o (by omega)
  have l2 := pw_lt (m := 2147483579) 4 k (by omega)
  obtain ⟨W, hW⟩ : ∃ W, w.alloc (.cells #[.int .i64 0, .int .i64 0] 23) = W := ⟨_, rfl⟩
  have T0 : Hid (Two W w.heap.size 23 (.int .i64 0) (.int .i64 0)) := by rw [← hW]; exact Two.new w _ _ _
  have hb : Hid (Below w.heap.size w W) := by rw [← hW]; exact below_alloc w _
  have C := Lib.hid (fun (w2 : World) (b : Below w.heap.size w w2) => gchal_any (pw 2147483579 4 o : Int) (pw 2147483579 4 k : Int) (by omega) (by omega) A n cap zs w2 (hr.step b) hl hn (htab.step b))
  rw [eS, eC]
  clear eS eC
  generalize pw 2147483579 4 o = r1 at P1 l1 C cl ⊢
  generalize pw 2147483579 4 k = r2 at P2 l2 C cl ⊢
  generalize chalN (r1 : Int) (r2 : Int) zs = c at C cl ⊢
  obtain ⟨e1, e2, e3⟩ := sum_small ho2 cl hk2
  obtain ⟨p, hp⟩ : ∃ p, c * k = p := ⟨_, rfl⟩
  rw [hp] at e1 e2 e3 ⊢
  obtain ⟨q, hq⟩ : ∃ q, o + p = q := ⟨_, rfl⟩
  rw [hq] at e2 e3 ⊢
  obtain ⟨s, hs⟩ : ∃ s, q % 1073741789 = s := ⟨_, rfl⟩
  rw [hs] at e3 ⊢
  clear hp hq hs hr hn htab
  have t4 := T0.out.lt
  go_enter Tryd.func17, Tryd.ntmps17
  go_wp2_with (first
    | (go_at_call 33; refine (K1.out _).mono ?_; rintro e w' ⟨rfl, rfl⟩; clear K1)
    | (go_at_call 33; refine (K2.out _).mono ?_; rintro e w' ⟨rfl, rfl⟩; clear K2)
    | (go_at_call 30; refine (P1.out _).mono ?_; rintro e w1 ⟨rfl, b1⟩; have T1 := Lib.hid (T0.out.below b1 t4); have B1 := Lib.hid (below_more hb.out b1); clear P1 b1)
    | (go_at_call 30; refine (P2.out _).mono ?_; rintro e w2 ⟨rfl, b2⟩; have T2 := Lib.hid (T1.out.below b2 T1.out.lt); have B2 := Lib.hid (below_more B1.out b2); have CW := Lib.hid (C.out w2 B2.out); clear P2 b2)
    | (go_at_call 34; refine CW.out.mono ?_; rintro e w3 ⟨rfl, b3⟩; refine Hid.out ?_))
  refine Lib.hid ?_
  have T3 : Two w3 w.heap.size 23 (.int .i64 0) (.int .i64 0) := T2.out.below b3 T2.out.lt
  have B3 := Lib.hid (below_more B2.out b3)
  have t0 := T3.c0
  have t1 := T3.c1
  have t2 := T3.free 0
  have t3 := T3.free 1
  have t5 := T3.lt
  clear T3 b3 hW
  go_wp2_with fail
  refine bodyPost_ret (v := .tuple #[.agg #[.int .i64 c, .int .i64 s], .int .i64 0]) (by simp [results, Tryd.results17, go_sem, t0, t1, t5]) rfl ⟨rfl, ?_⟩
  exact (B3.out.setCell (p := ⟨w.heap.size, 0, none⟩) (by simp) _).setCell (p := ⟨w.heap.size, 1, none⟩) (by simp) _

theorem gsign_any (k o : Int) (hk : I64 k) (ho : I64 o) (A : Option Addr) (n cap : Nat) (zs : List Int) (w : World) (hr : RowI w.heap.size w A n zs) (hl : n ≤ 100) (hn : A = none → cap = 0) (htab : Tab w) :
    Calls Tryd.prog 17 #[.int .i64 k, .int .i64 o, .slice A n cap] w (Gives (.tuple #[sgV (signR k o zs).1 (signR k o zs).2.1, .int .i64 (signR k o zs).2.2]) w) := by
  by_cases h : SeI k ∧ SeI o
  · have e : signR k o zs = ((sigC k o zs : Int), (sigS k o zs : Int), 0) := if_pos h
    rw [e]
    obtain ⟨⟨a1, a2⟩, b1, b2⟩ := h
    obtain ⟨k', rfl⟩ : ∃ k' : Nat, k = (k' : Int) := ⟨k.toNat, by omega⟩
    obtain ⟨o', rfl⟩ : ∃ o' : Nat, o = (o' : Int) := ⟨o.toNat, by omega⟩
    exact gsign_yes k' o' (by omega) (by omega) (by omega) (by omega) A n cap zs w hr hl hn htab
  · have e : signR k o zs = (0, 0, 1) := if_neg h
    rw [e]
    refine gsign_no (decide (SeI k)) (decide (SeI o)) ?_ k o A n cap w (gsecret_any k _ (by simp) hk.1 hk.2) (gsecret_any o _ (by simp) ho.1 ho.2)
    by_cases q : SeI k
    · exact .inr (by simp; exact fun x => h ⟨q, x⟩)
    · exact .inl (by simp [q])
end Go.Proofs.YtlimkcodbmafaaaDoor
