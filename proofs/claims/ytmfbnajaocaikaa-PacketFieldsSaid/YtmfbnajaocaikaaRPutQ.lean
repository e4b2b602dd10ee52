/- Layer 11: the reference's PutRequest and PutReply (gen/gen_put.py writes this). -/
import Derived.Test.YtmfbnajaocaikaaRRep
namespace Go.Proofs.Ytmfbnajaocaikaa
open Go.RowKit Go.Sort Go
set_option linter.unusedVariables false
set_option linter.unusedSimpArgs false

def PutYes (bs : List UInt8) (w : World) (e : Ending) (w' : World) : Prop :=
  ∃ (A : Option Addr) (n cap : Nat), e = .returned (.tuple #[.slice A n cap, .int .i64 0]) ∧ n ≤ cap ∧ cap ≤ 9223372036854775807 ∧ (A = none → cap = 0) ∧ Row8 w'.heap.size w' A n bs ∧ Below w.heap.size w w'
theorem put_yes {ok : Prop} [Decidable ok] (h : ok) {bs : List UInt8} {w w' : World} {e : Ending} (k : PutYes bs w e w') : PutIs ok bs w e w' := by
  obtain ⟨A, n, cap, h1, h2, h3, h4, h5, h6⟩ := k
  exact ⟨A, n, cap, by rw [if_pos h]; exact h1, h2, h3, h4, by rw [if_pos h]; exact h5, h6⟩
theorem put_no {ok : Prop} [Decidable ok] (h : ¬ ok) {bs : List UInt8} {w w' : World} {e : Ending} (k : Gives (.tuple #[.slice none 0 0, .int .i64 1]) w e w') : PutIs ok bs w e w' :=
  ⟨none, 0, 0, by rw [if_neg h]; exact k.1, Nat.le_refl _, by omega, fun _ => rfl, by rw [if_neg h]; exact ⟨rfl, fun h => absurd h (by omega)⟩, k.2⟩

set_option maxHeartbeats 4000000 in
theorem rputq_any (q : Rq) (hq : q.In) (w : World) : Calls Try.prog 12 #[rqV q] w (PutIs q.Ok (pkB 1 q.ints) w) := by
  by_cases ok : q.Ok
  · have KR := Lib.hid (rreq_any q true ⟨fun _ => ok, fun _ => rfl⟩)
    have KI := Lib.hid (rqints_any q hq)
    have HI := Lib.hid (ints_in hq)
    refine Calls.mono (R := PutYes (pkB 1 q.ints) w) ?_ (fun e w' h => put_yes ok h)
    obtain ⟨zs, hz⟩ : ∃ zs, q.ints = zs := ⟨_, rfl⟩
    rw [hz] at KI HI ⊢
    clear hz ok hq
    obtain ⟨h, a, r, n⟩ := q
    unfold rqV at KR KI ⊢
    dsimp only at KR KI ⊢
    obtain ⟨W, hW⟩ : ∃ W, w.alloc (.cells #[.int .i64 h, .int .i64 a, .int .i64 r, .int .u64 n] 24) = W := ⟨_, rfl⟩
    have T0 : Hid (Four W w.heap.size 24 (.int .i64 h) (.int .i64 a) (.int .i64 r) (.int .u64 n)) := by rw [← hW]; exact Four.new w _ _ _ _ _
    have B0 : Hid (Below w.heap.size w W) := by rw [← hW]; exact below_alloc w _
    have t0 := T0.out.c0
    have t1 := T0.out.c1
    have t2 := T0.out.c2
    have t3 := T0.out.c3
    have tl := T0.out.lt
    go_enter Try.func12, Try.ntmps12
    go_wp2_with (first
      | (go_at_call 20; (with_reducible refine (KR.out _).mono ?_); rintro e w1 ⟨rfl, b9⟩; replace T0 := Lib.hid (T0.out.below b9 T0.out.lt); replace B0 := Lib.hid (below_more B0.out b9); replace t0 := T0.out.c0; replace t1 := T0.out.c1; replace t2 := T0.out.c2; replace t3 := T0.out.c3; replace tl := T0.out.lt; clear b9 KR)
      | (go_at_call 27; (with_reducible refine (KI.out _).mono ?_); rintro e w2 ⟨A2, rfl, n2, r2, b9⟩; have RW := Lib.hid r2; replace T0 := Lib.hid (T0.out.below b9 T0.out.lt); replace B0 := Lib.hid (below_more B0.out b9); clear r2 n2 b9 KI)
      | (go_at_call 26; refine (rpk_any 1 _ _ _ zs HI.out (by omega) _ RW.out).mono ?_; rintro e w3 ⟨A3, n3, cap3, rfl, h1, h2, h3, h4, b9⟩; replace B0 := Lib.hid (below_more B0.out b9); have R3 := Lib.hid h4; have C3 := Lib.hid (And.intro h1 (And.intro h2 h3)); clear h1 h2 h3 h4 b9))
    go_ret2
    exact ⟨A3, n3, cap3, rfl, C3.out.1, C3.out.2.1, C3.out.2.2, R3.out, B0.out⟩
  · have KR := Lib.hid (rreq_any q false ⟨fun h => (by cases h), fun h => absurd h ok⟩)
    refine Calls.mono (R := Gives (.tuple #[.slice none 0 0, .int .i64 1]) w) ?_ (fun e w' h => put_no ok h)
    clear ok hq
    obtain ⟨h, a, r, n⟩ := q
    unfold rqV at KR ⊢
    dsimp only at KR ⊢
    obtain ⟨W, hW⟩ : ∃ W, w.alloc (.cells #[.int .i64 h, .int .i64 a, .int .i64 r, .int .u64 n] 24) = W := ⟨_, rfl⟩
    have T0 : Hid (Four W w.heap.size 24 (.int .i64 h) (.int .i64 a) (.int .i64 r) (.int .u64 n)) := by rw [← hW]; exact Four.new w _ _ _ _ _
    have B0 : Hid (Below w.heap.size w W) := by rw [← hW]; exact below_alloc w _
    have t0 := T0.out.c0
    have t1 := T0.out.c1
    have t2 := T0.out.c2
    have t3 := T0.out.c3
    have tl := T0.out.lt
    go_enter Try.func12, Try.ntmps12
    go_wp2_with (go_at_call 20; (with_reducible refine (KR.out _).mono ?_); rintro e w1 ⟨rfl, b9⟩; replace T0 := Lib.hid (T0.out.below b9 T0.out.lt); replace B0 := Lib.hid (below_more B0.out b9); replace t0 := T0.out.c0; replace t1 := T0.out.c1; replace t2 := T0.out.c2; replace t3 := T0.out.c3; replace tl := T0.out.lt; clear b9 KR)
    go_ret2
    exact ⟨rfl, B0.out⟩

set_option maxHeartbeats 4000000 in
theorem rputp_any (q : Rp) (hq : q.In) (w : World) : Calls Try.prog 17 #[rpV q] w (PutIs q.Ok (pkB 2 q.ints) w) := by
  by_cases ok : q.Ok
  · have KR := Lib.hid (rrep_any q true ⟨fun _ => ok, fun _ => rfl⟩)
    have KI := Lib.hid (rpints_any q hq)
    have HI := Lib.hid (pints_in hq)
    refine Calls.mono (R := PutYes (pkB 2 q.ints) w) ?_ (fun e w' h => put_yes ok h)
    obtain ⟨zs, hz⟩ : ∃ zs, q.ints = zs := ⟨_, rfl⟩
    rw [hz] at KI HI ⊢
    clear hz ok hq
    obtain ⟨a, h, r, n, l, u, k, t, c, s⟩ := q
    unfold rpV at KR KI ⊢
    dsimp only at KR KI ⊢
    obtain ⟨W, hW⟩ : ∃ W, w.alloc (.cells #[.int .i64 a, .int .i64 h, .int .i64 r, .int .u64 n, .int .i64 l, .int .i64 u, .int .i64 k, .int .i64 t, .int .i64 c, .int .i64 s] 30) = W := ⟨_, rfl⟩
    have T0 : Hid (Cells W w.heap.size 30 #[.int .i64 a, .int .i64 h, .int .i64 r, .int .u64 n, .int .i64 l, .int .i64 u, .int .i64 k, .int .i64 t, .int .i64 c, .int .i64 s]) := by rw [← hW]; exact Cells.new w _ _
    have B0 : Hid (Below w.heap.size w W) := by rw [← hW]; exact below_alloc w _
    have t0 := T0.out.c 0 rfl
    have t1 := T0.out.c 1 rfl
    have t2 := T0.out.c 2 rfl
    have t3 := T0.out.c 3 rfl
    have t4 := T0.out.c 4 rfl
    have t5 := T0.out.c 5 rfl
    have t6 := T0.out.c 6 rfl
    have t7 := T0.out.c 7 rfl
    have t8 := T0.out.c 8 rfl
    have t9 := T0.out.c 9 rfl
    have tl := T0.out.lt
    go_enter Try.func17, Try.ntmps17
    go_wp2_with (first
      | (go_at_call 21; (with_reducible refine (KR.out _).mono ?_); rintro e w1 ⟨rfl, b9⟩; replace T0 := Lib.hid (T0.out.below b9 T0.out.lt); replace B0 := Lib.hid (below_more B0.out b9); replace t0 := T0.out.c 0 rfl; replace t1 := T0.out.c 1 rfl; replace t2 := T0.out.c 2 rfl; replace t3 := T0.out.c 3 rfl; replace t4 := T0.out.c 4 rfl; replace t5 := T0.out.c 5 rfl; replace t6 := T0.out.c 6 rfl; replace t7 := T0.out.c 7 rfl; replace t8 := T0.out.c 8 rfl; replace t9 := T0.out.c 9 rfl; replace tl := T0.out.lt; clear b9 KR)
      | (go_at_call 35; (with_reducible refine (KI.out _).mono ?_); rintro e w2 ⟨A2, rfl, n2, r2, b9⟩; have RW := Lib.hid r2; replace T0 := Lib.hid (T0.out.below b9 T0.out.lt); replace B0 := Lib.hid (below_more B0.out b9); clear r2 n2 b9 KI)
      | (go_at_call 26; refine (rpk_any 2 _ _ _ zs HI.out (by omega) _ RW.out).mono ?_; rintro e w3 ⟨A3, n3, cap3, rfl, h1, h2, h3, h4, b9⟩; replace B0 := Lib.hid (below_more B0.out b9); have R3 := Lib.hid h4; have C3 := Lib.hid (And.intro h1 (And.intro h2 h3)); clear h1 h2 h3 h4 b9))
    go_ret2
    exact ⟨A3, n3, cap3, rfl, C3.out.1, C3.out.2.1, C3.out.2.2, R3.out, B0.out⟩
  · have KR := Lib.hid (rrep_any q false ⟨fun h => (by cases h), fun h => absurd h ok⟩)
    refine Calls.mono (R := Gives (.tuple #[.slice none 0 0, .int .i64 1]) w) ?_ (fun e w' h => put_no ok h)
    clear ok hq
    obtain ⟨a, h, r, n, l, u, k, t, c, s⟩ := q
    unfold rpV at KR ⊢
    dsimp only at KR ⊢
    obtain ⟨W, hW⟩ : ∃ W, w.alloc (.cells #[.int .i64 a, .int .i64 h, .int .i64 r, .int .u64 n, .int .i64 l, .int .i64 u, .int .i64 k, .int .i64 t, .int .i64 c, .int .i64 s] 30) = W := ⟨_, rfl⟩
    have T0 : Hid (Cells W w.heap.size 30 #[.int .i64 a, .int .i64 h, .int .i64 r, .int .u64 n, .int .i64 l, .int .i64 u, .int .i64 k, .int .i64 t, .int .i64 c, .int .i64 s]) := by rw [← hW]; exact Cells.new w _ _
    have B0 : Hid (Below w.heap.size w W) := by rw [← hW]; exact below_alloc w _
    have t0 := T0.out.c 0 rfl
    have t1 := T0.out.c 1 rfl
    have t2 := T0.out.c 2 rfl
    have t3 := T0.out.c 3 rfl
    have t4 := T0.out.c 4 rfl
    have t5 := T0.out.c 5 rfl
    have t6 := T0.out.c 6 rfl
    have t7 := T0.out.c 7 rfl
    have t8 := T0.out.c 8 rfl
    have t9 := T0.out.c 9 rfl
    have tl := T0.out.lt
    go_enter Try.func17, Try.ntmps17
    go_wp2_with (go_at_call 21; (with_reducible refine (KR.out _).mono ?_); rintro e w1 ⟨rfl, b9⟩; replace T0 := Lib.hid (T0.out.below b9 T0.out.lt); replace B0 := Lib.hid (below_more B0.out b9); replace t0 := T0.out.c 0 rfl; replace t1 := T0.out.c 1 rfl; replace t2 := T0.out.c 2 rfl; replace t3 := T0.out.c 3 rfl; replace t4 := T0.out.c 4 rfl; replace t5 := T0.out.c 5 rfl; replace t6 := T0.out.c 6 rfl; replace t7 := T0.out.c 7 rfl; replace t8 := T0.out.c 8 rfl; replace t9 := T0.out.c 9 rfl; replace tl := T0.out.lt; clear b9 KR)
    go_ret2
    exact ⟨rfl, B0.out⟩
end Go.Proofs.Ytmfbnajaocaikaa
