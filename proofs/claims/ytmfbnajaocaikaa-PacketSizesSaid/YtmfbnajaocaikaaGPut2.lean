/- Layer 11: package packet's PutRequest and PutReply over the landed code (gen/gen_prog.py writes this). -/
import Derived.Test.YtmfbnajaocaikaaGWr
namespace Go.Proofs.Ytmfbnajaocaikaa
open Go.RowKit Go.Sort Go
set_option linter.unusedVariables false
set_option linter.unusedSimpArgs false

set_option maxRecDepth 100000 in
set_option maxHeartbeats 8000000 in
theorem gputq_any (q : Rq) (hq : q.In) (w : World) : Calls Try.prog 11 #[rqV q] w (PutIs q.Ok (pkB 1 q.ints) w) := by
  by_cases ok : q.Ok
  · have KR := Lib.hid (gvreq_any q true ⟨fun _ => ok, fun _ => rfl⟩)
    have HI := Lib.hid (ints_in hq)
    refine Calls.mono (R := PutYes (pkB 1 q.ints) w) ?_ (fun e w' h => put_yes ok h)
    obtain ⟨hu, ehu⟩ : ∃ u, q.n / 4294967296 = u := ⟨_, rfl⟩
    obtain ⟨hv, ehv⟩ : ∃ v, q.n % 4294967296 = v := ⟨_, rfl⟩
    have KS := Lib.hid (gsplit_any q.n hu hv hq.2.2.2 ehu ehv)
    unfold Rq.ints at HI ⊢
    rw [ehu, ehv] at HI ⊢
    clear ehu ehv ok hq
    obtain ⟨h, a, r, n⟩ := q
    unfold rgV at KS
    dsimp only at KS HI ⊢
    unfold rqV at KR ⊢
    dsimp only at KR ⊢
    obtain ⟨W, hW⟩ : ∃ W, w.alloc (.cells #[.int .i64 h, .int .i64 a, .int .i64 r, .int .u64 n] 24) = W := ⟨_, rfl⟩
    have T0 : Hid (Four W w.heap.size 24 (.int .i64 h) (.int .i64 a) (.int .i64 r) (.int .u64 n)) := by rw [← hW]; exact Four.new w _ _ _ _ _
    have B0 : Hid (Below w.heap.size w W) := by rw [← hW]; exact below_alloc w _
    have t0 := T0.out.c0
    have t1 := T0.out.c1
    have t2 := T0.out.c2
    have t3 := T0.out.c3
    have tl := T0.out.lt
    go_enter Try.func11, Try.ntmps11
    go_wp2_with (first
      | (go_at_call 22; (with_reducible refine (KR.out _).mono ?_); rintro e w1 ⟨rfl, b9⟩; replace T0 := Lib.hid (T0.out.below b9 T0.out.lt); replace B0 := Lib.hid (below_more B0.out b9); replace t0 := T0.out.c0; replace t1 := T0.out.c1; replace t2 := T0.out.c2; replace t3 := T0.out.c3; replace tl := T0.out.lt; clear b9; clear KR)
      | (go_at_call 23; (with_reducible refine (KS.out _).mono ?_); rintro e w2 ⟨rfl, b9⟩; have H0 : Hid (Two (w2.alloc (.cells #[.int .i64 hu, .int .i64 hv] 53)) w2.heap.size 53 (.int .i64 hu) (.int .i64 hv)) := Two.new _ _ _ _; have HZ := Lib.hid (below_more B0.out b9); replace T0 := Lib.hid ((T0.out.below b9 T0.out.lt).alloc (.cells #[.int .i64 hu, .int .i64 hv] 53)); replace B0 := Lib.hid (HZ.out.alloc HZ.out.size (.cells #[.int .i64 hu, .int .i64 hv] 53)); replace t0 := T0.out.c0; replace t1 := T0.out.c1; replace t2 := T0.out.c2; replace t3 := T0.out.c3; replace tl := T0.out.lt; have h0 := H0.out.c0; have h1 := H0.out.c1; have hl := H0.out.lt; clear b9 KS HZ)
      | (go_at_call 25; refine (grqf_any w.heap.size w2.heap.size _ tl hl).mono ?_; rintro e w3 ⟨rfl, b9⟩; replace H0 := Lib.hid (H0.out.below b9 H0.out.lt); replace T0 := Lib.hid (T0.out.below b9 T0.out.lt); replace B0 := Lib.hid (below_more B0.out b9); replace t0 := T0.out.c0; replace t1 := T0.out.c1; replace t2 := T0.out.c2; replace t3 := T0.out.c3; replace tl := T0.out.lt; clear b9; replace h0 := H0.out.c0; replace h1 := H0.out.c1; replace hl := H0.out.lt)
      | (go_at_call 24; refine (gwrite5_any 1 h a r hu hv w.heap.size w2.heap.size _ tl hl HI.out t0 t1 t2 h0 h1).mono ?_; rintro e w4 ⟨A4, n4, cap4, rfl, k1, k2, k3, k4, b9⟩; have R4 := Lib.hid k4; have C4 := Lib.hid (And.intro k1 (And.intro k2 k3)); replace B0 := Lib.hid (below_more B0.out b9); clear k1 k2 k3 k4 b9 h0 h1 hl H0))
    go_ret2
    exact ⟨A4, n4, cap4, rfl, C4.out.1, C4.out.2.1, C4.out.2.2, R4.out, B0.out⟩
  · have KR := Lib.hid (gvreq_any q false ⟨fun h => (by cases h), fun h => absurd h ok⟩)
    refine Calls.mono (R := Gives (.tuple #[.slice none 0 0, .int .i64 1]) w) ?_ (fun e w' h => put_no ok h)
    clear ok hq
    obtain ⟨h, a, r, n⟩ := q
    unfold rqV at KR ⊢
    dsimp only at KR ⊢
    obtain ⟨W, hW⟩ : ∃ W, w.alloc (.cells #[.int .i64 h, .int .i64 a, .int .i64 r, .int .u64 n] 24) = W := ⟨_, rfl⟩
    have T0 : Hid (Four W w.heap.size 24 (.int .i64 h) (.int .i64 a) (.int .i64 r) (.int .u64 n)) := by rw [← hW]; exact Four.new w _ _ _ _ _
    have B0 : Hid (Below w.heap.size w W) := by rw [← hW]; exact below_alloc w _
    have t0 := T0.out.c0
    have t1 := T0.out.c1
    have t2 := T0.out.c2
    have t3 := T0.out.c3
    have tl := T0.out.lt
    go_enter Try.func11, Try.ntmps11
    go_wp2_with (go_at_call 22; (with_reducible refine (KR.out _).mono ?_); rintro e w1 ⟨rfl, b9⟩; replace T0 := Lib.hid (T0.out.below b9 T0.out.lt); replace B0 := Lib.hid (below_more B0.out b9); replace t0 := T0.out.c0; replace t1 := T0.out.c1; replace t2 := T0.out.c2; replace t3 := T0.out.c3; replace tl := T0.out.lt; clear b9; clear KR)
    go_ret2
    exact ⟨rfl, B0.out⟩
set_option maxRecDepth 100000 in
set_option maxHeartbeats 8000000 in
theorem gputp_any (q : Rp) (hq : q.In) (w : World) : Calls Try.prog 16 #[rpV q] w (PutIs q.Ok (pkB 2 q.ints) w) := by
  by_cases ok : q.Ok
  · have KR := Lib.hid (gvrep_any q true ⟨fun _ => ok, fun _ => rfl⟩)
    have HI := Lib.hid (pints_in hq)
    refine Calls.mono (R := PutYes (pkB 2 q.ints) w) ?_ (fun e w' h => put_yes ok h)
    obtain ⟨hu, ehu⟩ : ∃ u, q.n / 4294967296 = u := ⟨_, rfl⟩
    obtain ⟨hv, ehv⟩ : ∃ v, q.n % 4294967296 = v := ⟨_, rfl⟩
    have KS := Lib.hid (gsplit_any q.n hu hv hq.2.2.2.1 ehu ehv)
    unfold Rp.ints at HI ⊢
    rw [ehu, ehv] at HI ⊢
    clear ehu ehv ok hq
    obtain ⟨a, h, r, n, l, u, k, t, c, s⟩ := q
    unfold rgV at KS
    dsimp only at KS HI ⊢
    unfold rpV at KR ⊢
    dsimp only at KR ⊢
    obtain ⟨W, hW⟩ : ∃ W, w.alloc (.cells #[.int .i64 a, .int .i64 h, .int .i64 r, .int .u64 n, .int .i64 l, .int .i64 u, .int .i64 k, .int .i64 t, .int .i64 c, .int .i64 s] 30) = W := ⟨_, rfl⟩
    have T0 : Hid (Cells W w.heap.size 30 #[.int .i64 a, .int .i64 h, .int .i64 r, .int .u64 n, .int .i64 l, .int .i64 u, .int .i64 k, .int .i64 t, .int .i64 c, .int .i64 s]) := by rw [← hW]; exact Cells.new w _ _
    have B0 : Hid (Below w.heap.size w W) := by rw [← hW]; exact below_alloc w _
    have t0 := T0.out.c 0 rfl
    have t1 := T0.out.c 1 rfl
    have t2 := T0.out.c 2 rfl
    have t3 := T0.out.c 3 rfl
    have t4 := T0.out.c 4 rfl
    have t5 := T0.out.c 5 rfl
    have t6 := T0.out.c 6 rfl
    have t7 := T0.out.c 7 rfl
    have t8 := T0.out.c 8 rfl
    have t9 := T0.out.c 9 rfl
    have tl := T0.out.lt
    go_enter Try.func16, Try.ntmps16
    go_wp2_with (first
      | (go_at_call 32; (with_reducible refine (KR.out _).mono ?_); rintro e w1 ⟨rfl, b9⟩; replace T0 := Lib.hid (T0.out.below b9 T0.out.lt); replace B0 := Lib.hid (below_more B0.out b9); replace t0 := T0.out.c 0 rfl; replace t1 := T0.out.c 1 rfl; replace t2 := T0.out.c 2 rfl; replace t3 := T0.out.c 3 rfl; replace t4 := T0.out.c 4 rfl; replace t5 := T0.out.c 5 rfl; replace t6 := T0.out.c 6 rfl; replace t7 := T0.out.c 7 rfl; replace t8 := T0.out.c 8 rfl; replace t9 := T0.out.c 9 rfl; replace tl := T0.out.lt; clear b9; clear KR)
      | (go_at_call 23; (with_reducible refine (KS.out _).mono ?_); rintro e w2 ⟨rfl, b9⟩; have H0 : Hid (Two (w2.alloc (.cells #[.int .i64 hu, .int .i64 hv] 53)) w2.heap.size 53 (.int .i64 hu) (.int .i64 hv)) := Two.new _ _ _ _; have HZ := Lib.hid (below_more B0.out b9); replace T0 := Lib.hid ((T0.out.below b9 T0.out.lt).alloc (.cells #[.int .i64 hu, .int .i64 hv] 53)); replace B0 := Lib.hid (HZ.out.alloc HZ.out.size (.cells #[.int .i64 hu, .int .i64 hv] 53)); replace t0 := T0.out.c 0 rfl; replace t1 := T0.out.c 1 rfl; replace t2 := T0.out.c 2 rfl; replace t3 := T0.out.c 3 rfl; replace t4 := T0.out.c 4 rfl; replace t5 := T0.out.c 5 rfl; replace t6 := T0.out.c 6 rfl; replace t7 := T0.out.c 7 rfl; replace t8 := T0.out.c 8 rfl; replace t9 := T0.out.c 9 rfl; replace tl := T0.out.lt; have h0 := H0.out.c0; have h1 := H0.out.c1; have hl := H0.out.lt; clear b9 KS HZ)
      | (go_at_call 34; refine (grpf_any w.heap.size w2.heap.size _ tl hl).mono ?_; rintro e w3 ⟨rfl, b9⟩; replace H0 := Lib.hid (H0.out.below b9 H0.out.lt); replace T0 := Lib.hid (T0.out.below b9 T0.out.lt); replace B0 := Lib.hid (below_more B0.out b9); replace t0 := T0.out.c 0 rfl; replace t1 := T0.out.c 1 rfl; replace t2 := T0.out.c 2 rfl; replace t3 := T0.out.c 3 rfl; replace t4 := T0.out.c 4 rfl; replace t5 := T0.out.c 5 rfl; replace t6 := T0.out.c 6 rfl; replace t7 := T0.out.c 7 rfl; replace t8 := T0.out.c 8 rfl; replace t9 := T0.out.c 9 rfl; replace tl := T0.out.lt; clear b9; replace h0 := H0.out.c0; replace h1 := H0.out.c1; replace hl := H0.out.lt)
      | (go_at_call 33; refine (gwrite11_any 2 a h r hu hv l u k t c s w.heap.size w2.heap.size _ tl hl HI.out t0 t1 t2 h0 h1 t4 t5 t6 t7 t8 t9).mono ?_; rintro e w4 ⟨A4, n4, cap4, rfl, k1, k2, k3, k4, b9⟩; have R4 := Lib.hid k4; have C4 := Lib.hid (And.intro k1 (And.intro k2 k3)); replace B0 := Lib.hid (below_more B0.out b9); clear k1 k2 k3 k4 b9 h0 h1 hl H0))
    go_ret2
    exact ⟨A4, n4, cap4, rfl, C4.out.1, C4.out.2.1, C4.out.2.2, R4.out, B0.out⟩
  · have KR := Lib.hid (gvrep_any q false ⟨fun h => (by cases h), fun h => absurd h ok⟩)
    refine Calls.mono (R := Gives (.tuple #[.slice none 0 0, .int .i64 1]) w) ?_ (fun e w' h => put_no ok h)
    clear ok hq
    obtain ⟨a, h, r, n, l, u, k, t, c, s⟩ := q
    unfold rpV at KR ⊢
    dsimp only at KR ⊢
    obtain ⟨W, hW⟩ : ∃ W, w.alloc (.cells #[.int .i64 a, .int .i64 h, .int .i64 r, .int .u64 n, .int .i64 l, .int .i64 u, .int .i64 k, .int .i64 t, .int .i64 c, .int .i64 s] 30) = W := ⟨_, rfl⟩
    have T0 : Hid (Cells W w.heap.size 30 #[.int .i64 a, .int .i64 h, .int .i64 r, .int .u64 n, .int .i64 l, .int .i64 u, .int .i64 k, .int .i64 t, .int .i64 c, .int .i64 s]) := by rw [← hW]; exact Cells.new w _ _
    have B0 : Hid (Below w.heap.size w W) := by rw [← hW]; exact below_alloc w _
    have t0 := T0.out.c 0 rfl
    have t1 := T0.out.c 1 rfl
    have t2 := T0.out.c 2 rfl
    have t3 := T0.out.c 3 rfl
    have t4 := T0.out.c 4 rfl
    have t5 := T0.out.c 5 rfl
    have t6 := T0.out.c 6 rfl
    have t7 := T0.out.c 7 rfl
    have t8 := T0.out.c 8 rfl
    have t9 := T0.out.c 9 rfl
    have tl := T0.out.lt
    go_enter Try.func16, Try.ntmps16
    go_wp2_with (go_at_call 32; (with_reducible refine (KR.out _).mono ?_); rintro e w1 ⟨rfl, b9⟩; replace T0 := Lib.hid (T0.out.below b9 T0.out.lt); replace B0 := Lib.hid (below_more B0.out b9); replace t0 := T0.out.c 0 rfl; replace t1 := T0.out.c 1 rfl; replace t2 := T0.out.c 2 rfl; replace t3 := T0.out.c 3 rfl; replace t4 := T0.out.c 4 rfl; replace t5 := T0.out.c 5 rfl; replace t6 := T0.out.c 6 rfl; replace t7 := T0.out.c 7 rfl; replace t8 := T0.out.c 8 rfl; replace t9 := T0.out.c 9 rfl; replace tl := T0.out.lt; clear b9; clear KR)
    go_ret2
    exact ⟨rfl, B0.out⟩
end Go.Proofs.Ytmfbnajaocaikaa
