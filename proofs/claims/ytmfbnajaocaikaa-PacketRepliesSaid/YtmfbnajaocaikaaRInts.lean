/- Layer 11: the reference's integers of a request and of a reply. -/
import Derived.Deep.RegionHeld3
import Derived.Test.YtmfbnajaocaikaaRSm
namespace Go.Proofs.Ytmfbnajaocaikaa
open Go.RowKit Go.Sort Go
set_option linter.unusedVariables false
set_option linter.unusedSimpArgs false

/-- A literal of integers. -/
theorem rowI_cells {w : World} {g : Nat} {zs : List Int} {n : Nat} (hn : n = zs.length) (hz : ∀ x ∈ zs, I64 x) (h : Cells w g 3 (intCells zs).toArray) : RowI w.heap.size w (some ⟨g, 0, none⟩) n zs := by
  subst hn
  refine ⟨rfl, fun _ => ⟨_, rfl, h.lt, fun i hi => ?_⟩, hz⟩
  rw [Lib.add_plain, Nat.zero_add]
  refine h.c i ?_
  simp [intCells, List.getD, hi]

set_option maxRecDepth 100000 in
set_option maxHeartbeats 4000000 in
theorem rqints_any (q : Rq) (hq : q.In) (w : World) :
    Calls Try.prog 27 #[rqV q] w fun e w' => ∃ A, e = .returned (.slice A 5 5) ∧ A ≠ none ∧ RowI w'.heap.size w' A 5 q.ints ∧ Below w.heap.size w w' := by
  have HI := Lib.hid (ints_in hq)
  obtain ⟨h, a, r, n⟩ := q
  have U := Lib.hid (rup_any n hq.2.2.2)
  have L := Lib.hid (rlow_any n hq.2.2.2)
  have HZ : Hid ((Rq.mk h a r n).ints = [h, a, r, n / 4294967296, n % 4294967296]) := rfl
  obtain ⟨u, hu⟩ : ∃ u, n / 4294967296 = u := ⟨_, rfl⟩
  obtain ⟨v, hv⟩ : ∃ v, n % 4294967296 = v := ⟨_, rfl⟩
  rw [hu] at U HZ
  rw [hv] at L HZ
  rw [HZ.out] at HI ⊢
  clear hu hv hq HZ
  unfold rqV
  dsimp only
  obtain ⟨W, hW⟩ : ∃ W, w.alloc (.cells #[.int .i64 h, .int .i64 a, .int .i64 r, .int .u64 n] 24) = W := ⟨_, rfl⟩
  have T0 : Four W w.heap.size 24 (.int .i64 h) (.int .i64 a) (.int .i64 r) (.int .u64 n) := by rw [← hW]; exact Four.new w _ _ _ _ _
  have B0 : Hid (Below w.heap.size w W) := by rw [← hW]; exact below_alloc w _
  have t0 := T0.c0
  have t1 := T0.c1
  have t2 := T0.c2
  have t3 := T0.c3
  have t4 := T0.lt
  have ne := World.new_ne W _ t0
  clear T0
  go_enter Try.func27, Try.ntmps27
  go_wp2_with fail
  go_region_held3 (fun w' => w'.cell? ⟨w.heap.size, 0, none⟩ = some (.int .i64 h) ∧ w'.cell? ⟨w.heap.size, 1, none⟩ = some (.int .i64 a) ∧ w'.cell? ⟨w.heap.size, 2, none⟩ = some (.int .i64 r) ∧ w'.cell? ⟨w.heap.size, 3, none⟩ = some (.int .u64 n)) (go_keep)
    (first
      | (go_at_call 42; (with_reducible refine (U.out _).mono ?_); rintro e w' ⟨rfl, rfl⟩)
      | (go_at_call 43; (with_reducible refine (L.out _).mono ?_); rintro e w' ⟨rfl, rfl⟩))
  all_goals
    go_wp2_with fail
    go_ret
    exact ⟨_, rfl, by simp, rowI_cells rfl HI.out (Cells.new _ _ _), B0.out.drew.alloc (by first | exact B0.out.size | simp [B0.out.size]) _⟩
set_option maxRecDepth 100000 in
set_option maxHeartbeats 8000000 in
theorem rpints_any (p : Rp) (hp : p.In) (w : World) :
    Calls Try.prog 35 #[rpV p] w fun e w' => ∃ A, e = .returned (.slice A 11 11) ∧ A ≠ none ∧ RowI w'.heap.size w' A 11 p.ints ∧ Below w.heap.size w w' := by
  have HI := Lib.hid (pints_in hp)
  obtain ⟨a, h, r, n, l, u, k, t, c, s⟩ := p
  have U := Lib.hid (rup_any n hp.2.2.2.1)
  have L := Lib.hid (rlow_any n hp.2.2.2.1)
  have HZ : Hid ((Rp.mk a h r n l u k t c s).ints = [a, h, r, n / 4294967296, n % 4294967296, l, u, k, t, c, s]) := rfl
  obtain ⟨x, hx⟩ : ∃ x, n / 4294967296 = x := ⟨_, rfl⟩
  obtain ⟨y, hy⟩ : ∃ y, n % 4294967296 = y := ⟨_, rfl⟩
  rw [hx] at U HZ
  rw [hy] at L HZ
  rw [HZ.out] at HI ⊢
  clear hx hy hp HZ
  unfold rpV
  dsimp only
  obtain ⟨W, hW⟩ : ∃ W, w.alloc (.cells #[.int .i64 a, .int .i64 h, .int .i64 r, .int .u64 n, .int .i64 l, .int .i64 u, .int .i64 k, .int .i64 t, .int .i64 c, .int .i64 s] 30) = W := ⟨_, rfl⟩
  have T0 : Cells W w.heap.size 30 #[.int .i64 a, .int .i64 h, .int .i64 r, .int .u64 n, .int .i64 l, .int .i64 u, .int .i64 k, .int .i64 t, .int .i64 c, .int .i64 s] := by rw [← hW]; exact Cells.new w _ _
  have B0 : Hid (Below w.heap.size w W) := by rw [← hW]; exact below_alloc w _
  have t0 := T0.c 0 rfl
  have t1 := T0.c 1 rfl
  have t2 := T0.c 2 rfl
  have t3 := T0.c 3 rfl
  have t4 := T0.c 4 rfl
  have t5 := T0.c 5 rfl
  have t6 := T0.c 6 rfl
  have t7 := T0.c 7 rfl
  have t8 := T0.c 8 rfl
  have t9 := T0.c 9 rfl
  have tl := T0.lt
  have ne := World.new_ne W _ t0
  clear T0
  go_enter Try.func35, Try.ntmps35
  go_wp2_with fail
  go_region_held3 (fun w' => w'.cell? ⟨w.heap.size, 0, none⟩ = some (.int .i64 a) ∧ w'.cell? ⟨w.heap.size, 1, none⟩ = some (.int .i64 h) ∧ w'.cell? ⟨w.heap.size, 2, none⟩ = some (.int .i64 r) ∧ w'.cell? ⟨w.heap.size, 3, none⟩ = some (.int .u64 n) ∧ w'.cell? ⟨w.heap.size, 4, none⟩ = some (.int .i64 l) ∧ w'.cell? ⟨w.heap.size, 5, none⟩ = some (.int .i64 u) ∧ w'.cell? ⟨w.heap.size, 6, none⟩ = some (.int .i64 k) ∧ w'.cell? ⟨w.heap.size, 7, none⟩ = some (.int .i64 t) ∧ w'.cell? ⟨w.heap.size, 8, none⟩ = some (.int .i64 c) ∧ w'.cell? ⟨w.heap.size, 9, none⟩ = some (.int .i64 s)) (go_keep)
    (first
      | (go_at_call 42; (with_reducible refine (U.out _).mono ?_); rintro e w' ⟨rfl, rfl⟩)
      | (go_at_call 43; (with_reducible refine (L.out _).mono ?_); rintro e w' ⟨rfl, rfl⟩))
  all_goals
    go_wp2_with fail
    go_ret
    exact ⟨_, rfl, by simp, rowI_cells rfl HI.out (Cells.new _ _ _), B0.out.drew.alloc (by first | exact B0.out.size | simp [B0.out.size]) _⟩
end Go.Proofs.Ytmfbnajaocaikaa
