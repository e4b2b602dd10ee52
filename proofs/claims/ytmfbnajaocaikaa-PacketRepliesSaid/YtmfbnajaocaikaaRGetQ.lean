/- Layer 11: the reference's GetRequest, path by path (gen/gen_get.py writes this). -/
import Derived.Deep.RegionHeld3
import Derived.Test.YtmfbnajaocaikaaRPutQ
namespace Go.Proofs.Ytmfbnajaocaikaa
open Go.RowKit Go.Sort Go
set_option linter.unusedVariables false
set_option linter.unusedSimpArgs false

theorem addr_add0 (p : Addr) : p.add 0 = p := by
  obtain ⟨b, o, s⟩ := p
  cases s <;> simp [Addr.add]
theorem addr_add1 (p : Addr) : (⟨p.block, p.off + 1, none⟩ : Addr) = p.add 1 := by simp [Addr.add]
theorem paddr_add (p : Addr) (k : Nat) : p.add (k + 1) = ⟨p.block, p.off + (k + 1), none⟩ := by simp [Addr.add]
theorem ofQ_len {l : List Int} (h : l.length ≠ 5) : ofQ l = none := by
  unfold ofQ
  split
  · exact absurd rfl h
  · rfl
set_option maxRecDepth 100000 in
set_option maxHeartbeats 8000000 in
theorem rgetq_short (A : Option Addr) (cap : Nat) (w : World) : Calls Try.prog 15 #[.slice A 0 cap] w (Gives (.tuple #[.agg #[.int .i64 0, .int .i64 0, .int .i64 0, .int .u64 0], .int .i64 7]) w) := by
  obtain ⟨W, hW⟩ : ∃ W, w.alloc (.cells #[.int .i64 0, .int .i64 0, .int .i64 0, .int .u64 0] 24) = W := ⟨_, rfl⟩
  have T0 : Hid (Four W w.heap.size 24 (.int .i64 0) (.int .i64 0) (.int .i64 0) (.int .u64 0)) := by rw [← hW]; exact Four.new w 24 (.int .i64 0) (.int .i64 0) (.int .i64 0) (.int .u64 0)
  have B0 : Hid (Below w.heap.size w W) := by rw [← hW]; exact below_alloc w _
  have t0 := T0.out.c0
  have t1 := T0.out.c1
  have t2 := T0.out.c2
  have t3 := T0.out.c3
  have tl := T0.out.lt
  have f0 := T0.out.free 0
  have f1 := T0.out.free 1
  have f2 := T0.out.free 2
  have f3 := T0.out.free 3
  go_enter Try.func15, Try.ntmps15
  go_wp2_with fail
  refine bodyPost_ret (v := .tuple #[.agg #[.int .i64 0, .int .i64 0, .int .i64 0, .int .u64 0], .int .i64 7]) (by simp [results, Try.results15, go_sem, t0, t1, t2, t3, tl]) rfl ⟨rfl, ?_⟩
  exact ((((B0.out.setCell (p := ⟨w.heap.size, 0, none⟩) (Nat.le_refl _) _).setCell (p := ⟨w.heap.size, 1, none⟩) (Nat.le_refl _) _).setCell (p := ⟨w.heap.size, 2, none⟩) (Nat.le_refl _) _).setCell (p := ⟨w.heap.size, 3, none⟩) (Nat.le_refl _) _)
set_option maxRecDepth 100000 in
set_option maxHeartbeats 8000000 in
theorem rgetq_kind (p : Addr) (m cap : Nat) (c : Int) (w : World) (hc : m + 1 ≤ cap) (hm : cap ≤ 9223372036854775807) (c0 : 0 ≤ c) (c1 : c ≤ 255) (h1 : c ≠ 1)
    (HX : Hid (∀ W, Below w.heap.size w W → W.cell? p = some (.int .u8 c))) : Calls Try.prog 15 #[.slice (some p) (m + 1) cap] w (Gives (.tuple #[.agg #[.int .i64 0, .int .i64 0, .int .i64 0, .int .u64 0], .int .i64 7]) w) := by
  obtain ⟨W, hW⟩ : ∃ W, w.alloc (.cells #[.int .i64 0, .int .i64 0, .int .i64 0, .int .u64 0] 24) = W := ⟨_, rfl⟩
  have T0 : Hid (Four W w.heap.size 24 (.int .i64 0) (.int .i64 0) (.int .i64 0) (.int .u64 0)) := by rw [← hW]; exact Four.new w 24 (.int .i64 0) (.int .i64 0) (.int .i64 0) (.int .u64 0)
  have B0 : Hid (Below w.heap.size w W) := by rw [← hW]; exact below_alloc w _
  have t0 := T0.out.c0
  have t1 := T0.out.c1
  have t2 := T0.out.c2
  have t3 := T0.out.c3
  have tl := T0.out.lt
  have f0 := T0.out.free 0
  have f1 := T0.out.free 1
  have f2 := T0.out.free 2
  have f3 := T0.out.free 3
  have x0 := HX.out W B0.out
  have m0 : ((m : Int) + 1 == 0) = false := by simp; omega
  have d1 : (c != 1) = true := by simpa using h1
  go_enter Try.func15, Try.ntmps15
  go_wp2_with fail
  refine bodyPost_ret (v := .tuple #[.agg #[.int .i64 0, .int .i64 0, .int .i64 0, .int .u64 0], .int .i64 7]) (by simp [results, Try.results15, go_sem, t0, t1, t2, t3, tl]) rfl ⟨rfl, ?_⟩
  exact ((((B0.out.setCell (p := ⟨w.heap.size, 0, none⟩) (Nat.le_refl _) _).setCell (p := ⟨w.heap.size, 1, none⟩) (Nat.le_refl _) _).setCell (p := ⟨w.heap.size, 2, none⟩) (Nat.le_refl _) _).setCell (p := ⟨w.heap.size, 3, none⟩) (Nat.le_refl _) _)
set_option maxRecDepth 100000 in
set_option maxHeartbeats 8000000 in
theorem rgetq_none1 (p : Addr) (w : World) (HX : Hid (∀ W, Below w.heap.size w W → W.cell? p = some (.int .u8 1)))
    (RG : Hid (∀ W, Below w.heap.size w W → Calls Try.prog 30 #[.slice (some p) 0 0] W (GetEnd none W))) : Calls Try.prog 15 #[.slice (some p) 1 1] w (Gives (.tuple #[.agg #[.int .i64 0, .int .i64 0, .int .i64 0, .int .u64 0], .int .i64 7]) w) := by
  obtain ⟨W, hW⟩ : ∃ W, w.alloc (.cells #[.int .i64 0, .int .i64 0, .int .i64 0, .int .u64 0] 24) = W := ⟨_, rfl⟩
  have T0 : Hid (Four W w.heap.size 24 (.int .i64 0) (.int .i64 0) (.int .i64 0) (.int .u64 0)) := by rw [← hW]; exact Four.new w 24 (.int .i64 0) (.int .i64 0) (.int .i64 0) (.int .u64 0)
  have B0 : Hid (Below w.heap.size w W) := by rw [← hW]; exact below_alloc w _
  have t0 := T0.out.c0
  have t1 := T0.out.c1
  have t2 := T0.out.c2
  have t3 := T0.out.c3
  have tl := T0.out.lt
  have f0 := T0.out.free 0
  have f1 := T0.out.free 1
  have f2 := T0.out.free 2
  have f3 := T0.out.free 3
  have x0 := HX.out W B0.out
  have RG := Lib.hid (RG.out W B0.out)
  go_enter Try.func15, Try.ntmps15
  go_wp2_with (go_at_call 30; (with_reducible refine RG.out.mono ?_); rintro e w1 ⟨b9, rfl⟩; replace T0 := Lib.hid (T0.out.below b9 T0.out.lt); replace B0 := Lib.hid (below_more B0.out b9); replace t0 := T0.out.c0; replace t1 := T0.out.c1; replace t2 := T0.out.c2; replace t3 := T0.out.c3; replace tl := T0.out.lt; replace f0 := T0.out.free 0; replace f1 := T0.out.free 1; replace f2 := T0.out.free 2; replace f3 := T0.out.free 3; clear b9)
  refine bodyPost_ret (v := .tuple #[.agg #[.int .i64 0, .int .i64 0, .int .i64 0, .int .u64 0], .int .i64 7]) (by simp [results, Try.results15, go_sem, t0, t1, t2, t3, tl]) rfl ⟨rfl, ?_⟩
  exact ((((B0.out.setCell (p := ⟨w.heap.size, 0, none⟩) (Nat.le_refl _) _).setCell (p := ⟨w.heap.size, 1, none⟩) (Nat.le_refl _) _).setCell (p := ⟨w.heap.size, 2, none⟩) (Nat.le_refl _) _).setCell (p := ⟨w.heap.size, 3, none⟩) (Nat.le_refl _) _)
set_option maxRecDepth 100000 in
set_option maxHeartbeats 8000000 in
theorem rgetq_none (p : Addr) (m cap : Nat) (w : World) (hc : m + 1 ≤ cap) (hcap : 1 < cap) (hm : cap ≤ 9223372036854775807) (HX : Hid (∀ W, Below w.heap.size w W → W.cell? p = some (.int .u8 1)))
    (RG : Hid (∀ W, Below w.heap.size w W → Calls Try.prog 30 #[.slice (some ⟨p.block, p.off + 1, none⟩) m (cap - 1)] W (GetEnd none W))) : Calls Try.prog 15 #[.slice (some p) (m + 1) cap] w (Gives (.tuple #[.agg #[.int .i64 0, .int .i64 0, .int .i64 0, .int .u64 0], .int .i64 7]) w) := by
  obtain ⟨W, hW⟩ : ∃ W, w.alloc (.cells #[.int .i64 0, .int .i64 0, .int .i64 0, .int .u64 0] 24) = W := ⟨_, rfl⟩
  have T0 : Hid (Four W w.heap.size 24 (.int .i64 0) (.int .i64 0) (.int .i64 0) (.int .u64 0)) := by rw [← hW]; exact Four.new w 24 (.int .i64 0) (.int .i64 0) (.int .i64 0) (.int .u64 0)
  have B0 : Hid (Below w.heap.size w W) := by rw [← hW]; exact below_alloc w _
  have t0 := T0.out.c0
  have t1 := T0.out.c1
  have t2 := T0.out.c2
  have t3 := T0.out.c3
  have tl := T0.out.lt
  have f0 := T0.out.free 0
  have f1 := T0.out.free 1
  have f2 := T0.out.free 2
  have f3 := T0.out.free 3
  have x0 := HX.out W B0.out
  have m0 : ((m : Int) + 1 == 0) = false := by simp; omega
  have RG := Lib.hid (RG.out W B0.out)
  go_enter Try.func15, Try.ntmps15
  go_wp2_with (go_at_call 30; (with_reducible refine RG.out.mono ?_); rintro e w1 ⟨b9, rfl⟩; replace T0 := Lib.hid (T0.out.below b9 T0.out.lt); replace B0 := Lib.hid (below_more B0.out b9); replace t0 := T0.out.c0; replace t1 := T0.out.c1; replace t2 := T0.out.c2; replace t3 := T0.out.c3; replace tl := T0.out.lt; replace f0 := T0.out.free 0; replace f1 := T0.out.free 1; replace f2 := T0.out.free 2; replace f3 := T0.out.free 3; clear b9)
  refine bodyPost_ret (v := .tuple #[.agg #[.int .i64 0, .int .i64 0, .int .i64 0, .int .u64 0], .int .i64 7]) (by simp [results, Try.results15, go_sem, t0, t1, t2, t3, tl]) rfl ⟨rfl, ?_⟩
  exact ((((B0.out.setCell (p := ⟨w.heap.size, 0, none⟩) (Nat.le_refl _) _).setCell (p := ⟨w.heap.size, 1, none⟩) (Nat.le_refl _) _).setCell (p := ⟨w.heap.size, 2, none⟩) (Nat.le_refl _) _).setCell (p := ⟨w.heap.size, 3, none⟩) (Nat.le_refl _) _)
set_option maxRecDepth 100000 in
set_option maxHeartbeats 8000000 in
theorem rgetq_len (p : Addr) (m cap : Nat) (l : List Int) (hl : l.length ≠ 5) (hi : ∀ x ∈ l, -9223372036854775808 ≤ x ∧ x ≤ 9223372036854775807) (w : World) (hc : m + 1 ≤ cap) (hcap : 1 < cap) (hm : cap ≤ 9223372036854775807) (HX : Hid (∀ W, Below w.heap.size w W → W.cell? p = some (.int .u8 1)))
    (RG : Hid (∀ W, Below w.heap.size w W → Calls Try.prog 30 #[.slice (some ⟨p.block, p.off + 1, none⟩) m (cap - 1)] W (GetEnd (some l) W))) : Calls Try.prog 15 #[.slice (some p) (m + 1) cap] w (Gives (.tuple #[.agg #[.int .i64 0, .int .i64 0, .int .i64 0, .int .u64 0], .int .i64 7]) w) := by
  have HI := Lib.hid hi
  have H5 := Lib.hid hl
  clear hi hl
  obtain ⟨W, hW⟩ : ∃ W, w.alloc (.cells #[.int .i64 0, .int .i64 0, .int .i64 0, .int .u64 0] 24) = W := ⟨_, rfl⟩
  have T0 : Hid (Four W w.heap.size 24 (.int .i64 0) (.int .i64 0) (.int .i64 0) (.int .u64 0)) := by rw [← hW]; exact Four.new w 24 (.int .i64 0) (.int .i64 0) (.int .i64 0) (.int .u64 0)
  have B0 : Hid (Below w.heap.size w W) := by rw [← hW]; exact below_alloc w _
  have t0 := T0.out.c0
  have t1 := T0.out.c1
  have t2 := T0.out.c2
  have t3 := T0.out.c3
  have tl := T0.out.lt
  have f0 := T0.out.free 0
  have f1 := T0.out.free 1
  have f2 := T0.out.free 2
  have f3 := T0.out.free 3
  have x0 := HX.out W B0.out
  have m0 : ((m : Int) + 1 == 0) = false := by simp; omega
  have RG := Lib.hid (RG.out W B0.out)
  go_enter Try.func15, Try.ntmps15
  go_wp2_with (go_at_call 30; (with_reducible refine RG.out.mono ?_); rintro e w1 ⟨b9, v, rfl, ho⟩; obtain ⟨A1, n1, cap1, rfl, k1, k2, k3, k4⟩ := ho.row HI.out; have n5 : ((n1 : Int) != 5) = true := (by have := k4.1; have := H5.out; simp; omega); replace T0 := Lib.hid (T0.out.below b9 T0.out.lt); replace B0 := Lib.hid (below_more B0.out b9); replace t0 := T0.out.c0; replace t1 := T0.out.c1; replace t2 := T0.out.c2; replace t3 := T0.out.c3; replace tl := T0.out.lt; replace f0 := T0.out.free 0; replace f1 := T0.out.free 1; replace f2 := T0.out.free 2; replace f3 := T0.out.free 3; clear b9; clear k1 k2 k3 k4 ho)
  refine bodyPost_ret (v := .tuple #[.agg #[.int .i64 0, .int .i64 0, .int .i64 0, .int .u64 0], .int .i64 7]) (by simp [results, Try.results15, go_sem, t0, t1, t2, t3, tl]) rfl ⟨rfl, ?_⟩
  exact ((((B0.out.setCell (p := ⟨w.heap.size, 0, none⟩) (Nat.le_refl _) _).setCell (p := ⟨w.heap.size, 1, none⟩) (Nat.le_refl _) _).setCell (p := ⟨w.heap.size, 2, none⟩) (Nat.le_refl _) _).setCell (p := ⟨w.heap.size, 3, none⟩) (Nat.le_refl _) _)
set_option maxRecDepth 100000 in
set_option maxHeartbeats 8000000 in
theorem rgetq_half (p : Addr) (m cap : Nat) (h a r u v : Int) (hi : ∀ x ∈ [h, a, r, u, v], -9223372036854775808 ≤ x ∧ x ≤ 9223372036854775807) (w : World) (hc : m + 1 ≤ cap) (hcap : 1 < cap) (hm : cap ≤ 9223372036854775807) (HX : Hid (∀ W, Below w.heap.size w W → W.cell? p = some (.int .u8 1)))
    (RG : Hid (∀ W, Below w.heap.size w W → Calls Try.prog 30 #[.slice (some ⟨p.block, p.off + 1, none⟩) m (cap - 1)] W (GetEnd (some [h, a, r, u, v]) W))) (hno : ¬ (Half u ∧ Half v)) : Calls Try.prog 15 #[.slice (some p) (m + 1) cap] w (Gives (.tuple #[.agg #[.int .i64 0, .int .i64 0, .int .i64 0, .int .u64 0], .int .i64 7]) w) := by
  have HI := Lib.hid hi
  clear hi
  obtain ⟨W, hW⟩ : ∃ W, w.alloc (.cells #[.int .i64 0, .int .i64 0, .int .i64 0, .int .u64 0] 24) = W := ⟨_, rfl⟩
  have T0 : Hid (Four W w.heap.size 24 (.int .i64 0) (.int .i64 0) (.int .i64 0) (.int .u64 0)) := by rw [← hW]; exact Four.new w 24 (.int .i64 0) (.int .i64 0) (.int .i64 0) (.int .u64 0)
  have B0 : Hid (Below w.heap.size w W) := by rw [← hW]; exact below_alloc w _
  have t0 := T0.out.c0
  have t1 := T0.out.c1
  have t2 := T0.out.c2
  have t3 := T0.out.c3
  have tl := T0.out.lt
  have f0 := T0.out.free 0
  have f1 := T0.out.free 1
  have f2 := T0.out.free 2
  have f3 := T0.out.free 3
  have x0 := HX.out W B0.out
  have m0 : ((m : Int) + 1 == 0) = false := by simp; omega
  have RG := Lib.hid (RG.out W B0.out)
  by_cases hu : Half u
  · have hv : ¬ Half v := fun k => hno ⟨hu, k⟩
    have HU := Lib.hid (rhalf_any u true (by simp [hu]))
    have HV := Lib.hid (rhalf_any v false (by simp [hv]))
    clear hno hu hv
    go_enter Try.func15, Try.ntmps15
    go_wp2_with (first
      | (go_at_call 30; (with_reducible refine RG.out.mono ?_); rintro e w1 ⟨b9, v9, rfl, ho⟩; obtain ⟨A1, n1, cap1, rfl, k1, k2, k3, k4⟩ := ho.row HI.out; obtain rfl : n1 = 5 := k4.1.symm; obtain ⟨p1, rfl, y0, -⟩ := k4.at_ 0 (by omega); obtain ⟨_, he, y1, -⟩ := k4.at_ 1 (by omega); obtain rfl := Option.some.inj he; obtain ⟨_, he, y2, -⟩ := k4.at_ 2 (by omega); obtain rfl := Option.some.inj he; obtain ⟨_, he, y3, -⟩ := k4.at_ 3 (by omega); obtain rfl := Option.some.inj he; obtain ⟨_, he, y4, -⟩ := k4.at_ 4 (by omega); obtain rfl := Option.some.inj he; obtain ⟨_, he, hp1, -⟩ := k4.2.1 (by omega); obtain rfl := Option.some.inj he; rw [addr_add0] at y0; simp only [List.getD_cons_zero, List.getD_cons_succ] at y0 y1 y2 y3 y4; rw [paddr_add p1 0] at y1; rw [paddr_add p1 1] at y2; rw [paddr_add p1 2] at y3; rw [paddr_add p1 3] at y4; replace T0 := Lib.hid (T0.out.below b9 T0.out.lt); replace B0 := Lib.hid (below_more B0.out b9); replace t0 := T0.out.c0; replace t1 := T0.out.c1; replace t2 := T0.out.c2; replace t3 := T0.out.c3; replace tl := T0.out.lt; replace f0 := T0.out.free 0; replace f1 := T0.out.free 1; replace f2 := T0.out.free 2; replace f3 := T0.out.free 3; clear b9; clear k1 k2 k3 k4 ho he)
      | (go_at_call 31; (with_reducible refine (HU.out _).mono ?_); rintro e w' ⟨rfl, rfl⟩; clear HU)
      | (go_at_call 31; (with_reducible refine (HV.out _).mono ?_); rintro e w' ⟨rfl, rfl⟩; clear HV))
    refine bodyPost_ret (v := .tuple #[.agg #[.int .i64 0, .int .i64 0, .int .i64 0, .int .u64 0], .int .i64 7]) (by simp [results, Try.results15, go_sem, t0, t1, t2, t3, tl]) rfl ⟨rfl, ?_⟩
    exact ((((B0.out.setCell (p := ⟨w.heap.size, 0, none⟩) (Nat.le_refl _) _).setCell (p := ⟨w.heap.size, 1, none⟩) (Nat.le_refl _) _).setCell (p := ⟨w.heap.size, 2, none⟩) (Nat.le_refl _) _).setCell (p := ⟨w.heap.size, 3, none⟩) (Nat.le_refl _) _)
  · have HU := Lib.hid (rhalf_any u false (by simp [hu]))
    have HV := Lib.hid (fun w => rhalf_any v (decide (Half v)) (by simp) w)
    clear hno hu
    generalize decide (Half v) = bv at HV
    cases bv
    all_goals
      go_enter Try.func15, Try.ntmps15
      go_wp2_with (first
        | (go_at_call 30; (with_reducible refine RG.out.mono ?_); rintro e w1 ⟨b9, v9, rfl, ho⟩; obtain ⟨A1, n1, cap1, rfl, k1, k2, k3, k4⟩ := ho.row HI.out; obtain rfl : n1 = 5 := k4.1.symm; obtain ⟨p1, rfl, y0, -⟩ := k4.at_ 0 (by omega); obtain ⟨_, he, y1, -⟩ := k4.at_ 1 (by omega); obtain rfl := Option.some.inj he; obtain ⟨_, he, y2, -⟩ := k4.at_ 2 (by omega); obtain rfl := Option.some.inj he; obtain ⟨_, he, y3, -⟩ := k4.at_ 3 (by omega); obtain rfl := Option.some.inj he; obtain ⟨_, he, y4, -⟩ := k4.at_ 4 (by omega); obtain rfl := Option.some.inj he; obtain ⟨_, he, hp1, -⟩ := k4.2.1 (by omega); obtain rfl := Option.some.inj he; rw [addr_add0] at y0; simp only [List.getD_cons_zero, List.getD_cons_succ] at y0 y1 y2 y3 y4; rw [paddr_add p1 0] at y1; rw [paddr_add p1 1] at y2; rw [paddr_add p1 2] at y3; rw [paddr_add p1 3] at y4; replace T0 := Lib.hid (T0.out.below b9 T0.out.lt); replace B0 := Lib.hid (below_more B0.out b9); replace t0 := T0.out.c0; replace t1 := T0.out.c1; replace t2 := T0.out.c2; replace t3 := T0.out.c3; replace tl := T0.out.lt; replace f0 := T0.out.free 0; replace f1 := T0.out.free 1; replace f2 := T0.out.free 2; replace f3 := T0.out.free 3; clear b9; clear k1 k2 k3 k4 ho he)
        | (go_at_call 31; (with_reducible refine (HU.out _).mono ?_); rintro e w' ⟨rfl, rfl⟩; clear HU)
        | (go_at_call 31; (with_reducible refine (HV.out _).mono ?_); rintro e w' ⟨rfl, rfl⟩; clear HV))
      refine bodyPost_ret (v := .tuple #[.agg #[.int .i64 0, .int .i64 0, .int .i64 0, .int .u64 0], .int .i64 7]) (by simp [results, Try.results15, go_sem, t0, t1, t2, t3, tl]) rfl ⟨rfl, ?_⟩
      exact ((((B0.out.setCell (p := ⟨w.heap.size, 0, none⟩) (Nat.le_refl _) _).setCell (p := ⟨w.heap.size, 1, none⟩) (Nat.le_refl _) _).setCell (p := ⟨w.heap.size, 2, none⟩) (Nat.le_refl _) _).setCell (p := ⟨w.heap.size, 3, none⟩) (Nat.le_refl _) _)
set_option maxRecDepth 100000 in
set_option maxHeartbeats 8000000 in
theorem rgetq_no (p : Addr) (m cap : Nat) (h a r u v : Int) (hi : ∀ x ∈ [h, a, r, u, v], -9223372036854775808 ≤ x ∧ x ≤ 9223372036854775807) (w : World) (hc : m + 1 ≤ cap) (hcap : 1 < cap) (hm : cap ≤ 9223372036854775807) (HX : Hid (∀ W, Below w.heap.size w W → W.cell? p = some (.int .u8 1)))
    (RG : Hid (∀ W, Below w.heap.size w W → Calls Try.prog 30 #[.slice (some ⟨p.block, p.off + 1, none⟩) m (cap - 1)] W (GetEnd (some [h, a, r, u, v]) W))) (hu : Half u) (hv : Half v) (n : Int) (hn : u * 4294967296 + v = n) (hq : ¬ RqOk h a r) : Calls Try.prog 15 #[.slice (some p) (m + 1) cap] w (Gives (.tuple #[.agg #[.int .i64 0, .int .i64 0, .int .i64 0, .int .u64 0], .int .i64 7]) w) := by
  have HI := Lib.hid hi
  clear hi
  obtain ⟨W, hW⟩ : ∃ W, w.alloc (.cells #[.int .i64 0, .int .i64 0, .int .i64 0, .int .u64 0] 24) = W := ⟨_, rfl⟩
  have T0 : Hid (Four W w.heap.size 24 (.int .i64 0) (.int .i64 0) (.int .i64 0) (.int .u64 0)) := by rw [← hW]; exact Four.new w 24 (.int .i64 0) (.int .i64 0) (.int .i64 0) (.int .u64 0)
  have B0 : Hid (Below w.heap.size w W) := by rw [← hW]; exact below_alloc w _
  have t0 := T0.out.c0
  have t1 := T0.out.c1
  have t2 := T0.out.c2
  have t3 := T0.out.c3
  have tl := T0.out.lt
  have f0 := T0.out.free 0
  have f1 := T0.out.free 1
  have f2 := T0.out.free 2
  have f3 := T0.out.free 3
  have x0 := HX.out W B0.out
  have m0 : ((m : Int) + 1 == 0) = false := by simp; omega
  have RG := Lib.hid (RG.out W B0.out)
  have HU := Lib.hid (rhalf_any u true (by simp [hu]))
  have HV := Lib.hid (rhalf_any v true (by simp [hv]))
  have RQ := Lib.hid (rreq_any ⟨h, a, r, n⟩ false (by simp [Rq.Ok, hq]))
  unfold rqV at RQ
  dsimp only at RQ
  clear hq
  obtain ⟨u1, u2⟩ := hu
  obtain ⟨v1, v2⟩ := hv
  have e1 : IntKind.u64.wrap u = u := IntWalk.u64_in _ ⟨u1, by omega⟩
  have e2 : IntKind.u64.wrap v = v := IntWalk.u64_in _ ⟨v1, by omega⟩
  have e3 : IntKind.u64.wrap (u * 4294967296) = u * 4294967296 := IntWalk.u64_in _ ⟨by omega, by omega⟩
  have e4 : IntKind.u64.wrap n = n := by rw [← hn]; exact IntWalk.u64_in _ ⟨by omega, by omega⟩
  go_enter Try.func15, Try.ntmps15
  go_wp2_with (first
    | (go_at_call 30; (with_reducible refine RG.out.mono ?_); rintro e w1 ⟨b9, v9, rfl, ho⟩; obtain ⟨A1, n1, cap1, rfl, k1, k2, k3, k4⟩ := ho.row HI.out; obtain rfl : n1 = 5 := k4.1.symm; obtain ⟨p1, rfl, y0, -⟩ := k4.at_ 0 (by omega); obtain ⟨_, he, y1, -⟩ := k4.at_ 1 (by omega); obtain rfl := Option.some.inj he; obtain ⟨_, he, y2, -⟩ := k4.at_ 2 (by omega); obtain rfl := Option.some.inj he; obtain ⟨_, he, y3, -⟩ := k4.at_ 3 (by omega); obtain rfl := Option.some.inj he; obtain ⟨_, he, y4, -⟩ := k4.at_ 4 (by omega); obtain rfl := Option.some.inj he; obtain ⟨_, he, hp1, -⟩ := k4.2.1 (by omega); obtain rfl := Option.some.inj he; rw [addr_add0] at y0; simp only [List.getD_cons_zero, List.getD_cons_succ] at y0 y1 y2 y3 y4; rw [paddr_add p1 0] at y1; rw [paddr_add p1 1] at y2; rw [paddr_add p1 2] at y3; rw [paddr_add p1 3] at y4; replace T0 := Lib.hid (T0.out.below b9 T0.out.lt); replace B0 := Lib.hid (below_more B0.out b9); replace t0 := T0.out.c0; replace t1 := T0.out.c1; replace t2 := T0.out.c2; replace t3 := T0.out.c3; replace tl := T0.out.lt; replace f0 := T0.out.free 0; replace f1 := T0.out.free 1; replace f2 := T0.out.free 2; replace f3 := T0.out.free 3; clear b9; clear k1 k2 k3 k4 ho he)
    | (go_at_call 31; (with_reducible refine (HU.out _).mono ?_); rintro e w' ⟨rfl, rfl⟩; clear HU)
    | (go_at_call 31; (with_reducible refine (HV.out _).mono ?_); rintro e w' ⟨rfl, rfl⟩; clear HV))
  clear HX RG HI hW
  go_region_held3 (fun w' => w'.cell? p1 = some (.int .i64 h) ∧ w'.cell? ⟨p1.block, p1.off + 1, none⟩ = some (.int .i64 a) ∧ w'.cell? ⟨p1.block, p1.off + 2, none⟩ = some (.int .i64 r) ∧ w'.cell? ⟨p1.block, p1.off + 3, none⟩ = some (.int .i64 u) ∧ w'.cell? ⟨p1.block, p1.off + 4, none⟩ = some (.int .i64 v)) (go_keep) (fail)
  try rw [e4]
  clear y0 y1 y2 y3 y4 e1 e2 e3 e4 hn u1 u2 v1 v2
  have X0 := Lib.hid ((Four.new w1 24 (.int .i64 h) (.int .i64 a) (.int .i64 r) (.int .u64 n)).below ((Drew.one _).below (w1.heap.size + 1)) (Nat.lt_succ_self _))
  replace T0 := Lib.hid ((T0.out.alloc (.cells #[.int .i64 h, .int .i64 a, .int .i64 r, .int .u64 n] 24)).below ((Drew.one _).below w1.heap.size) T0.out.lt)
  replace B0 := Lib.hid ((B0.out.alloc B0.out.size (.cells #[.int .i64 h, .int .i64 a, .int .i64 r, .int .u64 n] 24)).drew)
  replace t0 := T0.out.c0
  replace t1 := T0.out.c1
  replace t2 := T0.out.c2
  replace t3 := T0.out.c3
  replace tl := T0.out.lt
  replace f0 := T0.out.free 0
  replace f1 := T0.out.free 1
  replace f2 := T0.out.free 2
  replace f3 := T0.out.free 3
  have x0 := X0.out.c0
  have x1 := X0.out.c1
  have x2 := X0.out.c2
  have x3 := X0.out.c3
  have xl := X0.out.lt
  obtain ⟨W2, hW2⟩ : ∃ W2, (w1.alloc (.cells #[.int .i64 h, .int .i64 a, .int .i64 r, .int .u64 n] 24)).drew = W2 := ⟨_, rfl⟩
  rw [hW2] at X0 T0 B0 t0 t1 t2 t3 tl f0 f1 f2 f3 x0 x1 x2 x3 xl ⊢
  go_wp2_with (go_at_call 20; (with_reducible refine (RQ.out _).mono ?_); rintro e w9 ⟨rfl, b9⟩; replace X0 := Lib.hid (X0.out.below b9 X0.out.lt); replace T0 := Lib.hid (T0.out.below b9 T0.out.lt); replace B0 := Lib.hid (below_more B0.out b9); replace t0 := T0.out.c0; replace t1 := T0.out.c1; replace t2 := T0.out.c2; replace t3 := T0.out.c3; replace tl := T0.out.lt; replace f0 := T0.out.free 0; replace f1 := T0.out.free 1; replace f2 := T0.out.free 2; replace f3 := T0.out.free 3; clear b9; replace x0 := X0.out.c0; replace x1 := X0.out.c1; replace x2 := X0.out.c2; replace x3 := X0.out.c3; replace xl := X0.out.lt; clear RQ)
  refine bodyPost_ret (v := .tuple #[.agg #[.int .i64 0, .int .i64 0, .int .i64 0, .int .u64 0], .int .i64 7]) (by simp [results, Try.results15, go_sem, t0, t1, t2, t3, tl]) rfl ⟨rfl, ?_⟩
  exact ((((B0.out.setCell (p := ⟨w.heap.size, 0, none⟩) (Nat.le_refl _) _).setCell (p := ⟨w.heap.size, 1, none⟩) (Nat.le_refl _) _).setCell (p := ⟨w.heap.size, 2, none⟩) (Nat.le_refl _) _).setCell (p := ⟨w.heap.size, 3, none⟩) (Nat.le_refl _) _)
set_option maxRecDepth 100000 in
set_option maxHeartbeats 8000000 in
theorem rgetq_good (p : Addr) (m cap : Nat) (h a r u v : Int) (hi : ∀ x ∈ [h, a, r, u, v], -9223372036854775808 ≤ x ∧ x ≤ 9223372036854775807) (w : World) (hc : m + 1 ≤ cap) (hcap : 1 < cap) (hm : cap ≤ 9223372036854775807) (HX : Hid (∀ W, Below w.heap.size w W → W.cell? p = some (.int .u8 1)))
    (RG : Hid (∀ W, Below w.heap.size w W → Calls Try.prog 30 #[.slice (some ⟨p.block, p.off + 1, none⟩) m (cap - 1)] W (GetEnd (some [h, a, r, u, v]) W))) (hu : Half u) (hv : Half v) (n : Int) (hn : u * 4294967296 + v = n) (hq : RqOk h a r) : Calls Try.prog 15 #[.slice (some p) (m + 1) cap] w (Gives (.tuple #[.agg #[.int .i64 h, .int .i64 a, .int .i64 r, .int .u64 n], .int .i64 0]) w) := by
  have HI := Lib.hid hi
  clear hi
  obtain ⟨W, hW⟩ : ∃ W, w.alloc (.cells #[.int .i64 0, .int .i64 0, .int .i64 0, .int .u64 0] 24) = W := ⟨_, rfl⟩
  have T0 : Hid (Four W w.heap.size 24 (.int .i64 0) (.int .i64 0) (.int .i64 0) (.int .u64 0)) := by rw [← hW]; exact Four.new w 24 (.int .i64 0) (.int .i64 0) (.int .i64 0) (.int .u64 0)
  have B0 : Hid (Below w.heap.size w W) := by rw [← hW]; exact below_alloc w _
  have t0 := T0.out.c0
  have t1 := T0.out.c1
  have t2 := T0.out.c2
  have t3 := T0.out.c3
  have tl := T0.out.lt
  have f0 := T0.out.free 0
  have f1 := T0.out.free 1
  have f2 := T0.out.free 2
  have f3 := T0.out.free 3
  have x0 := HX.out W B0.out
  have m0 : ((m : Int) + 1 == 0) = false := by simp; omega
  have RG := Lib.hid (RG.out W B0.out)
  have HU := Lib.hid (rhalf_any u true (by simp [hu]))
  have HV := Lib.hid (rhalf_any v true (by simp [hv]))
  have RQ := Lib.hid (rreq_any ⟨h, a, r, n⟩ true (by simp [Rq.Ok, hq]))
  unfold rqV at RQ
  dsimp only at RQ
  clear hq
  obtain ⟨u1, u2⟩ := hu
  obtain ⟨v1, v2⟩ := hv
  have e1 : IntKind.u64.wrap u = u := IntWalk.u64_in _ ⟨u1, by omega⟩
  have e2 : IntKind.u64.wrap v = v := IntWalk.u64_in _ ⟨v1, by omega⟩
  have e3 : IntKind.u64.wrap (u * 4294967296) = u * 4294967296 := IntWalk.u64_in _ ⟨by omega, by omega⟩
  have e4 : IntKind.u64.wrap n = n := by rw [← hn]; exact IntWalk.u64_in _ ⟨by omega, by omega⟩
  go_enter Try.func15, Try.ntmps15
  go_wp2_with (first
    | (go_at_call 30; (with_reducible refine RG.out.mono ?_); rintro e w1 ⟨b9, v9, rfl, ho⟩; obtain ⟨A1, n1, cap1, rfl, k1, k2, k3, k4⟩ := ho.row HI.out; obtain rfl : n1 = 5 := k4.1.symm; obtain ⟨p1, rfl, y0, -⟩ := k4.at_ 0 (by omega); obtain ⟨_, he, y1, -⟩ := k4.at_ 1 (by omega); obtain rfl := Option.some.inj he; obtain ⟨_, he, y2, -⟩ := k4.at_ 2 (by omega); obtain rfl := Option.some.inj he; obtain ⟨_, he, y3, -⟩ := k4.at_ 3 (by omega); obtain rfl := Option.some.inj he; obtain ⟨_, he, y4, -⟩ := k4.at_ 4 (by omega); obtain rfl := Option.some.inj he; obtain ⟨_, he, hp1, -⟩ := k4.2.1 (by omega); obtain rfl := Option.some.inj he; rw [addr_add0] at y0; simp only [List.getD_cons_zero, List.getD_cons_succ] at y0 y1 y2 y3 y4; rw [paddr_add p1 0] at y1; rw [paddr_add p1 1] at y2; rw [paddr_add p1 2] at y3; rw [paddr_add p1 3] at y4; replace T0 := Lib.hid (T0.out.below b9 T0.out.lt); replace B0 := Lib.hid (below_more B0.out b9); replace t0 := T0.out.c0; replace t1 := T0.out.c1; replace t2 := T0.out.c2; replace t3 := T0.out.c3; replace tl := T0.out.lt; replace f0 := T0.out.free 0; replace f1 := T0.out.free 1; replace f2 := T0.out.free 2; replace f3 := T0.out.free 3; clear b9; clear k1 k2 k3 k4 ho he)
    | (go_at_call 31; (with_reducible refine (HU.out _).mono ?_); rintro e w' ⟨rfl, rfl⟩; clear HU)
    | (go_at_call 31; (with_reducible refine (HV.out _).mono ?_); rintro e w' ⟨rfl, rfl⟩; clear HV))
  clear HX RG HI hW
  go_region_held3 (fun w' => w'.cell? p1 = some (.int .i64 h) ∧ w'.cell? ⟨p1.block, p1.off + 1, none⟩ = some (.int .i64 a) ∧ w'.cell? ⟨p1.block, p1.off + 2, none⟩ = some (.int .i64 r) ∧ w'.cell? ⟨p1.block, p1.off + 3, none⟩ = some (.int .i64 u) ∧ w'.cell? ⟨p1.block, p1.off + 4, none⟩ = some (.int .i64 v)) (go_keep) (fail)
  try rw [e4]
  clear y0 y1 y2 y3 y4 e1 e2 e3 e4 hn u1 u2 v1 v2
  have X0 := Lib.hid ((Four.new w1 24 (.int .i64 h) (.int .i64 a) (.int .i64 r) (.int .u64 n)).below ((Drew.one _).below (w1.heap.size + 1)) (Nat.lt_succ_self _))
  replace T0 := Lib.hid ((T0.out.alloc (.cells #[.int .i64 h, .int .i64 a, .int .i64 r, .int .u64 n] 24)).below ((Drew.one _).below w1.heap.size) T0.out.lt)
  replace B0 := Lib.hid ((B0.out.alloc B0.out.size (.cells #[.int .i64 h, .int .i64 a, .int .i64 r, .int .u64 n] 24)).drew)
  replace t0 := T0.out.c0
  replace t1 := T0.out.c1
  replace t2 := T0.out.c2
  replace t3 := T0.out.c3
  replace tl := T0.out.lt
  replace f0 := T0.out.free 0
  replace f1 := T0.out.free 1
  replace f2 := T0.out.free 2
  replace f3 := T0.out.free 3
  have x0 := X0.out.c0
  have x1 := X0.out.c1
  have x2 := X0.out.c2
  have x3 := X0.out.c3
  have xl := X0.out.lt
  obtain ⟨W2, hW2⟩ : ∃ W2, (w1.alloc (.cells #[.int .i64 h, .int .i64 a, .int .i64 r, .int .u64 n] 24)).drew = W2 := ⟨_, rfl⟩
  rw [hW2] at X0 T0 B0 t0 t1 t2 t3 tl f0 f1 f2 f3 x0 x1 x2 x3 xl ⊢
  go_wp2_with (go_at_call 20; (with_reducible refine (RQ.out _).mono ?_); rintro e w9 ⟨rfl, b9⟩; replace X0 := Lib.hid (X0.out.below b9 X0.out.lt); replace T0 := Lib.hid (T0.out.below b9 T0.out.lt); replace B0 := Lib.hid (below_more B0.out b9); replace t0 := T0.out.c0; replace t1 := T0.out.c1; replace t2 := T0.out.c2; replace t3 := T0.out.c3; replace tl := T0.out.lt; replace f0 := T0.out.free 0; replace f1 := T0.out.free 1; replace f2 := T0.out.free 2; replace f3 := T0.out.free 3; clear b9; replace x0 := X0.out.c0; replace x1 := X0.out.c1; replace x2 := X0.out.c2; replace x3 := X0.out.c3; replace xl := X0.out.lt; clear RQ)
  refine bodyPost_ret (v := .tuple #[.agg #[.int .i64 h, .int .i64 a, .int .i64 r, .int .u64 n], .int .i64 0]) (by simp [results, Try.results15, go_sem, t0, t1, t2, t3, tl]) rfl ⟨rfl, ?_⟩
  exact ((((B0.out.setCell (p := ⟨w.heap.size, 0, none⟩) (Nat.le_refl _) _).setCell (p := ⟨w.heap.size, 1, none⟩) (Nat.le_refl _) _).setCell (p := ⟨w.heap.size, 2, none⟩) (Nat.le_refl _) _).setCell (p := ⟨w.heap.size, 3, none⟩) (Nat.le_refl _) _)
theorem rgetq_any (A : Option Addr) (n cap : Nat) (bs : List UInt8) (hn : n ≤ 100000) (hc : n ≤ cap) (hm : cap ≤ 9223372036854775807) (w : World) (hr : Row8 w.heap.size w A n bs) :
    Calls Try.prog 15 #[.slice A n cap] w (Gives (.tuple #[rqV ((getQ bs).getD Rq.nil), .int .i64 (if (getQ bs).isSome then 0 else 7)]) w) := by
  match bs, hr with
  | [], hr =>
    obtain rfl : n = 0 := by simpa using hr.1.symm
    exact rgetq_short A cap w
  | c :: b, hr =>
    obtain ⟨m, rfl⟩ : ∃ m, n = m + 1 := ⟨b.length, by simpa using hr.1.symm⟩
    obtain ⟨p, rfl, hp, -⟩ := hr.2 (by omega)
    have HX : Hid (∀ W, Below w.heap.size w W → W.cell? p = some (.int .u8 ((c.toNat : Nat) : Int))) := fun W hb => by
      obtain ⟨p', e, -, hx⟩ := (hr.step hb).2 (by omega)
      obtain rfl := Option.some.inj e
      have x0 := hx 0 (by omega)
      rw [addr_add0] at x0
      exact x0
    rw [getQ_at]
    by_cases h1 : c = 1
    · subst h1
      rw [if_pos rfl]
      have hbm : b.length = m := by simpa using hr.1
      have RG : ∀ (q : Addr) (capx : Nat), (q = p.add 1 ∨ m = 0) → Hid (∀ W, Below w.heap.size w W → Calls Try.prog 30 #[.slice (some q) m capx] W (GetEnd (getR b) W)) := fun q capx hq W hb => by
        have k := RowV.cut (q := q) (k := m) (at_ := 1) (hr.step hb) (by omega) hq
        rw [show ((1 :: b : List UInt8).drop 1).take m = b by rw [List.drop_succ_cons, List.drop_zero, ← hbm, List.take_length]] at k
        exact rget_any (some q) m capx b W k (by omega)
      cases hg : getR b with
      | none =>
        rw [hg] at RG
        by_cases cc : cap = 1
        · subst cc
          obtain rfl : m = 0 := by omega
          exact rgetq_none1 p w HX (RG p 0 (.inr rfl))
        · exact rgetq_none p m cap w hc (by omega) hm HX (RG ⟨p.block, p.off + 1, none⟩ (cap - 1) (.inl (addr_add1 p)))
      | some l =>
        have hcap : 1 < cap := by
          cases b with
          | nil => exact absurd (hg.symm.trans (show getR [] = none from rfl)) (by simp)
          | cons x y => simp at hbm; omega
        obtain ⟨hl1, hl2⟩ := getR_in hg
        rw [hg] at RG
        have RG1 := RG ⟨p.block, p.off + 1, none⟩ (cap - 1) (.inl (addr_add1 p))
        show Calls _ _ _ w (Gives (.tuple #[rqV ((ofQ l).getD Rq.nil), .int .i64 (if (ofQ l).isSome then 0 else 7)]) w)
        by_cases h5 : l.length = 5
        · match l, h5 with
          | [h, a, r, u, v], _ =>
            rw [ofQ_at]
            by_cases hh : Half u ∧ Half v
            · by_cases hq : RqOk h a r
              · rw [if_pos ⟨hh.1, hh.2, hq⟩]
                exact rgetq_good p m cap h a r u v hl2 w hc hcap hm HX RG1 hh.1 hh.2 _ rfl hq
              · rw [if_neg (fun z => hq z.2.2)]
                exact rgetq_no p m cap h a r u v hl2 w hc hcap hm HX RG1 hh.1 hh.2 _ rfl hq
            · rw [if_neg (fun z => hh ⟨z.1, z.2.1⟩)]
              exact rgetq_half p m cap h a r u v hl2 w hc hcap hm HX RG1 hh
        · rw [ofQ_len h5]
          exact rgetq_len p m cap l h5 hl2 w hc hcap hm HX RG1
    · rw [if_neg h1]
      have hlt := c.toNat_lt
      exact rgetq_kind p m cap (c.toNat : Nat) w hc hm (by omega) (by omega) (fun z => h1 (UInt8.toNat_inj.1 (by simpa using (by omega : c.toNat = 1)))) HX
end Go.Proofs.Ytmfbnajaocaikaa
