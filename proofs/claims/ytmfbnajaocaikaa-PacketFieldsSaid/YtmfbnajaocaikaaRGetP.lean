/- Layer 11: the reference's GetReply, path by path (gen/gen_get.py writes this). -/
import Derived.Deep.RegionHeld3
import Derived.Test.YtmfbnajaocaikaaRGetQ
namespace Go.Proofs.Ytmfbnajaocaikaa
open Go.RowKit Go.Sort Go
set_option linter.unusedVariables false
set_option linter.unusedSimpArgs false

theorem ofP_len {l : List Int} (h : l.length ≠ 11) : ofP l = none := by
  unfold ofP
  split
  · exact absurd rfl h
  · rfl
set_option maxRecDepth 100000 in
set_option maxHeartbeats 8000000 in
theorem rgetp_short (A : Option Addr) (cap : Nat) (w : World) : Calls Try.prog 19 #[.slice A 0 cap] w (Gives (.tuple #[.agg #[.int .i64 0, .int .i64 0, .int .i64 0, .int .u64 0, .int .i64 0, .int .i64 0, .int .i64 0, .int .i64 0, .int .i64 0, .int .i64 0], .int .i64 7]) w) := by
  obtain ⟨W, hW⟩ : ∃ W, w.alloc (.cells #[.int .i64 0, .int .i64 0, .int .i64 0, .int .u64 0, .int .i64 0, .int .i64 0, .int .i64 0, .int .i64 0, .int .i64 0, .int .i64 0] 30) = W := ⟨_, rfl⟩
  have T0 : Hid (Cells W w.heap.size 30 #[.int .i64 0, .int .i64 0, .int .i64 0, .int .u64 0, .int .i64 0, .int .i64 0, .int .i64 0, .int .i64 0, .int .i64 0, .int .i64 0]) := by rw [← hW]; exact Cells.new w 30 #[.int .i64 0, .int .i64 0, .int .i64 0, .int .u64 0, .int .i64 0, .int .i64 0, .int .i64 0, .int .i64 0, .int .i64 0, .int .i64 0]
  have B0 : Hid (Below w.heap.size w W) := by rw [← hW]; exact below_alloc w _
  have t0 := T0.out.c 0 rfl
  have t1 := T0.out.c 1 rfl
  have t2 := T0.out.c 2 rfl
  have t3 := T0.out.c 3 rfl
  have t4 := T0.out.c 4 rfl
  have t5 := T0.out.c 5 rfl
  have t6 := T0.out.c 6 rfl
  have t7 := T0.out.c 7 rfl
  have t8 := T0.out.c 8 rfl
  have t9 := T0.out.c 9 rfl
  have tl := T0.out.lt
  have f0 := T0.out.free 0
  have f1 := T0.out.free 1
  have f2 := T0.out.free 2
  have f3 := T0.out.free 3
  have f4 := T0.out.free 4
  have f5 := T0.out.free 5
  have f6 := T0.out.free 6
  have f7 := T0.out.free 7
  have f8 := T0.out.free 8
  have f9 := T0.out.free 9
  go_enter Try.func19, Try.ntmps19
  go_wp2_with fail
  refine bodyPost_ret (v := .tuple #[.agg #[.int .i64 0, .int .i64 0, .int .i64 0, .int .u64 0, .int .i64 0, .int .i64 0, .int .i64 0, .int .i64 0, .int .i64 0, .int .i64 0], .int .i64 7]) (by simp [results, Try.results19, go_sem, t0, t1, t2, t3, t4, t5, t6, t7, t8, t9, tl]) rfl ⟨rfl, ?_⟩
  exact ((((((((((B0.out.setCell (p := ⟨w.heap.size, 0, none⟩) (Nat.le_refl _) _).setCell (p := ⟨w.heap.size, 1, none⟩) (Nat.le_refl _) _).setCell (p := ⟨w.heap.size, 2, none⟩) (Nat.le_refl _) _).setCell (p := ⟨w.heap.size, 3, none⟩) (Nat.le_refl _) _).setCell (p := ⟨w.heap.size, 4, none⟩) (Nat.le_refl _) _).setCell (p := ⟨w.heap.size, 5, none⟩) (Nat.le_refl _) _).setCell (p := ⟨w.heap.size, 6, none⟩) (Nat.le_refl _) _).setCell (p := ⟨w.heap.size, 7, none⟩) (Nat.le_refl _) _).setCell (p := ⟨w.heap.size, 8, none⟩) (Nat.le_refl _) _).setCell (p := ⟨w.heap.size, 9, none⟩) (Nat.le_refl _) _)
set_option maxRecDepth 100000 in
set_option maxHeartbeats 8000000 in
theorem rgetp_kind (p : Addr) (m cap : Nat) (c : Int) (w : World) (hc : m + 1 ≤ cap) (hm : cap ≤ 9223372036854775807) (c0 : 0 ≤ c) (c1 : c ≤ 255) (h1 : c ≠ 2)
    (HX : Hid (∀ W, Below w.heap.size w W → W.cell? p = some (.int .u8 c))) : Calls Try.prog 19 #[.slice (some p) (m + 1) cap] w (Gives (.tuple #[.agg #[.int .i64 0, .int .i64 0, .int .i64 0, .int .u64 0, .int .i64 0, .int .i64 0, .int .i64 0, .int .i64 0, .int .i64 0, .int .i64 0], .int .i64 7]) w) := by
  obtain ⟨W, hW⟩ : ∃ W, w.alloc (.cells #[.int .i64 0, .int .i64 0, .int .i64 0, .int .u64 0, .int .i64 0, .int .i64 0, .int .i64 0, .int .i64 0, .int .i64 0, .int .i64 0] 30) = W := ⟨_, rfl⟩
  have T0 : Hid (Cells W w.heap.size 30 #[.int .i64 0, .int .i64 0, .int .i64 0, .int .u64 0, .int .i64 0, .int .i64 0, .int .i64 0, .int .i64 0, .int .i64 0, .int .i64 0]) := by rw [← hW]; exact Cells.new w 30 #[.int .i64 0, .int .i64 0, .int .i64 0, .int .u64 0, .int .i64 0, .int .i64 0, .int .i64 0, .int .i64 0, .int .i64 0, .int .i64 0]
  have B0 : Hid (Below w.heap.size w W) := by rw [← hW]; exact below_alloc w _
  have t0 := T0.out.c 0 rfl
  have t1 := T0.out.c 1 rfl
  have t2 := T0.out.c 2 rfl
  have t3 := T0.out.c 3 rfl
  have t4 := T0.out.c 4 rfl
  have t5 := T0.out.c 5 rfl
  have t6 := T0.out.c 6 rfl
  have t7 := T0.out.c 7 rfl
  have t8 := T0.out.c 8 rfl
  have t9 := T0.out.c 9 rfl
  have tl := T0.out.lt
  have f0 := T0.out.free 0
  have f1 := T0.out.free 1
  have f2 := T0.out.free 2
  have f3 := T0.out.free 3
  have f4 := T0.out.free 4
  have f5 := T0.out.free 5
  have f6 := T0.out.free 6
  have f7 := T0.out.free 7
  have f8 := T0.out.free 8
  have f9 := T0.out.free 9
  have x0 := HX.out W B0.out
  have m0 : ((m : Int) + 1 == 0) = false := by simp; omega
  have d1 : (c != 2) = true := by simpa using h1
  go_enter Try.func19, Try.ntmps19
  go_wp2_with fail
  refine bodyPost_ret (v := .tuple #[.agg #[.int .i64 0, .int .i64 0, .int .i64 0, .int .u64 0, .int .i64 0, .int .i64 0, .int .i64 0, .int .i64 0, .int .i64 0, .int .i64 0], .int .i64 7]) (by simp [results, Try.results19, go_sem, t0, t1, t2, t3, t4, t5, t6, t7, t8, t9, tl]) rfl ⟨rfl, ?_⟩
  exact ((((((((((B0.out.setCell (p := ⟨w.heap.size, 0, none⟩) (Nat.le_refl _) _).setCell (p := ⟨w.heap.size, 1, none⟩) (Nat.le_refl _) _).setCell (p := ⟨w.heap.size, 2, none⟩) (Nat.le_refl _) _).setCell (p := ⟨w.heap.size, 3, none⟩) (Nat.le_refl _) _).setCell (p := ⟨w.heap.size, 4, none⟩) (Nat.le_refl _) _).setCell (p := ⟨w.heap.size, 5, none⟩) (Nat.le_refl _) _).setCell (p := ⟨w.heap.size, 6, none⟩) (Nat.le_refl _) _).setCell (p := ⟨w.heap.size, 7, none⟩) (Nat.le_refl _) _).setCell (p := ⟨w.heap.size, 8, none⟩) (Nat.le_refl _) _).setCell (p := ⟨w.heap.size, 9, none⟩) (Nat.le_refl _) _)
set_option maxRecDepth 100000 in
set_option maxHeartbeats 8000000 in
theorem rgetp_none1 (p : Addr) (w : World) (HX : Hid (∀ W, Below w.heap.size w W → W.cell? p = some (.int .u8 2)))
    (RG : Hid (∀ W, Below w.heap.size w W → Calls Try.prog 30 #[.slice (some p) 0 0] W (GetEnd none W))) : Calls Try.prog 19 #[.slice (some p) 1 1] w (Gives (.tuple #[.agg #[.int .i64 0, .int .i64 0, .int .i64 0, .int .u64 0, .int .i64 0, .int .i64 0, .int .i64 0, .int .i64 0, .int .i64 0, .int .i64 0], .int .i64 7]) w) := by
  obtain ⟨W, hW⟩ : ∃ W, w.alloc (.cells #[.int .i64 0, .int .i64 0, .int .i64 0, .int .u64 0, .int .i64 0, .int .i64 0, .int .i64 0, .int .i64 0, .int .i64 0, .int .i64 0] 30) = W := ⟨_, rfl⟩
  have T0 : Hid (Cells W w.heap.size 30 #[.int .i64 0, .int .i64 0, .int .i64 0, .int .u64 0, .int .i64 0, .int .i64 0, .int .i64 0, .int .i64 0, .int .i64 0, .int .i64 0]) := by rw [← hW]; exact Cells.new w 30 #[.int .i64 0, .int .i64 0, .int .i64 0, .int .u64 0, .int .i64 0, .int .i64 0, .int .i64 0, .int .i64 0, .int .i64 0, .int .i64 0]
  have B0 : Hid (Below w.heap.size w W) := by rw [← hW]; exact below_alloc w _
  have t0 := T0.out.c 0 rfl
  have t1 := T0.out.c 1 rfl
  have t2 := T0.out.c 2 rfl
  have t3 := T0.out.c 3 rfl
  have t4 := T0.out.c 4 rfl
  have t5 := T0.out.c 5 rfl
  have t6 := T0.out.c 6 rfl
  have t7 := T0.out.c 7 rfl
  have t8 := T0.out.c 8 rfl
  have t9 := T0.out.c 9 rfl
  have tl := T0.out.lt
  have f0 := T0.out.free 0
  have f1 := T0.out.free 1
  have f2 := T0.out.free 2
  have f3 := T0.out.free 3
  have f4 := T0.out.free 4
  have f5 := T0.out.free 5
  have f6 := T0.out.free 6
  have f7 := T0.out.free 7
  have f8 := T0.out.free 8
  have f9 := T0.out.free 9
  have x0 := HX.out W B0.out
  have RG := Lib.hid (RG.out W B0.out)
  go_enter Try.func19, Try.ntmps19
  go_wp2_with (go_at_call 30; (with_reducible refine RG.out.mono ?_); rintro e w1 ⟨b9, rfl⟩; replace T0 := Lib.hid (T0.out.below b9 T0.out.lt); replace B0 := Lib.hid (below_more B0.out b9); replace t0 := T0.out.c 0 rfl; replace t1 := T0.out.c 1 rfl; replace t2 := T0.out.c 2 rfl; replace t3 := T0.out.c 3 rfl; replace t4 := T0.out.c 4 rfl; replace t5 := T0.out.c 5 rfl; replace t6 := T0.out.c 6 rfl; replace t7 := T0.out.c 7 rfl; replace t8 := T0.out.c 8 rfl; replace t9 := T0.out.c 9 rfl; replace tl := T0.out.lt; replace f0 := T0.out.free 0; replace f1 := T0.out.free 1; replace f2 := T0.out.free 2; replace f3 := T0.out.free 3; replace f4 := T0.out.free 4; replace f5 := T0.out.free 5; replace f6 := T0.out.free 6; replace f7 := T0.out.free 7; replace f8 := T0.out.free 8; replace f9 := T0.out.free 9; clear b9)
  refine bodyPost_ret (v := .tuple #[.agg #[.int .i64 0, .int .i64 0, .int .i64 0, .int .u64 0, .int .i64 0, .int .i64 0, .int .i64 0, .int .i64 0, .int .i64 0, .int .i64 0], .int .i64 7]) (by simp [results, Try.results19, go_sem, t0, t1, t2, t3, t4, t5, t6, t7, t8, t9, tl]) rfl ⟨rfl, ?_⟩
  exact ((((((((((B0.out.setCell (p := ⟨w.heap.size, 0, none⟩) (Nat.le_refl _) _).setCell (p := ⟨w.heap.size, 1, none⟩) (Nat.le_refl _) _).setCell (p := ⟨w.heap.size, 2, none⟩) (Nat.le_refl _) _).setCell (p := ⟨w.heap.size, 3, none⟩) (Nat.le_refl _) _).setCell (p := ⟨w.heap.size, 4, none⟩) (Nat.le_refl _) _).setCell (p := ⟨w.heap.size, 5, none⟩) (Nat.le_refl _) _).setCell (p := ⟨w.heap.size, 6, none⟩) (Nat.le_refl _) _).setCell (p := ⟨w.heap.size, 7, none⟩) (Nat.le_refl _) _).setCell (p := ⟨w.heap.size, 8, none⟩) (Nat.le_refl _) _).setCell (p := ⟨w.heap.size, 9, none⟩) (Nat.le_refl _) _)
set_option maxRecDepth 100000 in
set_option maxHeartbeats 8000000 in
theorem rgetp_none (p : Addr) (m cap : Nat) (w : World) (hc : m + 1 ≤ cap) (hcap : 1 < cap) (hm : cap ≤ 9223372036854775807) (HX : Hid (∀ W, Below w.heap.size w W → W.cell? p = some (.int .u8 2)))
    (RG : Hid (∀ W, Below w.heap.size w W → Calls Try.prog 30 #[.slice (some ⟨p.block, p.off + 1, none⟩) m (cap - 1)] W (GetEnd none W))) : Calls Try.prog 19 #[.slice (some p) (m + 1) cap] w (Gives (.tuple #[.agg #[.int .i64 0, .int .i64 0, .int .i64 0, .int .u64 0, .int .i64 0, .int .i64 0, .int .i64 0, .int .i64 0, .int .i64 0, .int .i64 0], .int .i64 7]) w) := by
  obtain ⟨W, hW⟩ : ∃ W, w.alloc (.cells #[.int .i64 0, .int .i64 0, .int .i64 0, .int .u64 0, .int .i64 0, .int .i64 0, .int .i64 0, .int .i64 0, .int .i64 0, .int .i64 0] 30) = W := ⟨_, rfl⟩
  have T0 : Hid (Cells W w.heap.size 30 #[.int .i64 0, .int .i64 0, .int .i64 0, .int .u64 0, .int .i64 0, .int .i64 0, .int .i64 0, .int .i64 0, .int .i64 0, .int .i64 0]) := by rw [← hW]; exact Cells.new w 30 #[.int .i64 0, .int .i64 0, .int .i64 0, .int .u64 0, .int .i64 0, .int .i64 0, .int .i64 0, .int .i64 0, .int .i64 0, .int .i64 0]
  have B0 : Hid (Below w.heap.size w W) := by rw [← hW]; exact below_alloc w _
  have t0 := T0.out.c 0 rfl
  have t1 := T0.out.c 1 rfl
  have t2 := T0.out.c 2 rfl
  have t3 := T0.out.c 3 rfl
  have t4 := T0.out.c 4 rfl
  have t5 := T0.out.c 5 rfl
  have t6 := T0.out.c 6 rfl
  have t7 := T0.out.c 7 rfl
  have t8 := T0.out.c 8 rfl
  have t9 := T0.out.c 9 rfl
  have tl := T0.out.lt
  have f0 := T0.out.free 0
  have f1 := T0.out.free 1
  have f2 := T0.out.free 2
  have f3 := T0.out.free 3
  have f4 := T0.out.free 4
  have f5 := T0.out.free 5
  have f6 := T0.out.free 6
  have f7 := T0.out.free 7
  have f8 := T0.out.free 8
  have f9 := T0.out.free 9
  have x0 := HX.out W B0.out
  have m0 : ((m : Int) + 1 == 0) = false := by simp; omega
  have RG := Lib.hid (RG.out W B0.out)
  go_enter Try.func19, Try.ntmps19
  go_wp2_with (go_at_call 30; (with_reducible refine RG.out.mono ?_); rintro e w1 ⟨b9, rfl⟩; replace T0 := Lib.hid (T0.out.below b9 T0.out.lt); replace B0 := Lib.hid (below_more B0.out b9); replace t0 := T0.out.c 0 rfl; replace t1 := T0.out.c 1 rfl; replace t2 := T0.out.c 2 rfl; replace t3 := T0.out.c 3 rfl; replace t4 := T0.out.c 4 rfl; replace t5 := T0.out.c 5 rfl; replace t6 := T0.out.c 6 rfl; replace t7 := T0.out.c 7 rfl; replace t8 := T0.out.c 8 rfl; replace t9 := T0.out.c 9 rfl; replace tl := T0.out.lt; replace f0 := T0.out.free 0; replace f1 := T0.out.free 1; replace f2 := T0.out.free 2; replace f3 := T0.out.free 3; replace f4 := T0.out.free 4; replace f5 := T0.out.free 5; replace f6 := T0.out.free 6; replace f7 := T0.out.free 7; replace f8 := T0.out.free 8; replace f9 := T0.out.free 9; clear b9)
  refine bodyPost_ret (v := .tuple #[.agg #[.int .i64 0, .int .i64 0, .int .i64 0, .int .u64 0, .int .i64 0, .int .i64 0, .int .i64 0, .int .i64 0, .int .i64 0, .int .i64 0], .int .i64 7]) (by simp [results, Try.results19, go_sem, t0, t1, t2, t3, t4, t5, t6, t7, t8, t9, tl]) rfl ⟨rfl, ?_⟩
  exact ((((((((((B0.out.setCell (p := ⟨w.heap.size, 0, none⟩) (Nat.le_refl _) _).setCell (p := ⟨w.heap.size, 1, none⟩) (Nat.le_refl _) _).setCell (p := ⟨w.heap.size, 2, none⟩) (Nat.le_refl _) _).setCell (p := ⟨w.heap.size, 3, none⟩) (Nat.le_refl _) _).setCell (p := ⟨w.heap.size, 4, none⟩) (Nat.le_refl _) _).setCell (p := ⟨w.heap.size, 5, none⟩) (Nat.le_refl _) _).setCell (p := ⟨w.heap.size, 6, none⟩) (Nat.le_refl _) _).setCell (p := ⟨w.heap.size, 7, none⟩) (Nat.le_refl _) _).setCell (p := ⟨w.heap.size, 8, none⟩) (Nat.le_refl _) _).setCell (p := ⟨w.heap.size, 9, none⟩) (Nat.le_refl _) _)
set_option maxRecDepth 100000 in
set_option maxHeartbeats 8000000 in
theorem rgetp_len (p : Addr) (m cap : Nat) (l : List Int) (hl : l.length ≠ 11) (hi : ∀ x ∈ l, -9223372036854775808 ≤ x ∧ x ≤ 9223372036854775807) (w : World) (hc : m + 1 ≤ cap) (hcap : 1 < cap) (hm : cap ≤ 9223372036854775807) (HX : Hid (∀ W, Below w.heap.size w W → W.cell? p = some (.int .u8 2)))
    (RG : Hid (∀ W, Below w.heap.size w W → Calls Try.prog 30 #[.slice (some ⟨p.block, p.off + 1, none⟩) m (cap - 1)] W (GetEnd (some l) W))) : Calls Try.prog 19 #[.slice (some p) (m + 1) cap] w (Gives (.tuple #[.agg #[.int .i64 0, .int .i64 0, .int .i64 0, .int .u64 0, .int .i64 0, .int .i64 0, .int .i64 0, .int .i64 0, .int .i64 0, .int .i64 0], .int .i64 7]) w) := by
  have HI := Lib.hid hi
  have H5 := Lib.hid hl
  clear hi hl
  obtain ⟨W, hW⟩ : ∃ W, w.alloc (.cells #[.int .i64 0, .int .i64 0, .int .i64 0, .int .u64 0, .int .i64 0, .int .i64 0, .int .i64 0, .int .i64 0, .int .i64 0, .int .i64 0] 30) = W := ⟨_, rfl⟩
  have T0 : Hid (Cells W w.heap.size 30 #[.int .i64 0, .int .i64 0, .int .i64 0, .int .u64 0, .int .i64 0, .int .i64 0, .int .i64 0, .int .i64 0, .int .i64 0, .int .i64 0]) := by rw [← hW]; exact Cells.new w 30 #[.int .i64 0, .int .i64 0, .int .i64 0, .int .u64 0, .int .i64 0, .int .i64 0, .int .i64 0, .int .i64 0, .int .i64 0, .int .i64 0]
  have B0 : Hid (Below w.heap.size w W) := by rw [← hW]; exact below_alloc w _
  have t0 := T0.out.c 0 rfl
  have t1 := T0.out.c 1 rfl
  have t2 := T0.out.c 2 rfl
  have t3 := T0.out.c 3 rfl
  have t4 := T0.out.c 4 rfl
  have t5 := T0.out.c 5 rfl
  have t6 := T0.out.c 6 rfl
  have t7 := T0.out.c 7 rfl
  have t8 := T0.out.c 8 rfl
  have t9 := T0.out.c 9 rfl
  have tl := T0.out.lt
  have f0 := T0.out.free 0
  have f1 := T0.out.free 1
  have f2 := T0.out.free 2
  have f3 := T0.out.free 3
  have f4 := T0.out.free 4
  have f5 := T0.out.free 5
  have f6 := T0.out.free 6
  have f7 := T0.out.free 7
  have f8 := T0.out.free 8
  have f9 := T0.out.free 9
  have x0 := HX.out W B0.out
  have m0 : ((m : Int) + 1 == 0) = false := by simp; omega
  have RG := Lib.hid (RG.out W B0.out)
  go_enter Try.func19, Try.ntmps19
  go_wp2_with (go_at_call 30; (with_reducible refine RG.out.mono ?_); rintro e w1 ⟨b9, v, rfl, ho⟩; obtain ⟨A1, n1, cap1, rfl, k1, k2, k3, k4⟩ := ho.row HI.out; have n5 : ((n1 : Int) != 11) = true := (by have := k4.1; have := H5.out; simp; omega); replace T0 := Lib.hid (T0.out.below b9 T0.out.lt); replace B0 := Lib.hid (below_more B0.out b9); replace t0 := T0.out.c 0 rfl; replace t1 := T0.out.c 1 rfl; replace t2 := T0.out.c 2 rfl; replace t3 := T0.out.c 3 rfl; replace t4 := T0.out.c 4 rfl; replace t5 := T0.out.c 5 rfl; replace t6 := T0.out.c 6 rfl; replace t7 := T0.out.c 7 rfl; replace t8 := T0.out.c 8 rfl; replace t9 := T0.out.c 9 rfl; replace tl := T0.out.lt; replace f0 := T0.out.free 0; replace f1 := T0.out.free 1; replace f2 := T0.out.free 2; replace f3 := T0.out.free 3; replace f4 := T0.out.free 4; replace f5 := T0.out.free 5; replace f6 := T0.out.free 6; replace f7 := T0.out.free 7; replace f8 := T0.out.free 8; replace f9 := T0.out.free 9; clear b9; clear k1 k2 k3 k4 ho)
  refine bodyPost_ret (v := .tuple #[.agg #[.int .i64 0, .int .i64 0, .int .i64 0, .int .u64 0, .int .i64 0, .int .i64 0, .int .i64 0, .int .i64 0, .int .i64 0, .int .i64 0], .int .i64 7]) (by simp [results, Try.results19, go_sem, t0, t1, t2, t3, t4, t5, t6, t7, t8, t9, tl]) rfl ⟨rfl, ?_⟩
  exact ((((((((((B0.out.setCell (p := ⟨w.heap.size, 0, none⟩) (Nat.le_refl _) _).setCell (p := ⟨w.heap.size, 1, none⟩) (Nat.le_refl _) _).setCell (p := ⟨w.heap.size, 2, none⟩) (Nat.le_refl _) _).setCell (p := ⟨w.heap.size, 3, none⟩) (Nat.le_refl _) _).setCell (p := ⟨w.heap.size, 4, none⟩) (Nat.le_refl _) _).setCell (p := ⟨w.heap.size, 5, none⟩) (Nat.le_refl _) _).setCell (p := ⟨w.heap.size, 6, none⟩) (Nat.le_refl _) _).setCell (p := ⟨w.heap.size, 7, none⟩) (Nat.le_refl _) _).setCell (p := ⟨w.heap.size, 8, none⟩) (Nat.le_refl _) _).setCell (p := ⟨w.heap.size, 9, none⟩) (Nat.le_refl _) _)
set_option maxRecDepth 100000 in
set_option maxHeartbeats 8000000 in
theorem rgetp_half (p : Addr) (m cap : Nat) (a h r u v l g k t c s : Int) (hi : ∀ x ∈ [a, h, r, u, v, l, g, k, t, c, s], -9223372036854775808 ≤ x ∧ x ≤ 9223372036854775807) (w : World) (hc : m + 1 ≤ cap) (hcap : 1 < cap) (hm : cap ≤ 9223372036854775807) (HX : Hid (∀ W, Below w.heap.size w W → W.cell? p = some (.int .u8 2)))
    (RG : Hid (∀ W, Below w.heap.size w W → Calls Try.prog 30 #[.slice (some ⟨p.block, p.off + 1, none⟩) m (cap - 1)] W (GetEnd (some [a, h, r, u, v, l, g, k, t, c, s]) W))) (hno : ¬ (Half u ∧ Half v)) : Calls Try.prog 19 #[.slice (some p) (m + 1) cap] w (Gives (.tuple #[.agg #[.int .i64 0, .int .i64 0, .int .i64 0, .int .u64 0, .int .i64 0, .int .i64 0, .int .i64 0, .int .i64 0, .int .i64 0, .int .i64 0], .int .i64 7]) w) := by
  have HI := Lib.hid hi
  clear hi
  obtain ⟨W, hW⟩ : ∃ W, w.alloc (.cells #[.int .i64 0, .int .i64 0, .int .i64 0, .int .u64 0, .int .i64 0, .int .i64 0, .int .i64 0, .int .i64 0, .int .i64 0, .int .i64 0] 30) = W := ⟨_, rfl⟩
  have T0 : Hid (Cells W w.heap.size 30 #[.int .i64 0, .int .i64 0, .int .i64 0, .int .u64 0, .int .i64 0, .int .i64 0, .int .i64 0, .int .i64 0, .int .i64 0, .int .i64 0]) := by rw [← hW]; exact Cells.new w 30 #[.int .i64 0, .int .i64 0, .int .i64 0, .int .u64 0, .int .i64 0, .int .i64 0, .int .i64 0, .int .i64 0, .int .i64 0, .int .i64 0]
  have B0 : Hid (Below w.heap.size w W) := by rw [← hW]; exact below_alloc w _
  have t0 := T0.out.c 0 rfl
  have t1 := T0.out.c 1 rfl
  have t2 := T0.out.c 2 rfl
  have t3 := T0.out.c 3 rfl
  have t4 := T0.out.c 4 rfl
  have t5 := T0.out.c 5 rfl
  have t6 := T0.out.c 6 rfl
  have t7 := T0.out.c 7 rfl
  have t8 := T0.out.c 8 rfl
  have t9 := T0.out.c 9 rfl
  have tl := T0.out.lt
  have f0 := T0.out.free 0
  have f1 := T0.out.free 1
  have f2 := T0.out.free 2
  have f3 := T0.out.free 3
  have f4 := T0.out.free 4
  have f5 := T0.out.free 5
  have f6 := T0.out.free 6
  have f7 := T0.out.free 7
  have f8 := T0.out.free 8
  have f9 := T0.out.free 9
  have x0 := HX.out W B0.out
  have m0 : ((m : Int) + 1 == 0) = false := by simp; omega
  have RG := Lib.hid (RG.out W B0.out)
  by_cases hu : Half u
  · have hv : ¬ Half v := fun k => hno ⟨hu, k⟩
    have HU := Lib.hid (rhalf_any u true (by simp [hu]))
    have HV := Lib.hid (rhalf_any v false (by simp [hv]))
    clear hno hu hv
    go_enter Try.func19, Try.ntmps19
    go_wp2_with (first
      | (go_at_call 30; (with_reducible refine RG.out.mono ?_); rintro e w1 ⟨b9, v9, rfl, ho⟩; obtain ⟨A1, n1, cap1, rfl, k1, k2, k3, k4⟩ := ho.row HI.out; obtain rfl : n1 = 11 := k4.1.symm; obtain ⟨p1, rfl, y0, -⟩ := k4.at_ 0 (by omega); obtain ⟨_, he, y1, -⟩ := k4.at_ 1 (by omega); obtain rfl := Option.some.inj he; obtain ⟨_, he, y2, -⟩ := k4.at_ 2 (by omega); obtain rfl := Option.some.inj he; obtain ⟨_, he, y3, -⟩ := k4.at_ 3 (by omega); obtain rfl := Option.some.inj he; obtain ⟨_, he, y4, -⟩ := k4.at_ 4 (by omega); obtain rfl := Option.some.inj he; obtain ⟨_, he, y5, -⟩ := k4.at_ 5 (by omega); obtain rfl := Option.some.inj he; obtain ⟨_, he, y6, -⟩ := k4.at_ 6 (by omega); obtain rfl := Option.some.inj he; obtain ⟨_, he, y7, -⟩ := k4.at_ 7 (by omega); obtain rfl := Option.some.inj he; obtain ⟨_, he, y8, -⟩ := k4.at_ 8 (by omega); obtain rfl := Option.some.inj he; obtain ⟨_, he, y9, -⟩ := k4.at_ 9 (by omega); obtain rfl := Option.some.inj he; obtain ⟨_, he, y10, -⟩ := k4.at_ 10 (by omega); obtain rfl := Option.some.inj he; obtain ⟨_, he, hp1, -⟩ := k4.2.1 (by omega); obtain rfl := Option.some.inj he; rw [addr_add0] at y0; simp only [List.getD_cons_zero, List.getD_cons_succ] at y0 y1 y2 y3 y4 y5 y6 y7 y8 y9 y10; rw [paddr_add p1 0] at y1; rw [paddr_add p1 1] at y2; rw [paddr_add p1 2] at y3; rw [paddr_add p1 3] at y4; rw [paddr_add p1 4] at y5; rw [paddr_add p1 5] at y6; rw [paddr_add p1 6] at y7; rw [paddr_add p1 7] at y8; rw [paddr_add p1 8] at y9; rw [paddr_add p1 9] at y10; replace T0 := Lib.hid (T0.out.below b9 T0.out.lt); replace B0 := Lib.hid (below_more B0.out b9); replace t0 := T0.out.c 0 rfl; replace t1 := T0.out.c 1 rfl; replace t2 := T0.out.c 2 rfl; replace t3 := T0.out.c 3 rfl; replace t4 := T0.out.c 4 rfl; replace t5 := T0.out.c 5 rfl; replace t6 := T0.out.c 6 rfl; replace t7 := T0.out.c 7 rfl; replace t8 := T0.out.c 8 rfl; replace t9 := T0.out.c 9 rfl; replace tl := T0.out.lt; replace f0 := T0.out.free 0; replace f1 := T0.out.free 1; replace f2 := T0.out.free 2; replace f3 := T0.out.free 3; replace f4 := T0.out.free 4; replace f5 := T0.out.free 5; replace f6 := T0.out.free 6; replace f7 := T0.out.free 7; replace f8 := T0.out.free 8; replace f9 := T0.out.free 9; clear b9; clear k1 k2 k3 k4 ho he)
      | (go_at_call 31; (with_reducible refine (HU.out _).mono ?_); rintro e w' ⟨rfl, rfl⟩; clear HU)
      | (go_at_call 31; (with_reducible refine (HV.out _).mono ?_); rintro e w' ⟨rfl, rfl⟩; clear HV))
    refine bodyPost_ret (v := .tuple #[.agg #[.int .i64 0, .int .i64 0, .int .i64 0, .int .u64 0, .int .i64 0, .int .i64 0, .int .i64 0, .int .i64 0, .int .i64 0, .int .i64 0], .int .i64 7]) (by simp [results, Try.results19, go_sem, t0, t1, t2, t3, t4, t5, t6, t7, t8, t9, tl]) rfl ⟨rfl, ?_⟩
    exact ((((((((((B0.out.setCell (p := ⟨w.heap.size, 0, none⟩) (Nat.le_refl _) _).setCell (p := ⟨w.heap.size, 1, none⟩) (Nat.le_refl _) _).setCell (p := ⟨w.heap.size, 2, none⟩) (Nat.le_refl _) _).setCell (p := ⟨w.heap.size, 3, none⟩) (Nat.le_refl _) _).setCell (p := ⟨w.heap.size, 4, none⟩) (Nat.le_refl _) _).setCell (p := ⟨w.heap.size, 5, none⟩) (Nat.le_refl _) _).setCell (p := ⟨w.heap.size, 6, none⟩) (Nat.le_refl _) _).setCell (p := ⟨w.heap.size, 7, none⟩) (Nat.le_refl _) _).setCell (p := ⟨w.heap.size, 8, none⟩) (Nat.le_refl _) _).setCell (p := ⟨w.heap.size, 9, none⟩) (Nat.le_refl _) _)
  · have HU := Lib.hid (rhalf_any u false (by simp [hu]))
    have HV := Lib.hid (fun w => rhalf_any v (decide (Half v)) (by simp) w)
    clear hno hu
    generalize decide (Half v) = bv at HV
    cases bv
    all_goals
      go_enter Try.func19, Try.ntmps19
      go_wp2_with (first
        | (go_at_call 30; (with_reducible refine RG.out.mono ?_); rintro e w1 ⟨b9, v9, rfl, ho⟩; obtain ⟨A1, n1, cap1, rfl, k1, k2, k3, k4⟩ := ho.row HI.out; obtain rfl : n1 = 11 := k4.1.symm; obtain ⟨p1, rfl, y0, -⟩ := k4.at_ 0 (by omega); obtain ⟨_, he, y1, -⟩ := k4.at_ 1 (by omega); obtain rfl := Option.some.inj he; obtain ⟨_, he, y2, -⟩ := k4.at_ 2 (by omega); obtain rfl := Option.some.inj he; obtain ⟨_, he, y3, -⟩ := k4.at_ 3 (by omega); obtain rfl := Option.some.inj he; obtain ⟨_, he, y4, -⟩ := k4.at_ 4 (by omega); obtain rfl := Option.some.inj he; obtain ⟨_, he, y5, -⟩ := k4.at_ 5 (by omega); obtain rfl := Option.some.inj he; obtain ⟨_, he, y6, -⟩ := k4.at_ 6 (by omega); obtain rfl := Option.some.inj he; obtain ⟨_, he, y7, -⟩ := k4.at_ 7 (by omega); obtain rfl := Option.some.inj he; obtain ⟨_, he, y8, -⟩ := k4.at_ 8 (by omega); obtain rfl := Option.some.inj he; obtain ⟨_, he, y9, -⟩ := k4.at_ 9 (by omega); obtain rfl := Option.some.inj he; obtain ⟨_, he, y10, -⟩ := k4.at_ 10 (by omega); obtain rfl := Option.some.inj he; obtain ⟨_, he, hp1, -⟩ := k4.2.1 (by omega); obtain rfl := Option.some.inj he; rw [addr_add0] at y0; simp only [List.getD_cons_zero, List.getD_cons_succ] at y0 y1 y2 y3 y4 y5 y6 y7 y8 y9 y10; rw [paddr_add p1 0] at y1; rw [paddr_add p1 1] at y2; rw [paddr_add p1 2] at y3; rw [paddr_add p1 3] at y4; rw [paddr_add p1 4] at y5; rw [paddr_add p1 5] at y6; rw [paddr_add p1 6] at y7; rw [paddr_add p1 7] at y8; rw [paddr_add p1 8] at y9; rw [paddr_add p1 9] at y10; replace T0 := Lib.hid (T0.out.below b9 T0.out.lt); replace B0 := Lib.hid (below_more B0.out b9); replace t0 := T0.out.c 0 rfl; replace t1 := T0.out.c 1 rfl; replace t2 := T0.out.c 2 rfl; replace t3 := T0.out.c 3 rfl; replace t4 := T0.out.c 4 rfl; replace t5 := T0.out.c 5 rfl; replace t6 := T0.out.c 6 rfl; replace t7 := T0.out.c 7 rfl; replace t8 := T0.out.c 8 rfl; replace t9 := T0.out.c 9 rfl; replace tl := T0.out.lt; replace f0 := T0.out.free 0; replace f1 := T0.out.free 1; replace f2 := T0.out.free 2; replace f3 := T0.out.free 3; replace f4 := T0.out.free 4; replace f5 := T0.out.free 5; replace f6 := T0.out.free 6; replace f7 := T0.out.free 7; replace f8 := T0.out.free 8; replace f9 := T0.out.free 9; clear b9; clear k1 k2 k3 k4 ho he)
        | (go_at_call 31; (with_reducible refine (HU.out _).mono ?_); rintro e w' ⟨rfl, rfl⟩; clear HU)
        | (go_at_call 31; (with_reducible refine (HV.out _).mono ?_); rintro e w' ⟨rfl, rfl⟩; clear HV))
      refine bodyPost_ret (v := .tuple #[.agg #[.int .i64 0, .int .i64 0, .int .i64 0, .int .u64 0, .int .i64 0, .int .i64 0, .int .i64 0, .int .i64 0, .int .i64 0, .int .i64 0], .int .i64 7]) (by simp [results, Try.results19, go_sem, t0, t1, t2, t3, t4, t5, t6, t7, t8, t9, tl]) rfl ⟨rfl, ?_⟩
      exact ((((((((((B0.out.setCell (p := ⟨w.heap.size, 0, none⟩) (Nat.le_refl _) _).setCell (p := ⟨w.heap.size, 1, none⟩) (Nat.le_refl _) _).setCell (p := ⟨w.heap.size, 2, none⟩) (Nat.le_refl _) _).setCell (p := ⟨w.heap.size, 3, none⟩) (Nat.le_refl _) _).setCell (p := ⟨w.heap.size, 4, none⟩) (Nat.le_refl _) _).setCell (p := ⟨w.heap.size, 5, none⟩) (Nat.le_refl _) _).setCell (p := ⟨w.heap.size, 6, none⟩) (Nat.le_refl _) _).setCell (p := ⟨w.heap.size, 7, none⟩) (Nat.le_refl _) _).setCell (p := ⟨w.heap.size, 8, none⟩) (Nat.le_refl _) _).setCell (p := ⟨w.heap.size, 9, none⟩) (Nat.le_refl _) _)
set_option maxRecDepth 100000 in
set_option maxHeartbeats 8000000 in
theorem rgetp_no (p : Addr) (m cap : Nat) (a h r u v l g k t c s : Int) (hi : ∀ x ∈ [a, h, r, u, v, l, g, k, t, c, s], -9223372036854775808 ≤ x ∧ x ≤ 9223372036854775807) (w : World) (hc : m + 1 ≤ cap) (hcap : 1 < cap) (hm : cap ≤ 9223372036854775807) (HX : Hid (∀ W, Below w.heap.size w W → W.cell? p = some (.int .u8 2)))
    (RG : Hid (∀ W, Below w.heap.size w W → Calls Try.prog 30 #[.slice (some ⟨p.block, p.off + 1, none⟩) m (cap - 1)] W (GetEnd (some [a, h, r, u, v, l, g, k, t, c, s]) W))) (hu : Half u) (hv : Half v) (n : Int) (hn : u * 4294967296 + v = n) (hq : ¬ (Rp.mk a h r n l g k t c s).Ok) : Calls Try.prog 19 #[.slice (some p) (m + 1) cap] w (Gives (.tuple #[.agg #[.int .i64 0, .int .i64 0, .int .i64 0, .int .u64 0, .int .i64 0, .int .i64 0, .int .i64 0, .int .i64 0, .int .i64 0, .int .i64 0], .int .i64 7]) w) := by
  have HI := Lib.hid hi
  clear hi
  obtain ⟨W, hW⟩ : ∃ W, w.alloc (.cells #[.int .i64 0, .int .i64 0, .int .i64 0, .int .u64 0, .int .i64 0, .int .i64 0, .int .i64 0, .int .i64 0, .int .i64 0, .int .i64 0] 30) = W := ⟨_, rfl⟩
  have T0 : Hid (Cells W w.heap.size 30 #[.int .i64 0, .int .i64 0, .int .i64 0, .int .u64 0, .int .i64 0, .int .i64 0, .int .i64 0, .int .i64 0, .int .i64 0, .int .i64 0]) := by rw [← hW]; exact Cells.new w 30 #[.int .i64 0, .int .i64 0, .int .i64 0, .int .u64 0, .int .i64 0, .int .i64 0, .int .i64 0, .int .i64 0, .int .i64 0, .int .i64 0]
  have B0 : Hid (Below w.heap.size w W) := by rw [← hW]; exact below_alloc w _
  have t0 := T0.out.c 0 rfl
  have t1 := T0.out.c 1 rfl
  have t2 := T0.out.c 2 rfl
  have t3 := T0.out.c 3 rfl
  have t4 := T0.out.c 4 rfl
  have t5 := T0.out.c 5 rfl
  have t6 := T0.out.c 6 rfl
  have t7 := T0.out.c 7 rfl
  have t8 := T0.out.c 8 rfl
  have t9 := T0.out.c 9 rfl
  have tl := T0.out.lt
  have f0 := T0.out.free 0
  have f1 := T0.out.free 1
  have f2 := T0.out.free 2
  have f3 := T0.out.free 3
  have f4 := T0.out.free 4
  have f5 := T0.out.free 5
  have f6 := T0.out.free 6
  have f7 := T0.out.free 7
  have f8 := T0.out.free 8
  have f9 := T0.out.free 9
  have x0 := HX.out W B0.out
  have m0 : ((m : Int) + 1 == 0) = false := by simp; omega
  have RG := Lib.hid (RG.out W B0.out)
  have HU := Lib.hid (rhalf_any u true (by simp [hu]))
  have HV := Lib.hid (rhalf_any v true (by simp [hv]))
  have RQ := Lib.hid (rrep_any ⟨a, h, r, n, l, g, k, t, c, s⟩ false (by simp [hq]))
  unfold rpV at RQ
  dsimp only at RQ
  clear hq
  obtain ⟨u1, u2⟩ := hu
  obtain ⟨v1, v2⟩ := hv
  have e1 : IntKind.u64.wrap u = u := IntWalk.u64_in _ ⟨u1, by omega⟩
  have e2 : IntKind.u64.wrap v = v := IntWalk.u64_in _ ⟨v1, by omega⟩
  have e3 : IntKind.u64.wrap (u * 4294967296) = u * 4294967296 := IntWalk.u64_in _ ⟨by omega, by omega⟩
  have e4 : IntKind.u64.wrap n = n := by rw [← hn]; exact IntWalk.u64_in _ ⟨by omega, by omega⟩
  go_enter Try.func19, Try.ntmps19
  go_wp2_with (first
    | (go_at_call 30; (with_reducible refine RG.out.mono ?_); rintro e w1 ⟨b9, v9, rfl, ho⟩; obtain ⟨A1, n1, cap1, rfl, k1, k2, k3, k4⟩ := ho.row HI.out; obtain rfl : n1 = 11 := k4.1.symm; obtain ⟨p1, rfl, y0, -⟩ := k4.at_ 0 (by omega); obtain ⟨_, he, y1, -⟩ := k4.at_ 1 (by omega); obtain rfl := Option.some.inj he; obtain ⟨_, he, y2, -⟩ := k4.at_ 2 (by omega); obtain rfl := Option.some.inj he; obtain ⟨_, he, y3, -⟩ := k4.at_ 3 (by omega); obtain rfl := Option.some.inj he; obtain ⟨_, he, y4, -⟩ := k4.at_ 4 (by omega); obtain rfl := Option.some.inj he; obtain ⟨_, he, y5, -⟩ := k4.at_ 5 (by omega); obtain rfl := Option.some.inj he; obtain ⟨_, he, y6, -⟩ := k4.at_ 6 (by omega); obtain rfl := Option.some.inj he; obtain ⟨_, he, y7, -⟩ := k4.at_ 7 (by omega); obtain rfl := Option.some.inj he; obtain ⟨_, he, y8, -⟩ := k4.at_ 8 (by omega); obtain rfl := Option.some.inj he; obtain ⟨_, he, y9, -⟩ := k4.at_ 9 (by omega); obtain rfl := Option.some.inj he; obtain ⟨_, he, y10, -⟩ := k4.at_ 10 (by omega); obtain rfl := Option.some.inj he; obtain ⟨_, he, hp1, -⟩ := k4.2.1 (by omega); obtain rfl := Option.some.inj he; rw [addr_add0] at y0; simp only [List.getD_cons_zero, List.getD_cons_succ] at y0 y1 y2 y3 y4 y5 y6 y7 y8 y9 y10; rw [paddr_add p1 0] at y1; rw [paddr_add p1 1] at y2; rw [paddr_add p1 2] at y3; rw [paddr_add p1 3] at y4; rw [paddr_add p1 4] at y5; rw [paddr_add p1 5] at y6; rw [paddr_add p1 6] at y7; rw [paddr_add p1 7] at y8; rw [paddr_add p1 8] at y9; rw [paddr_add p1 9] at y10; replace T0 := Lib.hid (T0.out.below b9 T0.out.lt); replace B0 := Lib.hid (below_more B0.out b9); replace t0 := T0.out.c 0 rfl; replace t1 := T0.out.c 1 rfl; replace t2 := T0.out.c 2 rfl; replace t3 := T0.out.c 3 rfl; replace t4 := T0.out.c 4 rfl; replace t5 := T0.out.c 5 rfl; replace t6 := T0.out.c 6 rfl; replace t7 := T0.out.c 7 rfl; replace t8 := T0.out.c 8 rfl; replace t9 := T0.out.c 9 rfl; replace tl := T0.out.lt; replace f0 := T0.out.free 0; replace f1 := T0.out.free 1; replace f2 := T0.out.free 2; replace f3 := T0.out.free 3; replace f4 := T0.out.free 4; replace f5 := T0.out.free 5; replace f6 := T0.out.free 6; replace f7 := T0.out.free 7; replace f8 := T0.out.free 8; replace f9 := T0.out.free 9; clear b9; clear k1 k2 k3 k4 ho he)
    | (go_at_call 31; (with_reducible refine (HU.out _).mono ?_); rintro e w' ⟨rfl, rfl⟩; clear HU)
    | (go_at_call 31; (with_reducible refine (HV.out _).mono ?_); rintro e w' ⟨rfl, rfl⟩; clear HV))
  clear HX RG HI hW
  go_region_held3 (fun w' => w'.cell? p1 = some (.int .i64 a) ∧ w'.cell? ⟨p1.block, p1.off + 1, none⟩ = some (.int .i64 h) ∧ w'.cell? ⟨p1.block, p1.off + 2, none⟩ = some (.int .i64 r) ∧ w'.cell? ⟨p1.block, p1.off + 3, none⟩ = some (.int .i64 u) ∧ w'.cell? ⟨p1.block, p1.off + 4, none⟩ = some (.int .i64 v) ∧ w'.cell? ⟨p1.block, p1.off + 5, none⟩ = some (.int .i64 l) ∧ w'.cell? ⟨p1.block, p1.off + 6, none⟩ = some (.int .i64 g) ∧ w'.cell? ⟨p1.block, p1.off + 7, none⟩ = some (.int .i64 k) ∧ w'.cell? ⟨p1.block, p1.off + 8, none⟩ = some (.int .i64 t) ∧ w'.cell? ⟨p1.block, p1.off + 9, none⟩ = some (.int .i64 c) ∧ w'.cell? ⟨p1.block, p1.off + 10, none⟩ = some (.int .i64 s)) (go_keep) (fail)
  try rw [e4]
  clear y0 y1 y2 y3 y4 y5 y6 y7 y8 y9 y10 e1 e2 e3 e4 hn u1 u2 v1 v2
  have X0 := Lib.hid ((Cells.new w1 30 #[.int .i64 a, .int .i64 h, .int .i64 r, .int .u64 n, .int .i64 l, .int .i64 g, .int .i64 k, .int .i64 t, .int .i64 c, .int .i64 s]).below ((Drew.one _).below (w1.heap.size + 1)) (Nat.lt_succ_self _))
  replace T0 := Lib.hid ((T0.out.alloc (.cells #[.int .i64 a, .int .i64 h, .int .i64 r, .int .u64 n, .int .i64 l, .int .i64 g, .int .i64 k, .int .i64 t, .int .i64 c, .int .i64 s] 30)).below ((Drew.one _).below w1.heap.size) T0.out.lt)
  replace B0 := Lib.hid ((B0.out.alloc B0.out.size (.cells #[.int .i64 a, .int .i64 h, .int .i64 r, .int .u64 n, .int .i64 l, .int .i64 g, .int .i64 k, .int .i64 t, .int .i64 c, .int .i64 s] 30)).drew)
  replace t0 := T0.out.c 0 rfl
  replace t1 := T0.out.c 1 rfl
  replace t2 := T0.out.c 2 rfl
  replace t3 := T0.out.c 3 rfl
  replace t4 := T0.out.c 4 rfl
  replace t5 := T0.out.c 5 rfl
  replace t6 := T0.out.c 6 rfl
  replace t7 := T0.out.c 7 rfl
  replace t8 := T0.out.c 8 rfl
  replace t9 := T0.out.c 9 rfl
  replace tl := T0.out.lt
  replace f0 := T0.out.free 0
  replace f1 := T0.out.free 1
  replace f2 := T0.out.free 2
  replace f3 := T0.out.free 3
  replace f4 := T0.out.free 4
  replace f5 := T0.out.free 5
  replace f6 := T0.out.free 6
  replace f7 := T0.out.free 7
  replace f8 := T0.out.free 8
  replace f9 := T0.out.free 9
  have x0 := X0.out.c 0 rfl
  have x1 := X0.out.c 1 rfl
  have x2 := X0.out.c 2 rfl
  have x3 := X0.out.c 3 rfl
  have x4 := X0.out.c 4 rfl
  have x5 := X0.out.c 5 rfl
  have x6 := X0.out.c 6 rfl
  have x7 := X0.out.c 7 rfl
  have x8 := X0.out.c 8 rfl
  have x9 := X0.out.c 9 rfl
  have xl := X0.out.lt
  obtain ⟨W2, hW2⟩ : ∃ W2, (w1.alloc (.cells #[.int .i64 a, .int .i64 h, .int .i64 r, .int .u64 n, .int .i64 l, .int .i64 g, .int .i64 k, .int .i64 t, .int .i64 c, .int .i64 s] 30)).drew = W2 := ⟨_, rfl⟩
  rw [hW2] at X0 T0 B0 t0 t1 t2 t3 t4 t5 t6 t7 t8 t9 tl f0 f1 f2 f3 f4 f5 f6 f7 f8 f9 x0 x1 x2 x3 x4 x5 x6 x7 x8 x9 xl ⊢
  go_wp2_with (go_at_call 21; (with_reducible refine (RQ.out _).mono ?_); rintro e w9 ⟨rfl, b9⟩; replace X0 := Lib.hid (X0.out.below b9 X0.out.lt); replace T0 := Lib.hid (T0.out.below b9 T0.out.lt); replace B0 := Lib.hid (below_more B0.out b9); replace t0 := T0.out.c 0 rfl; replace t1 := T0.out.c 1 rfl; replace t2 := T0.out.c 2 rfl; replace t3 := T0.out.c 3 rfl; replace t4 := T0.out.c 4 rfl; replace t5 := T0.out.c 5 rfl; replace t6 := T0.out.c 6 rfl; replace t7 := T0.out.c 7 rfl; replace t8 := T0.out.c 8 rfl; replace t9 := T0.out.c 9 rfl; replace tl := T0.out.lt; replace f0 := T0.out.free 0; replace f1 := T0.out.free 1; replace f2 := T0.out.free 2; replace f3 := T0.out.free 3; replace f4 := T0.out.free 4; replace f5 := T0.out.free 5; replace f6 := T0.out.free 6; replace f7 := T0.out.free 7; replace f8 := T0.out.free 8; replace f9 := T0.out.free 9; clear b9; replace x0 := X0.out.c 0 rfl; replace x1 := X0.out.c 1 rfl; replace x2 := X0.out.c 2 rfl; replace x3 := X0.out.c 3 rfl; replace x4 := X0.out.c 4 rfl; replace x5 := X0.out.c 5 rfl; replace x6 := X0.out.c 6 rfl; replace x7 := X0.out.c 7 rfl; replace x8 := X0.out.c 8 rfl; replace x9 := X0.out.c 9 rfl; replace xl := X0.out.lt; clear RQ)
  refine bodyPost_ret (v := .tuple #[.agg #[.int .i64 0, .int .i64 0, .int .i64 0, .int .u64 0, .int .i64 0, .int .i64 0, .int .i64 0, .int .i64 0, .int .i64 0, .int .i64 0], .int .i64 7]) (by simp [results, Try.results19, go_sem, t0, t1, t2, t3, t4, t5, t6, t7, t8, t9, tl]) rfl ⟨rfl, ?_⟩
  exact ((((((((((B0.out.setCell (p := ⟨w.heap.size, 0, none⟩) (Nat.le_refl _) _).setCell (p := ⟨w.heap.size, 1, none⟩) (Nat.le_refl _) _).setCell (p := ⟨w.heap.size, 2, none⟩) (Nat.le_refl _) _).setCell (p := ⟨w.heap.size, 3, none⟩) (Nat.le_refl _) _).setCell (p := ⟨w.heap.size, 4, none⟩) (Nat.le_refl _) _).setCell (p := ⟨w.heap.size, 5, none⟩) (Nat.le_refl _) _).setCell (p := ⟨w.heap.size, 6, none⟩) (Nat.le_refl _) _).setCell (p := ⟨w.heap.size, 7, none⟩) (Nat.le_refl _) _).setCell (p := ⟨w.heap.size, 8, none⟩) (Nat.le_refl _) _).setCell (p := ⟨w.heap.size, 9, none⟩) (Nat.le_refl _) _)
set_option maxRecDepth 100000 in
set_option maxHeartbeats 8000000 in
theorem rgetp_good (p : Addr) (m cap : Nat) (a h r u v l g k t c s : Int) (hi : ∀ x ∈ [a, h, r, u, v, l, g, k, t, c, s], -9223372036854775808 ≤ x ∧ x ≤ 9223372036854775807) (w : World) (hc : m + 1 ≤ cap) (hcap : 1 < cap) (hm : cap ≤ 9223372036854775807) (HX : Hid (∀ W, Below w.heap.size w W → W.cell? p = some (.int .u8 2)))
    (RG : Hid (∀ W, Below w.heap.size w W → Calls Try.prog 30 #[.slice (some ⟨p.block, p.off + 1, none⟩) m (cap - 1)] W (GetEnd (some [a, h, r, u, v, l, g, k, t, c, s]) W))) (hu : Half u) (hv : Half v) (n : Int) (hn : u * 4294967296 + v = n) (hq : (Rp.mk a h r n l g k t c s).Ok) : Calls Try.prog 19 #[.slice (some p) (m + 1) cap] w (Gives (.tuple #[.agg #[.int .i64 a, .int .i64 h, .int .i64 r, .int .u64 n, .int .i64 l, .int .i64 g, .int .i64 k, .int .i64 t, .int .i64 c, .int .i64 s], .int .i64 0]) w) := by
  have HI := Lib.hid hi
  clear hi
  obtain ⟨W, hW⟩ : ∃ W, w.alloc (.cells #[.int .i64 0, .int .i64 0, .int .i64 0, .int .u64 0, .int .i64 0, .int .i64 0, .int .i64 0, .int .i64 0, .int .i64 0, .int .i64 0] 30) = W := ⟨_, rfl⟩
  have T0 : Hid (Cells W w.heap.size 30 #[.int .i64 0, .int .i64 0, .int .i64 0, .int .u64 0, .int .i64 0, .int .i64 0, .int .i64 0, .int .i64 0, .int .i64 0, .int .i64 0]) := by rw [← hW]; exact Cells.new w 30 #[.int .i64 0, .int .i64 0, .int .i64 0, .int .u64 0, .int .i64 0, .int .i64 0, .int .i64 0, .int .i64 0, .int .i64 0, .int .i64 0]
  have B0 : Hid (Below w.heap.size w W) := by rw [← hW]; exact below_alloc w _
  have t0 := T0.out.c 0 rfl
  have t1 := T0.out.c 1 rfl
  have t2 := T0.out.c 2 rfl
  have t3 := T0.out.c 3 rfl
  have t4 := T0.out.c 4 rfl
  have t5 := T0.out.c 5 rfl
  have t6 := T0.out.c 6 rfl
  have t7 := T0.out.c 7 rfl
  have t8 := T0.out.c 8 rfl
  have t9 := T0.out.c 9 rfl
  have tl := T0.out.lt
  have f0 := T0.out.free 0
  have f1 := T0.out.free 1
  have f2 := T0.out.free 2
  have f3 := T0.out.free 3
  have f4 := T0.out.free 4
  have f5 := T0.out.free 5
  have f6 := T0.out.free 6
  have f7 := T0.out.free 7
  have f8 := T0.out.free 8
  have f9 := T0.out.free 9
  have x0 := HX.out W B0.out
  have m0 : ((m : Int) + 1 == 0) = false := by simp; omega
  have RG := Lib.hid (RG.out W B0.out)
  have HU := Lib.hid (rhalf_any u true (by simp [hu]))
  have HV := Lib.hid (rhalf_any v true (by simp [hv]))
  have RQ := Lib.hid (rrep_any ⟨a, h, r, n, l, g, k, t, c, s⟩ true (by simp [hq]))
  unfold rpV at RQ
  dsimp only at RQ
  clear hq
  obtain ⟨u1, u2⟩ := hu
  obtain ⟨v1, v2⟩ := hv
  have e1 : IntKind.u64.wrap u = u := IntWalk.u64_in _ ⟨u1, by omega⟩
  have e2 : IntKind.u64.wrap v = v := IntWalk.u64_in _ ⟨v1, by omega⟩
  have e3 : IntKind.u64.wrap (u * 4294967296) = u * 4294967296 := IntWalk.u64_in _ ⟨by omega, by omega⟩
  have e4 : IntKind.u64.wrap n = n := by rw [← hn]; exact IntWalk.u64_in _ ⟨by omega, by omega⟩
  go_enter Try.func19, Try.ntmps19
  go_wp2_with (first
    | (go_at_call 30; (with_reducible refine RG.out.mono ?_); rintro e w1 ⟨b9, v9, rfl, ho⟩; obtain ⟨A1, n1, cap1, rfl, k1, k2, k3, k4⟩ := ho.row HI.out; obtain rfl : n1 = 11 := k4.1.symm; obtain ⟨p1, rfl, y0, -⟩ := k4.at_ 0 (by omega); obtain ⟨_, he, y1, -⟩ := k4.at_ 1 (by omega); obtain rfl := Option.some.inj he; obtain ⟨_, he, y2, -⟩ := k4.at_ 2 (by omega); obtain rfl := Option.some.inj he; obtain ⟨_, he, y3, -⟩ := k4.at_ 3 (by omega); obtain rfl := Option.some.inj he; obtain ⟨_, he, y4, -⟩ := k4.at_ 4 (by omega); obtain rfl := Option.some.inj he; obtain ⟨_, he, y5, -⟩ := k4.at_ 5 (by omega); obtain rfl := Option.some.inj he; obtain ⟨_, he, y6, -⟩ := k4.at_ 6 (by omega); obtain rfl := Option.some.inj he; obtain ⟨_, he, y7, -⟩ := k4.at_ 7 (by omega); obtain rfl := Option.some.inj he; obtain ⟨_, he, y8, -⟩ := k4.at_ 8 (by omega); obtain rfl := Option.some.inj he; obtain ⟨_, he, y9, -⟩ := k4.at_ 9 (by omega); obtain rfl := Option.some.inj he; obtain ⟨_, he, y10, -⟩ := k4.at_ 10 (by omega); obtain rfl := Option.some.inj he; obtain ⟨_, he, hp1, -⟩ := k4.2.1 (by omega); obtain rfl := Option.some.inj he; rw [addr_add0] at y0; simp only [List.getD_cons_zero, List.getD_cons_succ] at y0 y1 y2 y3 y4 y5 y6 y7 y8 y9 y10; rw [paddr_add p1 0] at y1; rw [paddr_add p1 1] at y2; rw [paddr_add p1 2] at y3; rw [paddr_add p1 3] at y4; rw [paddr_add p1 4] at y5; rw [paddr_add p1 5] at y6; rw [paddr_add p1 6] at y7; rw [paddr_add p1 7] at y8; rw [paddr_add p1 8] at y9; rw [paddr_add p1 9] at y10; replace T0 := Lib.hid (T0.out.below b9 T0.out.lt); replace B0 := Lib.hid (below_more B0.out b9); replace t0 := T0.out.c 0 rfl; replace t1 := T0.out.c 1 rfl; replace t2 := T0.out.c 2 rfl; replace t3 := T0.out.c 3 rfl; replace t4 := T0.out.c 4 rfl; replace t5 := T0.out.c 5 rfl; replace t6 := T0.out.c 6 rfl; replace t7 := T0.out.c 7 rfl; replace t8 := T0.out.c 8 rfl; replace t9 := T0.out.c 9 rfl; replace tl := T0.out.lt; replace f0 := T0.out.free 0; replace f1 := T0.out.free 1; replace f2 := T0.out.free 2; replace f3 := T0.out.free 3; replace f4 := T0.out.free 4; replace f5 := T0.out.free 5; replace f6 := T0.out.free 6; replace f7 := T0.out.free 7; replace f8 := T0.out.free 8; replace f9 := T0.out.free 9; clear b9; clear k1 k2 k3 k4 ho he)
    | (go_at_call 31; (with_reducible refine (HU.out _).mono ?_); rintro e w' ⟨rfl, rfl⟩; clear HU)
    | (go_at_call 31; (with_reducible refine (HV.out _).mono ?_); rintro e w' ⟨rfl, rfl⟩; clear HV))
  clear HX RG HI hW
  go_region_held3 (fun w' => w'.cell? p1 = some (.int .i64 a) ∧ w'.cell? ⟨p1.block, p1.off + 1, none⟩ = some (.int .i64 h) ∧ w'.cell? ⟨p1.block, p1.off + 2, none⟩ = some (.int .i64 r) ∧ w'.cell? ⟨p1.block, p1.off + 3, none⟩ = some (.int .i64 u) ∧ w'.cell? ⟨p1.block, p1.off + 4, none⟩ = some (.int .i64 v) ∧ w'.cell? ⟨p1.block, p1.off + 5, none⟩ = some (.int .i64 l) ∧ w'.cell? ⟨p1.block, p1.off + 6, none⟩ = some (.int .i64 g) ∧ w'.cell? ⟨p1.block, p1.off + 7, none⟩ = some (.int .i64 k) ∧ w'.cell? ⟨p1.block, p1.off + 8, none⟩ = some (.int .i64 t) ∧ w'.cell? ⟨p1.block, p1.off + 9, none⟩ = some (.int .i64 c) ∧ w'.cell? ⟨p1.block, p1.off + 10, none⟩ = some (.int .i64 s)) (go_keep) (fail)
  try rw [e4]
  clear y0 y1 y2 y3 y4 y5 y6 y7 y8 y9 y10 e1 e2 e3 e4 hn u1 u2 v1 v2
  have X0 := Lib.hid ((Cells.new w1 30 #[.int .i64 a, .int .i64 h, .int .i64 r, .int .u64 n, .int .i64 l, .int .i64 g, .int .i64 k, .int .i64 t, .int .i64 c, .int .i64 s]).below ((Drew.one _).below (w1.heap.size + 1)) (Nat.lt_succ_self _))
  replace T0 := Lib.hid ((T0.out.alloc (.cells #[.int .i64 a, .int .i64 h, .int .i64 r, .int .u64 n, .int .i64 l, .int .i64 g, .int .i64 k, .int .i64 t, .int .i64 c, .int .i64 s] 30)).below ((Drew.one _).below w1.heap.size) T0.out.lt)
  replace B0 := Lib.hid ((B0.out.alloc B0.out.size (.cells #[.int .i64 a, .int .i64 h, .int .i64 r, .int .u64 n, .int .i64 l, .int .i64 g, .int .i64 k, .int .i64 t, .int .i64 c, .int .i64 s] 30)).drew)
  replace t0 := T0.out.c 0 rfl
  replace t1 := T0.out.c 1 rfl
  replace t2 := T0.out.c 2 rfl
  replace t3 := T0.out.c 3 rfl
  replace t4 := T0.out.c 4 rfl
  replace t5 := T0.out.c 5 rfl
  replace t6 := T0.out.c 6 rfl
  replace t7 := T0.out.c 7 rfl
  replace t8 := T0.out.c 8 rfl
  replace t9 := T0.out.c 9 rfl
  replace tl := T0.out.lt
  replace f0 := T0.out.free 0
  replace f1 := T0.out.free 1
  replace f2 := T0.out.free 2
  replace f3 := T0.out.free 3
  replace f4 := T0.out.free 4
  replace f5 := T0.out.free 5
  replace f6 := T0.out.free 6
  replace f7 := T0.out.free 7
  replace f8 := T0.out.free 8
  replace f9 := T0.out.free 9
  have x0 := X0.out.c 0 rfl
  have x1 := X0.out.c 1 rfl
  have x2 := X0.out.c 2 rfl
  have x3 := X0.out.c 3 rfl
  have x4 := X0.out.c 4 rfl
  have x5 := X0.out.c 5 rfl
  have x6 := X0.out.c 6 rfl
  have x7 := X0.out.c 7 rfl
  have x8 := X0.out.c 8 rfl
  have x9 := X0.out.c 9 rfl
  have xl := X0.out.lt
  obtain ⟨W2, hW2⟩ : ∃ W2, (w1.alloc (.cells #[.int .i64 a, .int .i64 h, .int .i64 r, .int .u64 n, .int .i64 l, .int .i64 g, .int .i64 k, .int .i64 t, .int .i64 c, .int .i64 s] 30)).drew = W2 := ⟨_, rfl⟩
  rw [hW2] at X0 T0 B0 t0 t1 t2 t3 t4 t5 t6 t7 t8 t9 tl f0 f1 f2 f3 f4 f5 f6 f7 f8 f9 x0 x1 x2 x3 x4 x5 x6 x7 x8 x9 xl ⊢
  go_wp2_with (go_at_call 21; (with_reducible refine (RQ.out _).mono ?_); rintro e w9 ⟨rfl, b9⟩; replace X0 := Lib.hid (X0.out.below b9 X0.out.lt); replace T0 := Lib.hid (T0.out.below b9 T0.out.lt); replace B0 := Lib.hid (below_more B0.out b9); replace t0 := T0.out.c 0 rfl; replace t1 := T0.out.c 1 rfl; replace t2 := T0.out.c 2 rfl; replace t3 := T0.out.c 3 rfl; replace t4 := T0.out.c 4 rfl; replace t5 := T0.out.c 5 rfl; replace t6 := T0.out.c 6 rfl; replace t7 := T0.out.c 7 rfl; replace t8 := T0.out.c 8 rfl; replace t9 := T0.out.c 9 rfl; replace tl := T0.out.lt; replace f0 := T0.out.free 0; replace f1 := T0.out.free 1; replace f2 := T0.out.free 2; replace f3 := T0.out.free 3; replace f4 := T0.out.free 4; replace f5 := T0.out.free 5; replace f6 := T0.out.free 6; replace f7 := T0.out.free 7; replace f8 := T0.out.free 8; replace f9 := T0.out.free 9; clear b9; replace x0 := X0.out.c 0 rfl; replace x1 := X0.out.c 1 rfl; replace x2 := X0.out.c 2 rfl; replace x3 := X0.out.c 3 rfl; replace x4 := X0.out.c 4 rfl; replace x5 := X0.out.c 5 rfl; replace x6 := X0.out.c 6 rfl; replace x7 := X0.out.c 7 rfl; replace x8 := X0.out.c 8 rfl; replace x9 := X0.out.c 9 rfl; replace xl := X0.out.lt; clear RQ)
  refine bodyPost_ret (v := .tuple #[.agg #[.int .i64 a, .int .i64 h, .int .i64 r, .int .u64 n, .int .i64 l, .int .i64 g, .int .i64 k, .int .i64 t, .int .i64 c, .int .i64 s], .int .i64 0]) (by simp [results, Try.results19, go_sem, t0, t1, t2, t3, t4, t5, t6, t7, t8, t9, tl]) rfl ⟨rfl, ?_⟩
  exact ((((((((((B0.out.setCell (p := ⟨w.heap.size, 0, none⟩) (Nat.le_refl _) _).setCell (p := ⟨w.heap.size, 1, none⟩) (Nat.le_refl _) _).setCell (p := ⟨w.heap.size, 2, none⟩) (Nat.le_refl _) _).setCell (p := ⟨w.heap.size, 3, none⟩) (Nat.le_refl _) _).setCell (p := ⟨w.heap.size, 4, none⟩) (Nat.le_refl _) _).setCell (p := ⟨w.heap.size, 5, none⟩) (Nat.le_refl _) _).setCell (p := ⟨w.heap.size, 6, none⟩) (Nat.le_refl _) _).setCell (p := ⟨w.heap.size, 7, none⟩) (Nat.le_refl _) _).setCell (p := ⟨w.heap.size, 8, none⟩) (Nat.le_refl _) _).setCell (p := ⟨w.heap.size, 9, none⟩) (Nat.le_refl _) _)
theorem rgetp_any (A : Option Addr) (n cap : Nat) (bs : List UInt8) (hn : n ≤ 100000) (hc : n ≤ cap) (hm : cap ≤ 9223372036854775807) (w : World) (hr : Row8 w.heap.size w A n bs) :
    Calls Try.prog 19 #[.slice A n cap] w (Gives (.tuple #[rpV ((getP bs).getD Rp.nil), .int .i64 (if (getP bs).isSome then 0 else 7)]) w) := by
  match bs, hr with
  | [], hr =>
    obtain rfl : n = 0 := by simpa using hr.1.symm
    exact rgetp_short A cap w
  | c :: b, hr =>
    obtain ⟨m, rfl⟩ : ∃ m, n = m + 1 := ⟨b.length, by simpa using hr.1.symm⟩
    obtain ⟨p, rfl, hp, -⟩ := hr.2 (by omega)
    have HX : Hid (∀ W, Below w.heap.size w W → W.cell? p = some (.int .u8 ((c.toNat : Nat) : Int))) := fun W hb => by
      obtain ⟨p', e, -, hx⟩ := (hr.step hb).2 (by omega)
      obtain rfl := Option.some.inj e
      have x0 := hx 0 (by omega)
      rw [addr_add0] at x0
      exact x0
    rw [getP_at]
    by_cases h1 : c = 2
    · subst h1
      rw [if_pos rfl]
      have hbm : b.length = m := by simpa using hr.1
      have RG : ∀ (q : Addr) (capx : Nat), (q = p.add 1 ∨ m = 0) → Hid (∀ W, Below w.heap.size w W → Calls Try.prog 30 #[.slice (some q) m capx] W (GetEnd (getR b) W)) := fun q capx hq W hb => by
        have k := RowV.cut (q := q) (k := m) (at_ := 1) (hr.step hb) (by omega) hq
        rw [show ((2 :: b : List UInt8).drop 1).take m = b by rw [List.drop_succ_cons, List.drop_zero, ← hbm, List.take_length]] at k
        exact rget_any (some q) m capx b W k (by omega)
      cases hg : getR b with
      | none =>
        rw [hg] at RG
        by_cases cc : cap = 1
        · subst cc
          obtain rfl : m = 0 := by omega
          exact rgetp_none1 p w HX (RG p 0 (.inr rfl))
        · exact rgetp_none p m cap w hc (by omega) hm HX (RG ⟨p.block, p.off + 1, none⟩ (cap - 1) (.inl (addr_add1 p)))
      | some l =>
        have hcap : 1 < cap := by
          cases b with
          | nil => exact absurd (hg.symm.trans (show getR [] = none from rfl)) (by simp)
          | cons x y => simp at hbm; omega
        obtain ⟨hl1, hl2⟩ := getR_in hg
        rw [hg] at RG
        have RG1 := RG ⟨p.block, p.off + 1, none⟩ (cap - 1) (.inl (addr_add1 p))
        show Calls _ _ _ w (Gives (.tuple #[rpV ((ofP l).getD Rp.nil), .int .i64 (if (ofP l).isSome then 0 else 7)]) w)
        by_cases h5 : l.length = 11
        · match l, h5 with
          | [a, h, r, u, v, l, g, k, t, c, s], _ =>
            rw [ofP_at]
            by_cases hh : Half u ∧ Half v
            · by_cases hq : (Rp.mk a h r (u * 4294967296 + v) l g k t c s).Ok
              · rw [if_pos ⟨hh.1, hh.2, hq⟩]
                exact rgetp_good p m cap a h r u v l g k t c s hl2 w hc hcap hm HX RG1 hh.1 hh.2 _ rfl hq
              · rw [if_neg (fun z => hq z.2.2)]
                exact rgetp_no p m cap a h r u v l g k t c s hl2 w hc hcap hm HX RG1 hh.1 hh.2 _ rfl hq
            · rw [if_neg (fun z => hh ⟨z.1, z.2.1⟩)]
              exact rgetp_half p m cap a h r u v l g k t c s hl2 w hc hcap hm HX RG1 hh
        · rw [ofP_len h5]
          exact rgetp_len p m cap l h5 hl2 w hc hcap hm HX RG1
    · rw [if_neg h1]
      have hlt := c.toNat_lt
      exact rgetp_kind p m cap (c.toNat : Nat) w hc hm (by omega) (by omega) (fun z => h1 (UInt8.toNat_inj.1 (by simpa using (by omega : c.toNat = 2)))) HX
end Go.Proofs.Ytmfbnajaocaikaa
