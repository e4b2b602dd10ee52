/- Layer 11: package packet's read of a reply's integers over the landed code (gen/gen_prog.py writes this). -/
import Derived.Test.YtmfbnajaocaikaaGRq
namespace Go.Proofs.Ytmfbnajaocaikaa
open Go.RowKit Go.Sort Go
set_option linter.unusedVariables false
set_option linter.unusedSimpArgs false

set_option maxRecDepth 100000 in
set_option maxHeartbeats 8000000 in
theorem gread11_short (gr gh : Nat) (A : Option Addr) (cap : Nat) (w : World) : Calls Try.prog 36 #[.int .u8 2, .slice A 0 cap, .agg #[.pointer (some ⟨gr, 0, none⟩), .pointer (some ⟨gr, 1, none⟩), .pointer (some ⟨gr, 2, none⟩), .pointer (some ⟨gh, 0, none⟩), .pointer (some ⟨gh, 1, none⟩), .pointer (some ⟨gr, 4, none⟩), .pointer (some ⟨gr, 5, none⟩), .pointer (some ⟨gr, 6, none⟩), .pointer (some ⟨gr, 7, none⟩), .pointer (some ⟨gr, 8, none⟩), .pointer (some ⟨gr, 9, none⟩)], .func (.func 29) #[.pointer (some ⟨gh, 0, none⟩)] #[]] w (Gives (.tuple #[.int .u64 0, .bool false]) w) := by
  obtain ⟨W, hW⟩ : ∃ W, w.alloc (.cells #[.pointer (some ⟨gr, 0, none⟩), .pointer (some ⟨gr, 1, none⟩), .pointer (some ⟨gr, 2, none⟩), .pointer (some ⟨gh, 0, none⟩), .pointer (some ⟨gh, 1, none⟩), .pointer (some ⟨gr, 4, none⟩), .pointer (some ⟨gr, 5, none⟩), .pointer (some ⟨gr, 6, none⟩), .pointer (some ⟨gr, 7, none⟩), .pointer (some ⟨gr, 8, none⟩), .pointer (some ⟨gr, 9, none⟩)] 71) = W := ⟨_, rfl⟩
  have T0 : Hid (Cells W w.heap.size 71 #[.pointer (some ⟨gr, 0, none⟩), .pointer (some ⟨gr, 1, none⟩), .pointer (some ⟨gr, 2, none⟩), .pointer (some ⟨gh, 0, none⟩), .pointer (some ⟨gh, 1, none⟩), .pointer (some ⟨gr, 4, none⟩), .pointer (some ⟨gr, 5, none⟩), .pointer (some ⟨gr, 6, none⟩), .pointer (some ⟨gr, 7, none⟩), .pointer (some ⟨gr, 8, none⟩), .pointer (some ⟨gr, 9, none⟩)]) := by rw [← hW]; exact Cells.new w _ _
  have B0 : Hid (Below w.heap.size w W) := by rw [← hW]; exact below_alloc w _
  have t0 := T0.out.c 0 rfl
  have t1 := T0.out.c 1 rfl
  have t2 := T0.out.c 2 rfl
  have t3 := T0.out.c 3 rfl
  have t4 := T0.out.c 4 rfl
  have t5 := T0.out.c 5 rfl
  have t6 := T0.out.c 6 rfl
  have t7 := T0.out.c 7 rfl
  have t8 := T0.out.c 8 rfl
  have t9 := T0.out.c 9 rfl
  have t10 := T0.out.c 10 rfl
  have tl := T0.out.lt
  go_enter Try.func36, Try.ntmps36
  go_wp2_with fail
  go_ret2
  exact ⟨rfl, B0.out⟩
set_option maxRecDepth 100000 in
set_option maxHeartbeats 8000000 in
theorem gread11_kind (gr gh : Nat) (p : Addr) (m cap : Nat) (c : Int) (w : World) (hc : m + 1 ≤ cap) (hm : cap ≤ 9223372036854775807) (c0 : 0 ≤ c) (c1 : c ≤ 255) (h1 : c ≠ 2) (HX : Hid (∀ W, Below w.heap.size w W → W.cell? p = some (.int .u8 c))) : Calls Try.prog 36 #[.int .u8 2, .slice (some p) (m + 1) cap, .agg #[.pointer (some ⟨gr, 0, none⟩), .pointer (some ⟨gr, 1, none⟩), .pointer (some ⟨gr, 2, none⟩), .pointer (some ⟨gh, 0, none⟩), .pointer (some ⟨gh, 1, none⟩), .pointer (some ⟨gr, 4, none⟩), .pointer (some ⟨gr, 5, none⟩), .pointer (some ⟨gr, 6, none⟩), .pointer (some ⟨gr, 7, none⟩), .pointer (some ⟨gr, 8, none⟩), .pointer (some ⟨gr, 9, none⟩)], .func (.func 29) #[.pointer (some ⟨gh, 0, none⟩)] #[]] w (Gives (.tuple #[.int .u64 0, .bool false]) w) := by
  obtain ⟨W, hW⟩ : ∃ W, w.alloc (.cells #[.pointer (some ⟨gr, 0, none⟩), .pointer (some ⟨gr, 1, none⟩), .pointer (some ⟨gr, 2, none⟩), .pointer (some ⟨gh, 0, none⟩), .pointer (some ⟨gh, 1, none⟩), .pointer (some ⟨gr, 4, none⟩), .pointer (some ⟨gr, 5, none⟩), .pointer (some ⟨gr, 6, none⟩), .pointer (some ⟨gr, 7, none⟩), .pointer (some ⟨gr, 8, none⟩), .pointer (some ⟨gr, 9, none⟩)] 71) = W := ⟨_, rfl⟩
  have T0 : Hid (Cells W w.heap.size 71 #[.pointer (some ⟨gr, 0, none⟩), .pointer (some ⟨gr, 1, none⟩), .pointer (some ⟨gr, 2, none⟩), .pointer (some ⟨gh, 0, none⟩), .pointer (some ⟨gh, 1, none⟩), .pointer (some ⟨gr, 4, none⟩), .pointer (some ⟨gr, 5, none⟩), .pointer (some ⟨gr, 6, none⟩), .pointer (some ⟨gr, 7, none⟩), .pointer (some ⟨gr, 8, none⟩), .pointer (some ⟨gr, 9, none⟩)]) := by rw [← hW]; exact Cells.new w _ _
  have B0 : Hid (Below w.heap.size w W) := by rw [← hW]; exact below_alloc w _
  have t0 := T0.out.c 0 rfl
  have t1 := T0.out.c 1 rfl
  have t2 := T0.out.c 2 rfl
  have t3 := T0.out.c 3 rfl
  have t4 := T0.out.c 4 rfl
  have t5 := T0.out.c 5 rfl
  have t6 := T0.out.c 6 rfl
  have t7 := T0.out.c 7 rfl
  have t8 := T0.out.c 8 rfl
  have t9 := T0.out.c 9 rfl
  have t10 := T0.out.c 10 rfl
  have tl := T0.out.lt
  have xb := HX.out W B0.out
  have m0 : ((m : Int) + 1 == 0) = false := by simp; omega
  have d1 : (c != 2) = true := by simpa using h1
  go_enter Try.func36, Try.ntmps36
  go_wp2_with fail
  go_ret2
  exact ⟨rfl, B0.out⟩
set_option maxRecDepth 100000 in
set_option maxHeartbeats 8000000 in
theorem gread11_none1 (gr gh : Nat) (p : Addr) (w : World) (HX : Hid (∀ W, Below w.heap.size w W → W.cell? p = some (.int .u8 2))) (RG : Hid (∀ W, Below w.heap.size w W → Calls Try.prog 44 #[.slice (some p) 0 0] W (GetEnd none W))) : Calls Try.prog 36 #[.int .u8 2, .slice (some p) 1 1, .agg #[.pointer (some ⟨gr, 0, none⟩), .pointer (some ⟨gr, 1, none⟩), .pointer (some ⟨gr, 2, none⟩), .pointer (some ⟨gh, 0, none⟩), .pointer (some ⟨gh, 1, none⟩), .pointer (some ⟨gr, 4, none⟩), .pointer (some ⟨gr, 5, none⟩), .pointer (some ⟨gr, 6, none⟩), .pointer (some ⟨gr, 7, none⟩), .pointer (some ⟨gr, 8, none⟩), .pointer (some ⟨gr, 9, none⟩)], .func (.func 29) #[.pointer (some ⟨gh, 0, none⟩)] #[]] w (Gives (.tuple #[.int .u64 0, .bool false]) w) := by
  obtain ⟨W, hW⟩ : ∃ W, w.alloc (.cells #[.pointer (some ⟨gr, 0, none⟩), .pointer (some ⟨gr, 1, none⟩), .pointer (some ⟨gr, 2, none⟩), .pointer (some ⟨gh, 0, none⟩), .pointer (some ⟨gh, 1, none⟩), .pointer (some ⟨gr, 4, none⟩), .pointer (some ⟨gr, 5, none⟩), .pointer (some ⟨gr, 6, none⟩), .pointer (some ⟨gr, 7, none⟩), .pointer (some ⟨gr, 8, none⟩), .pointer (some ⟨gr, 9, none⟩)] 71) = W := ⟨_, rfl⟩
  have T0 : Hid (Cells W w.heap.size 71 #[.pointer (some ⟨gr, 0, none⟩), .pointer (some ⟨gr, 1, none⟩), .pointer (some ⟨gr, 2, none⟩), .pointer (some ⟨gh, 0, none⟩), .pointer (some ⟨gh, 1, none⟩), .pointer (some ⟨gr, 4, none⟩), .pointer (some ⟨gr, 5, none⟩), .pointer (some ⟨gr, 6, none⟩), .pointer (some ⟨gr, 7, none⟩), .pointer (some ⟨gr, 8, none⟩), .pointer (some ⟨gr, 9, none⟩)]) := by rw [← hW]; exact Cells.new w _ _
  have B0 : Hid (Below w.heap.size w W) := by rw [← hW]; exact below_alloc w _
  have t0 := T0.out.c 0 rfl
  have t1 := T0.out.c 1 rfl
  have t2 := T0.out.c 2 rfl
  have t3 := T0.out.c 3 rfl
  have t4 := T0.out.c 4 rfl
  have t5 := T0.out.c 5 rfl
  have t6 := T0.out.c 6 rfl
  have t7 := T0.out.c 7 rfl
  have t8 := T0.out.c 8 rfl
  have t9 := T0.out.c 9 rfl
  have t10 := T0.out.c 10 rfl
  have tl := T0.out.lt
  have xb := HX.out W B0.out
  have RG := Lib.hid (RG.out W B0.out)
  go_enter Try.func36, Try.ntmps36
  go_wp2_with (go_at_call 44; (with_reducible refine RG.out.mono ?_); rintro e w1 ⟨b9, rfl⟩; replace T0 := Lib.hid (T0.out.below b9 T0.out.lt); replace B0 := Lib.hid (below_more B0.out b9); replace t0 := T0.out.c 0 rfl; replace t1 := T0.out.c 1 rfl; replace t2 := T0.out.c 2 rfl; replace t3 := T0.out.c 3 rfl; replace t4 := T0.out.c 4 rfl; replace t5 := T0.out.c 5 rfl; replace t6 := T0.out.c 6 rfl; replace t7 := T0.out.c 7 rfl; replace t8 := T0.out.c 8 rfl; replace t9 := T0.out.c 9 rfl; replace t10 := T0.out.c 10 rfl; replace tl := T0.out.lt; clear b9)
  go_ret2
  exact ⟨rfl, B0.out⟩
set_option maxRecDepth 100000 in
set_option maxHeartbeats 8000000 in
theorem gread11_none (gr gh : Nat) (p : Addr) (m cap : Nat) (w : World) (hc : m + 1 ≤ cap) (hcap : 1 < cap) (hm : cap ≤ 9223372036854775807) (HX : Hid (∀ W, Below w.heap.size w W → W.cell? p = some (.int .u8 2))) (RG : Hid (∀ W, Below w.heap.size w W → Calls Try.prog 44 #[.slice (some ⟨p.block, p.off + 1, none⟩) m (cap - 1)] W (GetEnd none W))) : Calls Try.prog 36 #[.int .u8 2, .slice (some p) (m + 1) cap, .agg #[.pointer (some ⟨gr, 0, none⟩), .pointer (some ⟨gr, 1, none⟩), .pointer (some ⟨gr, 2, none⟩), .pointer (some ⟨gh, 0, none⟩), .pointer (some ⟨gh, 1, none⟩), .pointer (some ⟨gr, 4, none⟩), .pointer (some ⟨gr, 5, none⟩), .pointer (some ⟨gr, 6, none⟩), .pointer (some ⟨gr, 7, none⟩), .pointer (some ⟨gr, 8, none⟩), .pointer (some ⟨gr, 9, none⟩)], .func (.func 29) #[.pointer (some ⟨gh, 0, none⟩)] #[]] w (Gives (.tuple #[.int .u64 0, .bool false]) w) := by
  obtain ⟨W, hW⟩ : ∃ W, w.alloc (.cells #[.pointer (some ⟨gr, 0, none⟩), .pointer (some ⟨gr, 1, none⟩), .pointer (some ⟨gr, 2, none⟩), .pointer (some ⟨gh, 0, none⟩), .pointer (some ⟨gh, 1, none⟩), .pointer (some ⟨gr, 4, none⟩), .pointer (some ⟨gr, 5, none⟩), .pointer (some ⟨gr, 6, none⟩), .pointer (some ⟨gr, 7, none⟩), .pointer (some ⟨gr, 8, none⟩), .pointer (some ⟨gr, 9, none⟩)] 71) = W := ⟨_, rfl⟩
  have T0 : Hid (Cells W w.heap.size 71 #[.pointer (some ⟨gr, 0, none⟩), .pointer (some ⟨gr, 1, none⟩), .pointer (some ⟨gr, 2, none⟩), .pointer (some ⟨gh, 0, none⟩), .pointer (some ⟨gh, 1, none⟩), .pointer (some ⟨gr, 4, none⟩), .pointer (some ⟨gr, 5, none⟩), .pointer (some ⟨gr, 6, none⟩), .pointer (some ⟨gr, 7, none⟩), .pointer (some ⟨gr, 8, none⟩), .pointer (some ⟨gr, 9, none⟩)]) := by rw [← hW]; exact Cells.new w _ _
  have B0 : Hid (Below w.heap.size w W) := by rw [← hW]; exact below_alloc w _
  have t0 := T0.out.c 0 rfl
  have t1 := T0.out.c 1 rfl
  have t2 := T0.out.c 2 rfl
  have t3 := T0.out.c 3 rfl
  have t4 := T0.out.c 4 rfl
  have t5 := T0.out.c 5 rfl
  have t6 := T0.out.c 6 rfl
  have t7 := T0.out.c 7 rfl
  have t8 := T0.out.c 8 rfl
  have t9 := T0.out.c 9 rfl
  have t10 := T0.out.c 10 rfl
  have tl := T0.out.lt
  have xb := HX.out W B0.out
  have m0 : ((m : Int) + 1 == 0) = false := by simp; omega
  have RG := Lib.hid (RG.out W B0.out)
  go_enter Try.func36, Try.ntmps36
  go_wp2_with (go_at_call 44; (with_reducible refine RG.out.mono ?_); rintro e w1 ⟨b9, rfl⟩; replace T0 := Lib.hid (T0.out.below b9 T0.out.lt); replace B0 := Lib.hid (below_more B0.out b9); replace t0 := T0.out.c 0 rfl; replace t1 := T0.out.c 1 rfl; replace t2 := T0.out.c 2 rfl; replace t3 := T0.out.c 3 rfl; replace t4 := T0.out.c 4 rfl; replace t5 := T0.out.c 5 rfl; replace t6 := T0.out.c 6 rfl; replace t7 := T0.out.c 7 rfl; replace t8 := T0.out.c 8 rfl; replace t9 := T0.out.c 9 rfl; replace t10 := T0.out.c 10 rfl; replace tl := T0.out.lt; clear b9)
  go_ret2
  exact ⟨rfl, B0.out⟩
set_option maxRecDepth 100000 in
set_option maxHeartbeats 8000000 in
theorem gread11_len (gr gh : Nat) (p : Addr) (m cap : Nat) (l : List Int) (hl : l.length ≠ 11) (hi : ∀ x ∈ l, -9223372036854775808 ≤ x ∧ x ≤ 9223372036854775807) (w : World) (hc : m + 1 ≤ cap) (hcap : 1 < cap) (hm : cap ≤ 9223372036854775807) (HX : Hid (∀ W, Below w.heap.size w W → W.cell? p = some (.int .u8 2))) (RG : Hid (∀ W, Below w.heap.size w W → Calls Try.prog 44 #[.slice (some ⟨p.block, p.off + 1, none⟩) m (cap - 1)] W (GetEnd (some l) W))) : Calls Try.prog 36 #[.int .u8 2, .slice (some p) (m + 1) cap, .agg #[.pointer (some ⟨gr, 0, none⟩), .pointer (some ⟨gr, 1, none⟩), .pointer (some ⟨gr, 2, none⟩), .pointer (some ⟨gh, 0, none⟩), .pointer (some ⟨gh, 1, none⟩), .pointer (some ⟨gr, 4, none⟩), .pointer (some ⟨gr, 5, none⟩), .pointer (some ⟨gr, 6, none⟩), .pointer (some ⟨gr, 7, none⟩), .pointer (some ⟨gr, 8, none⟩), .pointer (some ⟨gr, 9, none⟩)], .func (.func 29) #[.pointer (some ⟨gh, 0, none⟩)] #[]] w (Gives (.tuple #[.int .u64 0, .bool false]) w) := by
  have HI := Lib.hid hi
  have H5 := Lib.hid hl
  clear hi hl
  obtain ⟨W, hW⟩ : ∃ W, w.alloc (.cells #[.pointer (some ⟨gr, 0, none⟩), .pointer (some ⟨gr, 1, none⟩), .pointer (some ⟨gr, 2, none⟩), .pointer (some ⟨gh, 0, none⟩), .pointer (some ⟨gh, 1, none⟩), .pointer (some ⟨gr, 4, none⟩), .pointer (some ⟨gr, 5, none⟩), .pointer (some ⟨gr, 6, none⟩), .pointer (some ⟨gr, 7, none⟩), .pointer (some ⟨gr, 8, none⟩), .pointer (some ⟨gr, 9, none⟩)] 71) = W := ⟨_, rfl⟩
  have T0 : Hid (Cells W w.heap.size 71 #[.pointer (some ⟨gr, 0, none⟩), .pointer (some ⟨gr, 1, none⟩), .pointer (some ⟨gr, 2, none⟩), .pointer (some ⟨gh, 0, none⟩), .pointer (some ⟨gh, 1, none⟩), .pointer (some ⟨gr, 4, none⟩), .pointer (some ⟨gr, 5, none⟩), .pointer (some ⟨gr, 6, none⟩), .pointer (some ⟨gr, 7, none⟩), .pointer (some ⟨gr, 8, none⟩), .pointer (some ⟨gr, 9, none⟩)]) := by rw [← hW]; exact Cells.new w _ _
  have B0 : Hid (Below w.heap.size w W) := by rw [← hW]; exact below_alloc w _
  have t0 := T0.out.c 0 rfl
  have t1 := T0.out.c 1 rfl
  have t2 := T0.out.c 2 rfl
  have t3 := T0.out.c 3 rfl
  have t4 := T0.out.c 4 rfl
  have t5 := T0.out.c 5 rfl
  have t6 := T0.out.c 6 rfl
  have t7 := T0.out.c 7 rfl
  have t8 := T0.out.c 8 rfl
  have t9 := T0.out.c 9 rfl
  have t10 := T0.out.c 10 rfl
  have tl := T0.out.lt
  have xb := HX.out W B0.out
  have m0 : ((m : Int) + 1 == 0) = false := by simp; omega
  have RG := Lib.hid (RG.out W B0.out)
  go_enter Try.func36, Try.ntmps36
  go_wp2_with (go_at_call 44; (with_reducible refine RG.out.mono ?_); rintro e w1 ⟨b9, v, rfl, ho⟩; obtain ⟨A1, n1, cap1, rfl, k1, k2, k3, k4⟩ := ho.row HI.out; have n5 : ((n1 : Int) != 11) = true := (by have := k4.1; have := H5.out; simp; omega); replace T0 := Lib.hid (T0.out.below b9 T0.out.lt); replace B0 := Lib.hid (below_more B0.out b9); replace t0 := T0.out.c 0 rfl; replace t1 := T0.out.c 1 rfl; replace t2 := T0.out.c 2 rfl; replace t3 := T0.out.c 3 rfl; replace t4 := T0.out.c 4 rfl; replace t5 := T0.out.c 5 rfl; replace t6 := T0.out.c 6 rfl; replace t7 := T0.out.c 7 rfl; replace t8 := T0.out.c 8 rfl; replace t9 := T0.out.c 9 rfl; replace t10 := T0.out.c 10 rfl; replace tl := T0.out.lt; clear b9; clear k1 k2 k3 k4 ho)
  go_ret2
  exact ⟨rfl, B0.out⟩
set_option maxRecDepth 100000 in
set_option maxHeartbeats 8000000 in
theorem gread11_u (gr gh : Nat) (p : Addr) (m cap : Nat) (x0 x1 x2 x3 x4 x5 x6 x7 x8 x9 x10 : Int) (w : World) (hc : m + 1 ≤ cap) (hcap : 1 < cap) (hm : cap ≤ 9223372036854775807) (HX : Hid (∀ W, Below w.heap.size w W → W.cell? p = some (.int .u8 2))) (RG : Hid (∀ W, Below w.heap.size w W → Calls Try.prog 44 #[.slice (some ⟨p.block, p.off + 1, none⟩) m (cap - 1)] W (GetEnd (some [x0, x1, x2, x3, x4, x5, x6, x7, x8, x9, x10]) W))) (hR : Cells w gr 30 #[.int .i64 0, .int .i64 0, .int .i64 0, .int .u64 0, .int .i64 0, .int .i64 0, .int .i64 0, .int .i64 0, .int .i64 0, .int .i64 0]) (hH : Cells w gh 53 #[.int .i64 0, .int .i64 0]) (hne : gr ≠ gh) (hu : ¬ Half x3) :
    Calls Try.prog 36 #[.int .u8 2, .slice (some p) (m + 1) cap, .agg #[.pointer (some ⟨gr, 0, none⟩), .pointer (some ⟨gr, 1, none⟩), .pointer (some ⟨gr, 2, none⟩), .pointer (some ⟨gh, 0, none⟩), .pointer (some ⟨gh, 1, none⟩), .pointer (some ⟨gr, 4, none⟩), .pointer (some ⟨gr, 5, none⟩), .pointer (some ⟨gr, 6, none⟩), .pointer (some ⟨gr, 7, none⟩), .pointer (some ⟨gr, 8, none⟩), .pointer (some ⟨gr, 9, none⟩)], .func (.func 29) #[.pointer (some ⟨gh, 0, none⟩)] #[]] w fun e w' => e = .returned (.tuple #[.int .u64 0, .bool false]) ∧ Keep2 w w' gr gh ∧ Cells w' gr 30 #[.int .i64 x0, .int .i64 x1, .int .i64 x2, .int .u64 0, .int .i64 x5, .int .i64 x6, .int .i64 x7, .int .i64 x8, .int .i64 x9, .int .i64 x10] ∧ Cells w' gh 53 #[.int .i64 x3, .int .i64 x4] := by
  obtain ⟨W, hW⟩ : ∃ W, w.alloc (.cells #[.pointer (some ⟨gr, 0, none⟩), .pointer (some ⟨gr, 1, none⟩), .pointer (some ⟨gr, 2, none⟩), .pointer (some ⟨gh, 0, none⟩), .pointer (some ⟨gh, 1, none⟩), .pointer (some ⟨gr, 4, none⟩), .pointer (some ⟨gr, 5, none⟩), .pointer (some ⟨gr, 6, none⟩), .pointer (some ⟨gr, 7, none⟩), .pointer (some ⟨gr, 8, none⟩), .pointer (some ⟨gr, 9, none⟩)] 71) = W := ⟨_, rfl⟩
  have T0 : Hid (Cells W w.heap.size 71 #[.pointer (some ⟨gr, 0, none⟩), .pointer (some ⟨gr, 1, none⟩), .pointer (some ⟨gr, 2, none⟩), .pointer (some ⟨gh, 0, none⟩), .pointer (some ⟨gh, 1, none⟩), .pointer (some ⟨gr, 4, none⟩), .pointer (some ⟨gr, 5, none⟩), .pointer (some ⟨gr, 6, none⟩), .pointer (some ⟨gr, 7, none⟩), .pointer (some ⟨gr, 8, none⟩), .pointer (some ⟨gr, 9, none⟩)]) := by rw [← hW]; exact Cells.new w _ _
  have B0 : Hid (Below w.heap.size w W) := by rw [← hW]; exact below_alloc w _
  have t0 := T0.out.c 0 rfl
  have t1 := T0.out.c 1 rfl
  have t2 := T0.out.c 2 rfl
  have t3 := T0.out.c 3 rfl
  have t4 := T0.out.c 4 rfl
  have t5 := T0.out.c 5 rfl
  have t6 := T0.out.c 6 rfl
  have t7 := T0.out.c 7 rfl
  have t8 := T0.out.c 8 rfl
  have t9 := T0.out.c 9 rfl
  have t10 := T0.out.c 10 rfl
  have tl := T0.out.lt
  have xb := HX.out W B0.out
  have m0 : ((m : Int) + 1 == 0) = false := by simp; omega
  have RG := Lib.hid (RG.out W B0.out)
  have HR := Lib.hid (hR.below B0.out hR.lt)
  have HH := Lib.hid (hH.below B0.out hH.lt)
  have HN := Lib.hid (And.intro hR.lt hH.lt)
  have HLT := Lib.hid (And.intro hR.lt hH.lt)
  have HNE := Lib.hid hne
  clear hR hH hne
  go_enter Try.func36, Try.ntmps36
  go_wp2_with (go_at_call 44; (with_reducible refine RG.out.mono ?_); rintro e w1 ⟨b9, v9, rfl, ho⟩; obtain ⟨g1, cap1, rfl, hg1, hg2, hg3⟩ := own_cellsI ho (n := 11) rfl (by omega); replace HR := Lib.hid (HR.out.below b9 HR.out.lt); replace HH := Lib.hid (HH.out.below b9 HH.out.lt); replace HN := Lib.hid (And.intro (Nat.lt_of_lt_of_le HN.out.1 B0.out.size) (Nat.lt_of_lt_of_le HN.out.2 B0.out.size)); have HW1 := Lib.hid b9.size; replace T0 := Lib.hid (T0.out.below b9 T0.out.lt); replace B0 := Lib.hid (below_more B0.out b9); replace t0 := T0.out.c 0 rfl; replace t1 := T0.out.c 1 rfl; replace t2 := T0.out.c 2 rfl; replace t3 := T0.out.c 3 rfl; replace t4 := T0.out.c 4 rfl; replace t5 := T0.out.c 5 rfl; replace t6 := T0.out.c 6 rfl; replace t7 := T0.out.c 7 rfl; replace t8 := T0.out.c 8 rfl; replace t9 := T0.out.c 9 rfl; replace t10 := T0.out.c 10 rfl; replace tl := T0.out.lt; clear b9; have HG := Lib.hid hg1; have HY := Lib.hid hg3; clear hg1 hg2 hg3 ho; refine Hid.out ?_)
  refine Lib.hid ?_
  have B1 := Lib.hid (Keep2.of_below (g := gr) (h := gh) B0.out)
  have YC : Hid (∀ wr, Keep2 w1 wr gr gh → wr.cell? ⟨g1, 0, none⟩ = some (.int .i64 x0) ∧ wr.cell? ⟨g1, 1, none⟩ = some (.int .i64 x1) ∧ wr.cell? ⟨g1, 2, none⟩ = some (.int .i64 x2) ∧ wr.cell? ⟨g1, 3, none⟩ = some (.int .i64 x3) ∧ wr.cell? ⟨g1, 4, none⟩ = some (.int .i64 x4) ∧ wr.cell? ⟨g1, 5, none⟩ = some (.int .i64 x5) ∧ wr.cell? ⟨g1, 6, none⟩ = some (.int .i64 x6) ∧ wr.cell? ⟨g1, 7, none⟩ = some (.int .i64 x7) ∧ wr.cell? ⟨g1, 8, none⟩ = some (.int .i64 x8) ∧ wr.cell? ⟨g1, 9, none⟩ = some (.int .i64 x9) ∧ wr.cell? ⟨g1, 10, none⟩ = some (.int .i64 x10)) := fun wr kp => by
    have z := fun i hi => kp.cell (HY.out i hi) (show g1 ≠ gr by have := HG.out; have := HN.out; omega) (show g1 ≠ gh by have := HG.out; have := HN.out; omega)
    exact ⟨z 0 (by simp), z 1 (by simp), z 2 (by simp), z 3 (by simp), z 4 (by simp), z 5 (by simp), z 6 (by simp), z 7 (by simp), z 8 (by simp), z 9 (by simp), z 10 (by simp)⟩
  have TC : Hid (∀ wr, Keep2 w1 wr gr gh → Cells wr w.heap.size 71 #[.pointer (some ⟨gr, 0, none⟩), .pointer (some ⟨gr, 1, none⟩), .pointer (some ⟨gr, 2, none⟩), .pointer (some ⟨gh, 0, none⟩), .pointer (some ⟨gh, 1, none⟩), .pointer (some ⟨gr, 4, none⟩), .pointer (some ⟨gr, 5, none⟩), .pointer (some ⟨gr, 6, none⟩), .pointer (some ⟨gr, 7, none⟩), .pointer (some ⟨gr, 8, none⟩), .pointer (some ⟨gr, 9, none⟩)]) := fun wr kp => kp.cells T0.out (by have := HLT.out; omega) (by have := HLT.out; omega)
  clear HX RG HY HG
  clear hW xb
  go_wp2_with fail
  clear t0 t1 t2 t3 t4 t5 t6 t7 t8 t9 t10 tl
  go_loopw [41] (fun i wr => ∃ k : Nat, k ≤ 11 ∧ i = .int .i64 k ∧ Hid (Keep2 w1 wr gr gh) ∧ Hid (Cells wr gr 30 #[.int .i64 (if 0 < k then x0 else 0), .int .i64 (if 1 < k then x1 else 0), .int .i64 (if 2 < k then x2 else 0), .int .u64 0, .int .i64 (if 5 < k then x5 else 0), .int .i64 (if 6 < k then x6 else 0), .int .i64 (if 7 < k then x7 else 0), .int .i64 (if 8 < k then x8 else 0), .int .i64 (if 9 < k then x9 else 0), .int .i64 (if 10 < k then x10 else 0)]) ∧ Hid (Cells wr gh 53 #[.int .i64 (if 3 < k then x3 else 0), .int .i64 (if 4 < k then x4 else 0)])) (fun i _ => 11 - (intOf i).toNat)
  case atStart => exact ⟨0, Nat.zero_le _, rfl, Keep2.refl _ _ _, HR.out, HH.out⟩
  case round =>
    obtain ⟨k, hk, rfl, KP, LR, LH⟩ := hrel
    have ta := TC.out _ KP.out
    have t0 := ta.c 0 rfl
    have t1 := ta.c 1 rfl
    have t2 := ta.c 2 rfl
    have t3 := ta.c 3 rfl
    have t4 := ta.c 4 rfl
    have t5 := ta.c 5 rfl
    have t6 := ta.c 6 rfl
    have t7 := ta.c 7 rfl
    have t8 := ta.c 8 rfl
    have t9 := ta.c 9 rfl
    have t10 := ta.c 10 rfl
    have tl := ta.lt
    obtain ⟨y0, y1, y2, y3, y4, y5, y6, y7, y8, y9, y10⟩ := YC.out _ KP.out
    clear ta
    have rl := LR.out.lt
    have hl := LH.out.lt
    rcases (by omega : k = 0 ∨ k = 1 ∨ k = 2 ∨ k = 3 ∨ k = 4 ∨ k = 5 ∨ k = 6 ∨ k = 7 ∨ k = 8 ∨ k = 9 ∨ k = 10 ∨ k = 11) with rfl | rfl | rfl | rfl | rfl | rfl | rfl | rfl | rfl | rfl | rfl | rfl
    · have lf := LR.out.free 0
      have lc := LR.out.c 0 rfl
      go_wp2_with fail
      go_roundw
      case rel => exact ⟨1, by omega, by go_num, KP.out.set1 _ _, (LR.out.set 0 _), (LH.out.other (p := ⟨gr, 0, none⟩) (Ne.symm HNE.out) _)⟩
      case measure => simp [intOf]
    · have lf := LR.out.free 1
      have lc := LR.out.c 1 rfl
      go_wp2_with fail
      go_roundw
      case rel => exact ⟨2, by omega, by go_num, KP.out.set1 _ _, (LR.out.set 1 _), (LH.out.other (p := ⟨gr, 1, none⟩) (Ne.symm HNE.out) _)⟩
      case measure => simp [intOf]
    · have lf := LR.out.free 2
      have lc := LR.out.c 2 rfl
      go_wp2_with fail
      go_roundw
      case rel => exact ⟨3, by omega, by go_num, KP.out.set1 _ _, (LR.out.set 2 _), (LH.out.other (p := ⟨gr, 2, none⟩) (Ne.symm HNE.out) _)⟩
      case measure => simp [intOf]
    · have lf := LH.out.free 0
      have lc := LH.out.c 0 rfl
      go_wp2_with fail
      go_roundw
      case rel => exact ⟨4, by omega, by go_num, KP.out.set2 _ _, (LR.out.other (p := ⟨gh, 0, none⟩) HNE.out _), (LH.out.set 0 _)⟩
      case measure => simp [intOf]
    · have lf := LH.out.free 1
      have lc := LH.out.c 1 rfl
      go_wp2_with fail
      go_roundw
      case rel => exact ⟨5, by omega, by go_num, KP.out.set2 _ _, (LR.out.other (p := ⟨gh, 1, none⟩) HNE.out _), (LH.out.set 1 _)⟩
      case measure => simp [intOf]
    · have lf := LR.out.free 4
      have lc := LR.out.c 4 rfl
      go_wp2_with fail
      go_roundw
      case rel => exact ⟨6, by omega, by go_num, KP.out.set1 _ _, (LR.out.set 4 _), (LH.out.other (p := ⟨gr, 4, none⟩) (Ne.symm HNE.out) _)⟩
      case measure => simp [intOf]
    · have lf := LR.out.free 5
      have lc := LR.out.c 5 rfl
      go_wp2_with fail
      go_roundw
      case rel => exact ⟨7, by omega, by go_num, KP.out.set1 _ _, (LR.out.set 5 _), (LH.out.other (p := ⟨gr, 5, none⟩) (Ne.symm HNE.out) _)⟩
      case measure => simp [intOf]
    · have lf := LR.out.free 6
      have lc := LR.out.c 6 rfl
      go_wp2_with fail
      go_roundw
      case rel => exact ⟨8, by omega, by go_num, KP.out.set1 _ _, (LR.out.set 6 _), (LH.out.other (p := ⟨gr, 6, none⟩) (Ne.symm HNE.out) _)⟩
      case measure => simp [intOf]
    · have lf := LR.out.free 7
      have lc := LR.out.c 7 rfl
      go_wp2_with fail
      go_roundw
      case rel => exact ⟨9, by omega, by go_num, KP.out.set1 _ _, (LR.out.set 7 _), (LH.out.other (p := ⟨gr, 7, none⟩) (Ne.symm HNE.out) _)⟩
      case measure => simp [intOf]
    · have lf := LR.out.free 8
      have lc := LR.out.c 8 rfl
      go_wp2_with fail
      go_roundw
      case rel => exact ⟨10, by omega, by go_num, KP.out.set1 _ _, (LR.out.set 8 _), (LH.out.other (p := ⟨gr, 8, none⟩) (Ne.symm HNE.out) _)⟩
      case measure => simp [intOf]
    · have lf := LR.out.free 9
      have lc := LR.out.c 9 rfl
      go_wp2_with fail
      go_roundw
      case rel => exact ⟨11, by omega, by go_num, KP.out.set1 _ _, (LR.out.set 9 _), (LH.out.other (p := ⟨gr, 9, none⟩) (Ne.symm HNE.out) _)⟩
      case measure => simp [intOf]
    · have FR : Hid (Cells wr gr 30 #[.int .i64 x0, .int .i64 x1, .int .i64 x2, .int .u64 0, .int .i64 x5, .int .i64 x6, .int .i64 x7, .int .i64 x8, .int .i64 x9, .int .i64 x10]) := LR.out
      have FH : Hid (Cells wr gh 53 #[.int .i64 x3, .int .i64 x4]) := LH.out
      have J := Lib.hid (gjoin_u x3 x4 gh hu wr FH.out)
      have KW := Lib.hid (B1.out.trans KP.out)
      clear LR LH KP YC TC HR HH T0 B0
      go_wp2_with fail
      refine J.out.mono ?_
      rintro e w5 ⟨rfl, dw⟩
      have K5 := Lib.hid (KW.out.drew dw)
      have R5 := Lib.hid (FR.out.below (dw.below wr.heap.size) FR.out.lt)
      have H5 := Lib.hid (FH.out.below (dw.below wr.heap.size) FH.out.lt)
      clear dw
      go_wp2_with fail
      go_ret2
      exact ⟨rfl, K5.out, R5.out, H5.out⟩
set_option maxRecDepth 100000 in
set_option maxHeartbeats 8000000 in
theorem gread11_v (gr gh : Nat) (p : Addr) (m cap : Nat) (x0 x1 x2 x3 x4 x5 x6 x7 x8 x9 x10 : Int) (w : World) (hc : m + 1 ≤ cap) (hcap : 1 < cap) (hm : cap ≤ 9223372036854775807) (HX : Hid (∀ W, Below w.heap.size w W → W.cell? p = some (.int .u8 2))) (RG : Hid (∀ W, Below w.heap.size w W → Calls Try.prog 44 #[.slice (some ⟨p.block, p.off + 1, none⟩) m (cap - 1)] W (GetEnd (some [x0, x1, x2, x3, x4, x5, x6, x7, x8, x9, x10]) W))) (hR : Cells w gr 30 #[.int .i64 0, .int .i64 0, .int .i64 0, .int .u64 0, .int .i64 0, .int .i64 0, .int .i64 0, .int .i64 0, .int .i64 0, .int .i64 0]) (hH : Cells w gh 53 #[.int .i64 0, .int .i64 0]) (hne : gr ≠ gh) (hu : Half x3) (hv : ¬ Half x4) :
    Calls Try.prog 36 #[.int .u8 2, .slice (some p) (m + 1) cap, .agg #[.pointer (some ⟨gr, 0, none⟩), .pointer (some ⟨gr, 1, none⟩), .pointer (some ⟨gr, 2, none⟩), .pointer (some ⟨gh, 0, none⟩), .pointer (some ⟨gh, 1, none⟩), .pointer (some ⟨gr, 4, none⟩), .pointer (some ⟨gr, 5, none⟩), .pointer (some ⟨gr, 6, none⟩), .pointer (some ⟨gr, 7, none⟩), .pointer (some ⟨gr, 8, none⟩), .pointer (some ⟨gr, 9, none⟩)], .func (.func 29) #[.pointer (some ⟨gh, 0, none⟩)] #[]] w fun e w' => e = .returned (.tuple #[.int .u64 0, .bool false]) ∧ Keep2 w w' gr gh ∧ Cells w' gr 30 #[.int .i64 x0, .int .i64 x1, .int .i64 x2, .int .u64 0, .int .i64 x5, .int .i64 x6, .int .i64 x7, .int .i64 x8, .int .i64 x9, .int .i64 x10] ∧ Cells w' gh 53 #[.int .i64 x3, .int .i64 x4] := by
  obtain ⟨W, hW⟩ : ∃ W, w.alloc (.cells #[.pointer (some ⟨gr, 0, none⟩), .pointer (some ⟨gr, 1, none⟩), .pointer (some ⟨gr, 2, none⟩), .pointer (some ⟨gh, 0, none⟩), .pointer (some ⟨gh, 1, none⟩), .pointer (some ⟨gr, 4, none⟩), .pointer (some ⟨gr, 5, none⟩), .pointer (some ⟨gr, 6, none⟩), .pointer (some ⟨gr, 7, none⟩), .pointer (some ⟨gr, 8, none⟩), .pointer (some ⟨gr, 9, none⟩)] 71) = W := ⟨_, rfl⟩
  have T0 : Hid (Cells W w.heap.size 71 #[.pointer (some ⟨gr, 0, none⟩), .pointer (some ⟨gr, 1, none⟩), .pointer (some ⟨gr, 2, none⟩), .pointer (some ⟨gh, 0, none⟩), .pointer (some ⟨gh, 1, none⟩), .pointer (some ⟨gr, 4, none⟩), .pointer (some ⟨gr, 5, none⟩), .pointer (some ⟨gr, 6, none⟩), .pointer (some ⟨gr, 7, none⟩), .pointer (some ⟨gr, 8, none⟩), .pointer (some ⟨gr, 9, none⟩)]) := by rw [← hW]; exact Cells.new w _ _
  have B0 : Hid (Below w.heap.size w W) := by rw [← hW]; exact below_alloc w _
  have t0 := T0.out.c 0 rfl
  have t1 := T0.out.c 1 rfl
  have t2 := T0.out.c 2 rfl
  have t3 := T0.out.c 3 rfl
  have t4 := T0.out.c 4 rfl
  have t5 := T0.out.c 5 rfl
  have t6 := T0.out.c 6 rfl
  have t7 := T0.out.c 7 rfl
  have t8 := T0.out.c 8 rfl
  have t9 := T0.out.c 9 rfl
  have t10 := T0.out.c 10 rfl
  have tl := T0.out.lt
  have xb := HX.out W B0.out
  have m0 : ((m : Int) + 1 == 0) = false := by simp; omega
  have RG := Lib.hid (RG.out W B0.out)
  have HR := Lib.hid (hR.below B0.out hR.lt)
  have HH := Lib.hid (hH.below B0.out hH.lt)
  have HN := Lib.hid (And.intro hR.lt hH.lt)
  have HLT := Lib.hid (And.intro hR.lt hH.lt)
  have HNE := Lib.hid hne
  clear hR hH hne
  go_enter Try.func36, Try.ntmps36
  go_wp2_with (go_at_call 44; (with_reducible refine RG.out.mono ?_); rintro e w1 ⟨b9, v9, rfl, ho⟩; obtain ⟨g1, cap1, rfl, hg1, hg2, hg3⟩ := own_cellsI ho (n := 11) rfl (by omega); replace HR := Lib.hid (HR.out.below b9 HR.out.lt); replace HH := Lib.hid (HH.out.below b9 HH.out.lt); replace HN := Lib.hid (And.intro (Nat.lt_of_lt_of_le HN.out.1 B0.out.size) (Nat.lt_of_lt_of_le HN.out.2 B0.out.size)); have HW1 := Lib.hid b9.size; replace T0 := Lib.hid (T0.out.below b9 T0.out.lt); replace B0 := Lib.hid (below_more B0.out b9); replace t0 := T0.out.c 0 rfl; replace t1 := T0.out.c 1 rfl; replace t2 := T0.out.c 2 rfl; replace t3 := T0.out.c 3 rfl; replace t4 := T0.out.c 4 rfl; replace t5 := T0.out.c 5 rfl; replace t6 := T0.out.c 6 rfl; replace t7 := T0.out.c 7 rfl; replace t8 := T0.out.c 8 rfl; replace t9 := T0.out.c 9 rfl; replace t10 := T0.out.c 10 rfl; replace tl := T0.out.lt; clear b9; have HG := Lib.hid hg1; have HY := Lib.hid hg3; clear hg1 hg2 hg3 ho; refine Hid.out ?_)
  refine Lib.hid ?_
  have B1 := Lib.hid (Keep2.of_below (g := gr) (h := gh) B0.out)
  have YC : Hid (∀ wr, Keep2 w1 wr gr gh → wr.cell? ⟨g1, 0, none⟩ = some (.int .i64 x0) ∧ wr.cell? ⟨g1, 1, none⟩ = some (.int .i64 x1) ∧ wr.cell? ⟨g1, 2, none⟩ = some (.int .i64 x2) ∧ wr.cell? ⟨g1, 3, none⟩ = some (.int .i64 x3) ∧ wr.cell? ⟨g1, 4, none⟩ = some (.int .i64 x4) ∧ wr.cell? ⟨g1, 5, none⟩ = some (.int .i64 x5) ∧ wr.cell? ⟨g1, 6, none⟩ = some (.int .i64 x6) ∧ wr.cell? ⟨g1, 7, none⟩ = some (.int .i64 x7) ∧ wr.cell? ⟨g1, 8, none⟩ = some (.int .i64 x8) ∧ wr.cell? ⟨g1, 9, none⟩ = some (.int .i64 x9) ∧ wr.cell? ⟨g1, 10, none⟩ = some (.int .i64 x10)) := fun wr kp => by
    have z := fun i hi => kp.cell (HY.out i hi) (show g1 ≠ gr by have := HG.out; have := HN.out; omega) (show g1 ≠ gh by have := HG.out; have := HN.out; omega)
    exact ⟨z 0 (by simp), z 1 (by simp), z 2 (by simp), z 3 (by simp), z 4 (by simp), z 5 (by simp), z 6 (by simp), z 7 (by simp), z 8 (by simp), z 9 (by simp), z 10 (by simp)⟩
  have TC : Hid (∀ wr, Keep2 w1 wr gr gh → Cells wr w.heap.size 71 #[.pointer (some ⟨gr, 0, none⟩), .pointer (some ⟨gr, 1, none⟩), .pointer (some ⟨gr, 2, none⟩), .pointer (some ⟨gh, 0, none⟩), .pointer (some ⟨gh, 1, none⟩), .pointer (some ⟨gr, 4, none⟩), .pointer (some ⟨gr, 5, none⟩), .pointer (some ⟨gr, 6, none⟩), .pointer (some ⟨gr, 7, none⟩), .pointer (some ⟨gr, 8, none⟩), .pointer (some ⟨gr, 9, none⟩)]) := fun wr kp => kp.cells T0.out (by have := HLT.out; omega) (by have := HLT.out; omega)
  clear HX RG HY HG
  clear hW xb
  go_wp2_with fail
  clear t0 t1 t2 t3 t4 t5 t6 t7 t8 t9 t10 tl
  go_loopw [41] (fun i wr => ∃ k : Nat, k ≤ 11 ∧ i = .int .i64 k ∧ Hid (Keep2 w1 wr gr gh) ∧ Hid (Cells wr gr 30 #[.int .i64 (if 0 < k then x0 else 0), .int .i64 (if 1 < k then x1 else 0), .int .i64 (if 2 < k then x2 else 0), .int .u64 0, .int .i64 (if 5 < k then x5 else 0), .int .i64 (if 6 < k then x6 else 0), .int .i64 (if 7 < k then x7 else 0), .int .i64 (if 8 < k then x8 else 0), .int .i64 (if 9 < k then x9 else 0), .int .i64 (if 10 < k then x10 else 0)]) ∧ Hid (Cells wr gh 53 #[.int .i64 (if 3 < k then x3 else 0), .int .i64 (if 4 < k then x4 else 0)])) (fun i _ => 11 - (intOf i).toNat)
  case atStart => exact ⟨0, Nat.zero_le _, rfl, Keep2.refl _ _ _, HR.out, HH.out⟩
  case round =>
    obtain ⟨k, hk, rfl, KP, LR, LH⟩ := hrel
    have ta := TC.out _ KP.out
    have t0 := ta.c 0 rfl
    have t1 := ta.c 1 rfl
    have t2 := ta.c 2 rfl
    have t3 := ta.c 3 rfl
    have t4 := ta.c 4 rfl
    have t5 := ta.c 5 rfl
    have t6 := ta.c 6 rfl
    have t7 := ta.c 7 rfl
    have t8 := ta.c 8 rfl
    have t9 := ta.c 9 rfl
    have t10 := ta.c 10 rfl
    have tl := ta.lt
    obtain ⟨y0, y1, y2, y3, y4, y5, y6, y7, y8, y9, y10⟩ := YC.out _ KP.out
    clear ta
    have rl := LR.out.lt
    have hl := LH.out.lt
    rcases (by omega : k = 0 ∨ k = 1 ∨ k = 2 ∨ k = 3 ∨ k = 4 ∨ k = 5 ∨ k = 6 ∨ k = 7 ∨ k = 8 ∨ k = 9 ∨ k = 10 ∨ k = 11) with rfl | rfl | rfl | rfl | rfl | rfl | rfl | rfl | rfl | rfl | rfl | rfl
    · have lf := LR.out.free 0
      have lc := LR.out.c 0 rfl
      go_wp2_with fail
      go_roundw
      case rel => exact ⟨1, by omega, by go_num, KP.out.set1 _ _, (LR.out.set 0 _), (LH.out.other (p := ⟨gr, 0, none⟩) (Ne.symm HNE.out) _)⟩
      case measure => simp [intOf]
    · have lf := LR.out.free 1
      have lc := LR.out.c 1 rfl
      go_wp2_with fail
      go_roundw
      case rel => exact ⟨2, by omega, by go_num, KP.out.set1 _ _, (LR.out.set 1 _), (LH.out.other (p := ⟨gr, 1, none⟩) (Ne.symm HNE.out) _)⟩
      case measure => simp [intOf]
    · have lf := LR.out.free 2
      have lc := LR.out.c 2 rfl
      go_wp2_with fail
      go_roundw
      case rel => exact ⟨3, by omega, by go_num, KP.out.set1 _ _, (LR.out.set 2 _), (LH.out.other (p := ⟨gr, 2, none⟩) (Ne.symm HNE.out) _)⟩
      case measure => simp [intOf]
    · have lf := LH.out.free 0
      have lc := LH.out.c 0 rfl
      go_wp2_with fail
      go_roundw
      case rel => exact ⟨4, by omega, by go_num, KP.out.set2 _ _, (LR.out.other (p := ⟨gh, 0, none⟩) HNE.out _), (LH.out.set 0 _)⟩
      case measure => simp [intOf]
    · have lf := LH.out.free 1
      have lc := LH.out.c 1 rfl
      go_wp2_with fail
      go_roundw
      case rel => exact ⟨5, by omega, by go_num, KP.out.set2 _ _, (LR.out.other (p := ⟨gh, 1, none⟩) HNE.out _), (LH.out.set 1 _)⟩
      case measure => simp [intOf]
    · have lf := LR.out.free 4
      have lc := LR.out.c 4 rfl
      go_wp2_with fail
      go_roundw
      case rel => exact ⟨6, by omega, by go_num, KP.out.set1 _ _, (LR.out.set 4 _), (LH.out.other (p := ⟨gr, 4, none⟩) (Ne.symm HNE.out) _)⟩
      case measure => simp [intOf]
    · have lf := LR.out.free 5
      have lc := LR.out.c 5 rfl
      go_wp2_with fail
      go_roundw
      case rel => exact ⟨7, by omega, by go_num, KP.out.set1 _ _, (LR.out.set 5 _), (LH.out.other (p := ⟨gr, 5, none⟩) (Ne.symm HNE.out) _)⟩
      case measure => simp [intOf]
    · have lf := LR.out.free 6
      have lc := LR.out.c 6 rfl
      go_wp2_with fail
      go_roundw
      case rel => exact ⟨8, by omega, by go_num, KP.out.set1 _ _, (LR.out.set 6 _), (LH.out.other (p := ⟨gr, 6, none⟩) (Ne.symm HNE.out) _)⟩
      case measure => simp [intOf]
    · have lf := LR.out.free 7
      have lc := LR.out.c 7 rfl
      go_wp2_with fail
      go_roundw
      case rel => exact ⟨9, by omega, by go_num, KP.out.set1 _ _, (LR.out.set 7 _), (LH.out.other (p := ⟨gr, 7, none⟩) (Ne.symm HNE.out) _)⟩
      case measure => simp [intOf]
    · have lf := LR.out.free 8
      have lc := LR.out.c 8 rfl
      go_wp2_with fail
      go_roundw
      case rel => exact ⟨10, by omega, by go_num, KP.out.set1 _ _, (LR.out.set 8 _), (LH.out.other (p := ⟨gr, 8, none⟩) (Ne.symm HNE.out) _)⟩
      case measure => simp [intOf]
    · have lf := LR.out.free 9
      have lc := LR.out.c 9 rfl
      go_wp2_with fail
      go_roundw
      case rel => exact ⟨11, by omega, by go_num, KP.out.set1 _ _, (LR.out.set 9 _), (LH.out.other (p := ⟨gr, 9, none⟩) (Ne.symm HNE.out) _)⟩
      case measure => simp [intOf]
    · have FR : Hid (Cells wr gr 30 #[.int .i64 x0, .int .i64 x1, .int .i64 x2, .int .u64 0, .int .i64 x5, .int .i64 x6, .int .i64 x7, .int .i64 x8, .int .i64 x9, .int .i64 x10]) := LR.out
      have FH : Hid (Cells wr gh 53 #[.int .i64 x3, .int .i64 x4]) := LH.out
      have J := Lib.hid (gjoin_v x3 x4 gh hu hv wr FH.out)
      have KW := Lib.hid (B1.out.trans KP.out)
      clear LR LH KP YC TC HR HH T0 B0
      go_wp2_with fail
      refine J.out.mono ?_
      rintro e w5 ⟨rfl, dw⟩
      have K5 := Lib.hid (KW.out.drew dw)
      have R5 := Lib.hid (FR.out.below (dw.below wr.heap.size) FR.out.lt)
      have H5 := Lib.hid (FH.out.below (dw.below wr.heap.size) FH.out.lt)
      clear dw
      go_wp2_with fail
      go_ret2
      exact ⟨rfl, K5.out, R5.out, H5.out⟩
set_option maxRecDepth 100000 in
set_option maxHeartbeats 8000000 in
theorem gread11_yes (gr gh : Nat) (p : Addr) (m cap : Nat) (x0 x1 x2 x3 x4 x5 x6 x7 x8 x9 x10 : Int) (w : World) (hc : m + 1 ≤ cap) (hcap : 1 < cap) (hm : cap ≤ 9223372036854775807) (HX : Hid (∀ W, Below w.heap.size w W → W.cell? p = some (.int .u8 2))) (RG : Hid (∀ W, Below w.heap.size w W → Calls Try.prog 44 #[.slice (some ⟨p.block, p.off + 1, none⟩) m (cap - 1)] W (GetEnd (some [x0, x1, x2, x3, x4, x5, x6, x7, x8, x9, x10]) W))) (hR : Cells w gr 30 #[.int .i64 0, .int .i64 0, .int .i64 0, .int .u64 0, .int .i64 0, .int .i64 0, .int .i64 0, .int .i64 0, .int .i64 0, .int .i64 0]) (hH : Cells w gh 53 #[.int .i64 0, .int .i64 0]) (hne : gr ≠ gh) (hu : Half x3) (hv : Half x4) (n : Int) (hn : x3 * 4294967296 + x4 = n) :
    Calls Try.prog 36 #[.int .u8 2, .slice (some p) (m + 1) cap, .agg #[.pointer (some ⟨gr, 0, none⟩), .pointer (some ⟨gr, 1, none⟩), .pointer (some ⟨gr, 2, none⟩), .pointer (some ⟨gh, 0, none⟩), .pointer (some ⟨gh, 1, none⟩), .pointer (some ⟨gr, 4, none⟩), .pointer (some ⟨gr, 5, none⟩), .pointer (some ⟨gr, 6, none⟩), .pointer (some ⟨gr, 7, none⟩), .pointer (some ⟨gr, 8, none⟩), .pointer (some ⟨gr, 9, none⟩)], .func (.func 29) #[.pointer (some ⟨gh, 0, none⟩)] #[]] w fun e w' => e = .returned (.tuple #[.int .u64 n, .bool true]) ∧ Keep2 w w' gr gh ∧ Cells w' gr 30 #[.int .i64 x0, .int .i64 x1, .int .i64 x2, .int .u64 0, .int .i64 x5, .int .i64 x6, .int .i64 x7, .int .i64 x8, .int .i64 x9, .int .i64 x10] ∧ Cells w' gh 53 #[.int .i64 x3, .int .i64 x4] := by
  obtain ⟨W, hW⟩ : ∃ W, w.alloc (.cells #[.pointer (some ⟨gr, 0, none⟩), .pointer (some ⟨gr, 1, none⟩), .pointer (some ⟨gr, 2, none⟩), .pointer (some ⟨gh, 0, none⟩), .pointer (some ⟨gh, 1, none⟩), .pointer (some ⟨gr, 4, none⟩), .pointer (some ⟨gr, 5, none⟩), .pointer (some ⟨gr, 6, none⟩), .pointer (some ⟨gr, 7, none⟩), .pointer (some ⟨gr, 8, none⟩), .pointer (some ⟨gr, 9, none⟩)] 71) = W := ⟨_, rfl⟩
  have T0 : Hid (Cells W w.heap.size 71 #[.pointer (some ⟨gr, 0, none⟩), .pointer (some ⟨gr, 1, none⟩), .pointer (some ⟨gr, 2, none⟩), .pointer (some ⟨gh, 0, none⟩), .pointer (some ⟨gh, 1, none⟩), .pointer (some ⟨gr, 4, none⟩), .pointer (some ⟨gr, 5, none⟩), .pointer (some ⟨gr, 6, none⟩), .pointer (some ⟨gr, 7, none⟩), .pointer (some ⟨gr, 8, none⟩), .pointer (some ⟨gr, 9, none⟩)]) := by rw [← hW]; exact Cells.new w _ _
  have B0 : Hid (Below w.heap.size w W) := by rw [← hW]; exact below_alloc w _
  have t0 := T0.out.c 0 rfl
  have t1 := T0.out.c 1 rfl
  have t2 := T0.out.c 2 rfl
  have t3 := T0.out.c 3 rfl
  have t4 := T0.out.c 4 rfl
  have t5 := T0.out.c 5 rfl
  have t6 := T0.out.c 6 rfl
  have t7 := T0.out.c 7 rfl
  have t8 := T0.out.c 8 rfl
  have t9 := T0.out.c 9 rfl
  have t10 := T0.out.c 10 rfl
  have tl := T0.out.lt
  have xb := HX.out W B0.out
  have m0 : ((m : Int) + 1 == 0) = false := by simp; omega
  have RG := Lib.hid (RG.out W B0.out)
  have HR := Lib.hid (hR.below B0.out hR.lt)
  have HH := Lib.hid (hH.below B0.out hH.lt)
  have HN := Lib.hid (And.intro hR.lt hH.lt)
  have HLT := Lib.hid (And.intro hR.lt hH.lt)
  have HNE := Lib.hid hne
  clear hR hH hne
  go_enter Try.func36, Try.ntmps36
  go_wp2_with (go_at_call 44; (with_reducible refine RG.out.mono ?_); rintro e w1 ⟨b9, v9, rfl, ho⟩; obtain ⟨g1, cap1, rfl, hg1, hg2, hg3⟩ := own_cellsI ho (n := 11) rfl (by omega); replace HR := Lib.hid (HR.out.below b9 HR.out.lt); replace HH := Lib.hid (HH.out.below b9 HH.out.lt); replace HN := Lib.hid (And.intro (Nat.lt_of_lt_of_le HN.out.1 B0.out.size) (Nat.lt_of_lt_of_le HN.out.2 B0.out.size)); have HW1 := Lib.hid b9.size; replace T0 := Lib.hid (T0.out.below b9 T0.out.lt); replace B0 := Lib.hid (below_more B0.out b9); replace t0 := T0.out.c 0 rfl; replace t1 := T0.out.c 1 rfl; replace t2 := T0.out.c 2 rfl; replace t3 := T0.out.c 3 rfl; replace t4 := T0.out.c 4 rfl; replace t5 := T0.out.c 5 rfl; replace t6 := T0.out.c 6 rfl; replace t7 := T0.out.c 7 rfl; replace t8 := T0.out.c 8 rfl; replace t9 := T0.out.c 9 rfl; replace t10 := T0.out.c 10 rfl; replace tl := T0.out.lt; clear b9; have HG := Lib.hid hg1; have HY := Lib.hid hg3; clear hg1 hg2 hg3 ho; refine Hid.out ?_)
  refine Lib.hid ?_
  have B1 := Lib.hid (Keep2.of_below (g := gr) (h := gh) B0.out)
  have YC : Hid (∀ wr, Keep2 w1 wr gr gh → wr.cell? ⟨g1, 0, none⟩ = some (.int .i64 x0) ∧ wr.cell? ⟨g1, 1, none⟩ = some (.int .i64 x1) ∧ wr.cell? ⟨g1, 2, none⟩ = some (.int .i64 x2) ∧ wr.cell? ⟨g1, 3, none⟩ = some (.int .i64 x3) ∧ wr.cell? ⟨g1, 4, none⟩ = some (.int .i64 x4) ∧ wr.cell? ⟨g1, 5, none⟩ = some (.int .i64 x5) ∧ wr.cell? ⟨g1, 6, none⟩ = some (.int .i64 x6) ∧ wr.cell? ⟨g1, 7, none⟩ = some (.int .i64 x7) ∧ wr.cell? ⟨g1, 8, none⟩ = some (.int .i64 x8) ∧ wr.cell? ⟨g1, 9, none⟩ = some (.int .i64 x9) ∧ wr.cell? ⟨g1, 10, none⟩ = some (.int .i64 x10)) := fun wr kp => by
    have z := fun i hi => kp.cell (HY.out i hi) (show g1 ≠ gr by have := HG.out; have := HN.out; omega) (show g1 ≠ gh by have := HG.out; have := HN.out; omega)
    exact ⟨z 0 (by simp), z 1 (by simp), z 2 (by simp), z 3 (by simp), z 4 (by simp), z 5 (by simp), z 6 (by simp), z 7 (by simp), z 8 (by simp), z 9 (by simp), z 10 (by simp)⟩
  have TC : Hid (∀ wr, Keep2 w1 wr gr gh → Cells wr w.heap.size 71 #[.pointer (some ⟨gr, 0, none⟩), .pointer (some ⟨gr, 1, none⟩), .pointer (some ⟨gr, 2, none⟩), .pointer (some ⟨gh, 0, none⟩), .pointer (some ⟨gh, 1, none⟩), .pointer (some ⟨gr, 4, none⟩), .pointer (some ⟨gr, 5, none⟩), .pointer (some ⟨gr, 6, none⟩), .pointer (some ⟨gr, 7, none⟩), .pointer (some ⟨gr, 8, none⟩), .pointer (some ⟨gr, 9, none⟩)]) := fun wr kp => kp.cells T0.out (by have := HLT.out; omega) (by have := HLT.out; omega)
  clear HX RG HY HG
  clear hW xb
  go_wp2_with fail
  clear t0 t1 t2 t3 t4 t5 t6 t7 t8 t9 t10 tl
  go_loopw [41] (fun i wr => ∃ k : Nat, k ≤ 11 ∧ i = .int .i64 k ∧ Hid (Keep2 w1 wr gr gh) ∧ Hid (Cells wr gr 30 #[.int .i64 (if 0 < k then x0 else 0), .int .i64 (if 1 < k then x1 else 0), .int .i64 (if 2 < k then x2 else 0), .int .u64 0, .int .i64 (if 5 < k then x5 else 0), .int .i64 (if 6 < k then x6 else 0), .int .i64 (if 7 < k then x7 else 0), .int .i64 (if 8 < k then x8 else 0), .int .i64 (if 9 < k then x9 else 0), .int .i64 (if 10 < k then x10 else 0)]) ∧ Hid (Cells wr gh 53 #[.int .i64 (if 3 < k then x3 else 0), .int .i64 (if 4 < k then x4 else 0)])) (fun i _ => 11 - (intOf i).toNat)
  case atStart => exact ⟨0, Nat.zero_le _, rfl, Keep2.refl _ _ _, HR.out, HH.out⟩
  case round =>
    obtain ⟨k, hk, rfl, KP, LR, LH⟩ := hrel
    have ta := TC.out _ KP.out
    have t0 := ta.c 0 rfl
    have t1 := ta.c 1 rfl
    have t2 := ta.c 2 rfl
    have t3 := ta.c 3 rfl
    have t4 := ta.c 4 rfl
    have t5 := ta.c 5 rfl
    have t6 := ta.c 6 rfl
    have t7 := ta.c 7 rfl
    have t8 := ta.c 8 rfl
    have t9 := ta.c 9 rfl
    have t10 := ta.c 10 rfl
    have tl := ta.lt
    obtain ⟨y0, y1, y2, y3, y4, y5, y6, y7, y8, y9, y10⟩ := YC.out _ KP.out
    clear ta
    have rl := LR.out.lt
    have hl := LH.out.lt
    rcases (by omega : k = 0 ∨ k = 1 ∨ k = 2 ∨ k = 3 ∨ k = 4 ∨ k = 5 ∨ k = 6 ∨ k = 7 ∨ k = 8 ∨ k = 9 ∨ k = 10 ∨ k = 11) with rfl | rfl | rfl | rfl | rfl | rfl | rfl | rfl | rfl | rfl | rfl | rfl
    · have lf := LR.out.free 0
      have lc := LR.out.c 0 rfl
      go_wp2_with fail
      go_roundw
      case rel => exact ⟨1, by omega, by go_num, KP.out.set1 _ _, (LR.out.set 0 _), (LH.out.other (p := ⟨gr, 0, none⟩) (Ne.symm HNE.out) _)⟩
      case measure => simp [intOf]
    · have lf := LR.out.free 1
      have lc := LR.out.c 1 rfl
      go_wp2_with fail
      go_roundw
      case rel => exact ⟨2, by omega, by go_num, KP.out.set1 _ _, (LR.out.set 1 _), (LH.out.other (p := ⟨gr, 1, none⟩) (Ne.symm HNE.out) _)⟩
      case measure => simp [intOf]
    · have lf := LR.out.free 2
      have lc := LR.out.c 2 rfl
      go_wp2_with fail
      go_roundw
      case rel => exact ⟨3, by omega, by go_num, KP.out.set1 _ _, (LR.out.set 2 _), (LH.out.other (p := ⟨gr, 2, none⟩) (Ne.symm HNE.out) _)⟩
      case measure => simp [intOf]
    · have lf := LH.out.free 0
      have lc := LH.out.c 0 rfl
      go_wp2_with fail
      go_roundw
      case rel => exact ⟨4, by omega, by go_num, KP.out.set2 _ _, (LR.out.other (p := ⟨gh, 0, none⟩) HNE.out _), (LH.out.set 0 _)⟩
      case measure => simp [intOf]
    · have lf := LH.out.free 1
      have lc := LH.out.c 1 rfl
      go_wp2_with fail
      go_roundw
      case rel => exact ⟨5, by omega, by go_num, KP.out.set2 _ _, (LR.out.other (p := ⟨gh, 1, none⟩) HNE.out _), (LH.out.set 1 _)⟩
      case measure => simp [intOf]
    · have lf := LR.out.free 4
      have lc := LR.out.c 4 rfl
      go_wp2_with fail
      go_roundw
      case rel => exact ⟨6, by omega, by go_num, KP.out.set1 _ _, (LR.out.set 4 _), (LH.out.other (p := ⟨gr, 4, none⟩) (Ne.symm HNE.out) _)⟩
      case measure => simp [intOf]
    · have lf := LR.out.free 5
      have lc := LR.out.c 5 rfl
      go_wp2_with fail
      go_roundw
      case rel => exact ⟨7, by omega, by go_num, KP.out.set1 _ _, (LR.out.set 5 _), (LH.out.other (p := ⟨gr, 5, none⟩) (Ne.symm HNE.out) _)⟩
      case measure => simp [intOf]
    · have lf := LR.out.free 6
      have lc := LR.out.c 6 rfl
      go_wp2_with fail
      go_roundw
      case rel => exact ⟨8, by omega, by go_num, KP.out.set1 _ _, (LR.out.set 6 _), (LH.out.other (p := ⟨gr, 6, none⟩) (Ne.symm HNE.out) _)⟩
      case measure => simp [intOf]
    · have lf := LR.out.free 7
      have lc := LR.out.c 7 rfl
      go_wp2_with fail
      go_roundw
      case rel => exact ⟨9, by omega, by go_num, KP.out.set1 _ _, (LR.out.set 7 _), (LH.out.other (p := ⟨gr, 7, none⟩) (Ne.symm HNE.out) _)⟩
      case measure => simp [intOf]
    · have lf := LR.out.free 8
      have lc := LR.out.c 8 rfl
      go_wp2_with fail
      go_roundw
      case rel => exact ⟨10, by omega, by go_num, KP.out.set1 _ _, (LR.out.set 8 _), (LH.out.other (p := ⟨gr, 8, none⟩) (Ne.symm HNE.out) _)⟩
      case measure => simp [intOf]
    · have lf := LR.out.free 9
      have lc := LR.out.c 9 rfl
      go_wp2_with fail
      go_roundw
      case rel => exact ⟨11, by omega, by go_num, KP.out.set1 _ _, (LR.out.set 9 _), (LH.out.other (p := ⟨gr, 9, none⟩) (Ne.symm HNE.out) _)⟩
      case measure => simp [intOf]
    · have FR : Hid (Cells wr gr 30 #[.int .i64 x0, .int .i64 x1, .int .i64 x2, .int .u64 0, .int .i64 x5, .int .i64 x6, .int .i64 x7, .int .i64 x8, .int .i64 x9, .int .i64 x10]) := LR.out
      have FH : Hid (Cells wr gh 53 #[.int .i64 x3, .int .i64 x4]) := LH.out
      have J := Lib.hid (gjoin_yes x3 x4 gh hu hv n hn wr FH.out)
      have KW := Lib.hid (B1.out.trans KP.out)
      clear LR LH KP YC TC HR HH T0 B0
      go_wp2_with fail
      refine J.out.mono ?_
      rintro e w5 ⟨rfl, dw⟩
      have K5 := Lib.hid (KW.out.drew dw)
      have R5 := Lib.hid (FR.out.below (dw.below wr.heap.size) FR.out.lt)
      have H5 := Lib.hid (FH.out.below (dw.below wr.heap.size) FH.out.lt)
      clear dw
      go_wp2_with fail
      go_ret2
      exact ⟨rfl, K5.out, R5.out, H5.out⟩
end Go.Proofs.Ytmfbnajaocaikaa
