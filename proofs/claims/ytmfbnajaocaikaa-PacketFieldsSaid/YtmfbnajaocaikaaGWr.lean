/- Layer 11: package packet's write over the landed code (gen/gen_prog.py writes this). -/
import Derived.Deep.OwnRows
import Derived.Test.YtmfbnajaocaikaaGFp
import Derived.Test.YtmfbnajaocaikaaGPut
namespace Go.Proofs.Ytmfbnajaocaikaa
open Go.RowKit Go.Sort Go
set_option linter.unusedVariables false
set_option linter.unusedSimpArgs false

/-- All but block g lies as it lay. -/
def Keep1 (w w' : World) (g : Nat) : Prop := Only w w' g
theorem Keep1.refl (w : World) (g : Nat) : Keep1 w w g := ⟨rfl, rfl, rfl, Nat.le_refl _, fun _ _ _ => rfl⟩
theorem Keep1.cells {w w' : World} {g q : Nat} {t : TypeId} {cs : Array Value} (h : Keep1 w w' g) (c : Cells w q t cs) (hne : q ≠ g) : Cells w' q t cs := Only.cells h c hne
theorem cell_lt {w : World} {p : Addr} {v : Value} (h : w.cell? p = some v) : p.block < w.heap.size := by
  rcases Nat.lt_or_ge p.block w.heap.size with k | k
  · exact k
  · simp [World.cell?, Array.getElem?_eq_none k] at h
theorem Keep1.cell {w w' : World} {g : Nat} {p : Addr} {v : Value} (h : Keep1 w w' g) (c : w.cell? p = some v) (hne : p.block ≠ g) : w'.cell? p = some v :=
  (World.cell?_of_block (h.block _ (cell_lt c) hne)).trans c
theorem Keep1.set {w w' : World} {g : Nat} (h : Keep1 w w' g) (i : Nat) (v : Value) : Keep1 w (w'.setCell ⟨g, i, none⟩ v) g := Only.trans h (Only.set w' ⟨g, i, none⟩ v)
theorem Keep1.below {a w w' : World} {n g : Nat} (h : Keep1 w w' g) (b : Below n a w) (hg : n ≤ g) (hN : n ≤ a.heap.size) : Below n a w' :=
  ⟨h.os.trans b.os, h.tape.trans b.tape, h.output.trans b.output, Nat.le_trans b.size h.size, fun k hk => (h.block k (by have := b.size; omega) (by omega)).trans (b.block k hk)⟩
theorem Cells.set {w : World} {g : Nat} {t : TypeId} {cs : Array Value} (h : Cells w g t cs) (i : Nat) (v : Value) : Cells (w.setCell ⟨g, i, none⟩ v) g t (cs.setIfInBounds i v) := cells_set h i v
theorem made_zeros (n : Nat) : madeCells #[Value.int .i64 0] n = (List.replicate n (Value.int .i64 0)).toArray := by
  rw [← toList_madeCells_one]
def part (l : List Int) (k : Nat) : Array Value := ((l.take k).map (fun x => Value.int .i64 x) ++ List.replicate (l.length - k) (Value.int .i64 0)).toArray

set_option maxRecDepth 100000 in
set_option maxHeartbeats 8000000 in
theorem gwrite5_any (k' : UInt8) (x0 x1 x2 x3 x4 : Int) (gr gh : Nat) (w : World) (hgr : gr < w.heap.size) (hgh : gh < w.heap.size) (hi : AllI [x0, x1, x2, x3, x4]) (hc0 : w.cell? ⟨gr, 0, none⟩ = some (.int .i64 x0)) (hc1 : w.cell? ⟨gr, 1, none⟩ = some (.int .i64 x1)) (hc2 : w.cell? ⟨gr, 2, none⟩ = some (.int .i64 x2)) (hc3 : w.cell? ⟨gh, 0, none⟩ = some (.int .i64 x3)) (hc4 : w.cell? ⟨gh, 1, none⟩ = some (.int .i64 x4)) :
    Calls Try.prog 24 #[.int .u8 (k'.toNat : Int), .agg #[.pointer (some ⟨gr, 0, none⟩), .pointer (some ⟨gr, 1, none⟩), .pointer (some ⟨gr, 2, none⟩), .pointer (some ⟨gh, 0, none⟩), .pointer (some ⟨gh, 1, none⟩)]] w (PutYes (pkB k' [x0, x1, x2, x3, x4]) w) := by
  have HI := Lib.hid hi
  obtain ⟨W, hW⟩ : ∃ W, w.alloc (.cells #[.pointer (some ⟨gr, 0, none⟩), .pointer (some ⟨gr, 1, none⟩), .pointer (some ⟨gr, 2, none⟩), .pointer (some ⟨gh, 0, none⟩), .pointer (some ⟨gh, 1, none⟩)] 57) = W := ⟨_, rfl⟩
  have T0 : Hid (Cells W w.heap.size 57 #[.pointer (some ⟨gr, 0, none⟩), .pointer (some ⟨gr, 1, none⟩), .pointer (some ⟨gr, 2, none⟩), .pointer (some ⟨gh, 0, none⟩), .pointer (some ⟨gh, 1, none⟩)]) := by rw [← hW]; exact Cells.new w _ _
  have B0 : Hid (Below w.heap.size w W) := by rw [← hW]; exact below_alloc w _
  have hsz : W.heap.size = w.heap.size + 1 := by rw [← hW]; simp
  replace hc0 := (B0.out.cell (p := ⟨gr, 0, none⟩) (by simpa using hgr)).trans hc0
  replace hc1 := (B0.out.cell (p := ⟨gr, 1, none⟩) (by simpa using hgr)).trans hc1
  replace hc2 := (B0.out.cell (p := ⟨gr, 2, none⟩) (by simpa using hgr)).trans hc2
  replace hc3 := (B0.out.cell (p := ⟨gh, 0, none⟩) (by simpa using hgh)).trans hc3
  replace hc4 := (B0.out.cell (p := ⟨gh, 1, none⟩) (by simpa using hgh)).trans hc4
  have t0 := T0.out.c 0 rfl
  have t1 := T0.out.c 1 rfl
  have t2 := T0.out.c 2 rfl
  have t3 := T0.out.c 3 rfl
  have t4 := T0.out.c 4 rfl
  have tl := T0.out.lt
  obtain ⟨i0, hi0, hz0, hz1, hz2⟩ := info_parts info_int
  go_enter Try.func24, Try.ntmps24
  go_wp2_with (at_make; refine wpList_make_row _ rfl _ _ 62 rfl 3 i0 (.int .i64 0) Try.underlying62 hi0 hz0 hz1 rfl .i64 .i64 5 rfl rfl (by rw [hz2]; omega) (by omega) ?_; refine Hid.out ?_)
  refine Lib.hid ?_
  obtain ⟨W2, hW2⟩ : ∃ W2, W.alloc (.cells (madeCells #[.int .i64 0] 5) 3) = W2 := ⟨_, rfl⟩
  rw [hW2]
  have L0 : Hid (Cells W2 (w.heap.size + 1) 3 (List.replicate 5 (Value.int .i64 0)).toArray) := by rw [← hW2, ← hsz]; have k := Cells.new W 3 (madeCells #[.int .i64 0] 5); exact cast (congrArg (Cells _ _ _) (made_zeros 5)) k
  have B2 : Hid (Below W.heap.size W W2) := by rw [← hW2]; exact below_alloc W _
  have HS : Hid (Below w.heap.size w W2) := below_more B0.out B2.out
  have HT : Hid (∀ wr, Keep1 W2 wr (w.heap.size + 1) → Cells wr w.heap.size 57 #[.pointer (some ⟨gr, 0, none⟩), .pointer (some ⟨gr, 1, none⟩), .pointer (some ⟨gr, 2, none⟩), .pointer (some ⟨gh, 0, none⟩), .pointer (some ⟨gh, 1, none⟩)]) := fun wr kp => kp.cells (T0.out.below B2.out T0.out.lt) (by omega)
  have HC0 : Hid (∀ wr, Keep1 W2 wr (w.heap.size + 1) → wr.cell? ⟨gr, 0, none⟩ = some (.int .i64 x0)) := fun wr kp => kp.cell (p := ⟨gr, 0, none⟩) ((B2.out.cell (p := ⟨gr, 0, none⟩) (by simp; omega)).trans hc0) (by simp; omega)
  have HC1 : Hid (∀ wr, Keep1 W2 wr (w.heap.size + 1) → wr.cell? ⟨gr, 1, none⟩ = some (.int .i64 x1)) := fun wr kp => kp.cell (p := ⟨gr, 1, none⟩) ((B2.out.cell (p := ⟨gr, 1, none⟩) (by simp; omega)).trans hc1) (by simp; omega)
  have HC2 : Hid (∀ wr, Keep1 W2 wr (w.heap.size + 1) → wr.cell? ⟨gr, 2, none⟩ = some (.int .i64 x2)) := fun wr kp => kp.cell (p := ⟨gr, 2, none⟩) ((B2.out.cell (p := ⟨gr, 2, none⟩) (by simp; omega)).trans hc2) (by simp; omega)
  have HC3 : Hid (∀ wr, Keep1 W2 wr (w.heap.size + 1) → wr.cell? ⟨gh, 0, none⟩ = some (.int .i64 x3)) := fun wr kp => kp.cell (p := ⟨gh, 0, none⟩) ((B2.out.cell (p := ⟨gh, 0, none⟩) (by simp; omega)).trans hc3) (by simp; omega)
  have HC4 : Hid (∀ wr, Keep1 W2 wr (w.heap.size + 1) → wr.cell? ⟨gh, 1, none⟩ = some (.int .i64 x4)) := fun wr kp => kp.cell (p := ⟨gh, 1, none⟩) ((B2.out.cell (p := ⟨gh, 1, none⟩) (by simp; omega)).trans hc4) (by simp; omega)
  clear hW hW2 hc0 t0 hc1 t1 hc2 t2 hc3 t3 hc4 t4 tl
  go_wp2_with fail
  go_loopw [15] (fun i wr => ∃ k : Nat, k ≤ 5 ∧ i = .int .i64 k ∧ Hid (Keep1 W2 wr (w.heap.size + 1)) ∧ Hid (Cells wr (w.heap.size + 1) 3 (part [x0, x1, x2, x3, x4] k))) (fun i _ => 5 - (intOf i).toNat)
  case atStart => exact ⟨0, Nat.zero_le _, rfl, Keep1.refl _ _, L0.out⟩
  case round =>
    obtain ⟨k, hk, rfl, KP, LC⟩ := hrel
    have ta := HT.out _ KP.out
    have t0 := ta.c 0 rfl
    have c0 := HC0.out _ KP.out
    have t1 := ta.c 1 rfl
    have c1 := HC1.out _ KP.out
    have t2 := ta.c 2 rfl
    have c2 := HC2.out _ KP.out
    have t3 := ta.c 3 rfl
    have c3 := HC3.out _ KP.out
    have t4 := ta.c 4 rfl
    have c4 := HC4.out _ KP.out
    have tl := ta.lt
    clear ta
    have ll := LC.out.lt
    rcases (by omega : k = 0 ∨ k = 1 ∨ k = 2 ∨ k = 3 ∨ k = 4 ∨ k = 5) with rfl | rfl | rfl | rfl | rfl | rfl
    · have lf := LC.out.free 0
      have lc := LC.out.c 0 rfl
      go_wp2_with fail
      go_roundw
      case rel => exact ⟨1, by omega, by go_num, KP.out.set _ _, (LC.out.set 0 _)⟩
      case measure => simp [intOf]
    · have lf := LC.out.free 1
      have lc := LC.out.c 1 rfl
      go_wp2_with fail
      go_roundw
      case rel => exact ⟨2, by omega, by go_num, KP.out.set _ _, (LC.out.set 1 _)⟩
      case measure => simp [intOf]
    · have lf := LC.out.free 2
      have lc := LC.out.c 2 rfl
      go_wp2_with fail
      go_roundw
      case rel => exact ⟨3, by omega, by go_num, KP.out.set _ _, (LC.out.set 2 _)⟩
      case measure => simp [intOf]
    · have lf := LC.out.free 3
      have lc := LC.out.c 3 rfl
      go_wp2_with fail
      go_roundw
      case rel => exact ⟨4, by omega, by go_num, KP.out.set _ _, (LC.out.set 3 _)⟩
      case measure => simp [intOf]
    · have lf := LC.out.free 4
      have lc := LC.out.c 4 rfl
      go_wp2_with fail
      go_roundw
      case rel => exact ⟨5, by omega, by go_num, KP.out.set _ _, (LC.out.set 4 _)⟩
      case measure => simp [intOf]
    · have RW : Hid (RowI wr.heap.size wr (some ⟨w.heap.size + 1, 0, none⟩) 5 [x0, x1, x2, x3, x4]) := rowI_cells rfl HI.out LC.out
      have BW := Lib.hid (KP.out.below HS.out (Nat.le_succ _) (Nat.le_refl _))
      have PU := Lib.hid (put_any (some ⟨w.heap.size + 1, 0, none⟩) 5 5 [x0, x1, x2, x3, x4] wr RW.out (by omega))
      clear LC KP RW HT L0 HS B2 T0 B0
      go_wp2_with (go_at_call 40; (with_reducible refine PU.out.mono ?_); rintro e w1 ⟨b1, ⟨-, v1, rfl, o1⟩ | ⟨hbig, -⟩⟩; (rotate_left; exact absurd hbig (by simp)); have O1 := Lib.hid o1; have B1 := Lib.hid (below_more BW.out b1); clear o1 b1 PU; refine Hid.out ?_)
      refine Lib.hid ?_
      obtain ⟨A1, n1, cap1, rfl, k1, k2, k3, k4⟩ := Own.row O1.out
      have HL := Lib.hid (listB_len HI.out (by simp))
      have hn1 : n1 ≤ 120 := by have := k4.1; have := HL.out; simp at this; omega
      have HO := Lib.hid (own_new w1 [k'] w.heap.size B1.out.size (by unfold maxLen; simp))
      have B3 := Lib.hid (B1.out.alloc B1.out.size (.cells (Lib.byteCells [k']).toArray 5))
      have R1 := Lib.hid (k4.step (below_alloc w1 (.cells (Lib.byteCells [k']).toArray 5)))
      have K3 := Lib.hid k3
      clear k1 k2 k3 k4 O1
      go_wp2_with (refine wpList_app8 rfl _ _ rfl w.heap.size (.slice (some ⟨w1.heap.size, 0, none⟩) 1 1) [k'] rfl HO.out _ _ _ _ _ rfl K3.out R1.out (by simp; omega) B3.out.size ?_; refine Hid.out ?_)
      refine Lib.hid ?_
      intro v4 w4 o4 g4
      have B4 := Lib.hid (B3.out.grown g4 B3.out.size (own_grown (w' := w) HO.out))
      obtain ⟨A4, n4, cap4, rfl, k1, k2, k3, k4⟩ := Own.row o4
      have R4 := Lib.hid k4
      have C4 := Lib.hid (And.intro k1 (And.intro k2 k3))
      clear o4 g4 k1 k2 k3 k4
      go_wp2_with fail
      go_ret2
      exact ⟨_, _, _, rfl, C4.out.1, by have := C4.out.2.1; unfold maxLen at this; omega, C4.out.2.2, R4.out, B4.out⟩
set_option maxRecDepth 100000 in
set_option maxHeartbeats 8000000 in
theorem gwrite11_any (k' : UInt8) (x0 x1 x2 x3 x4 x5 x6 x7 x8 x9 x10 : Int) (gr gh : Nat) (w : World) (hgr : gr < w.heap.size) (hgh : gh < w.heap.size) (hi : AllI [x0, x1, x2, x3, x4, x5, x6, x7, x8, x9, x10]) (hc0 : w.cell? ⟨gr, 0, none⟩ = some (.int .i64 x0)) (hc1 : w.cell? ⟨gr, 1, none⟩ = some (.int .i64 x1)) (hc2 : w.cell? ⟨gr, 2, none⟩ = some (.int .i64 x2)) (hc3 : w.cell? ⟨gh, 0, none⟩ = some (.int .i64 x3)) (hc4 : w.cell? ⟨gh, 1, none⟩ = some (.int .i64 x4)) (hc5 : w.cell? ⟨gr, 4, none⟩ = some (.int .i64 x5)) (hc6 : w.cell? ⟨gr, 5, none⟩ = some (.int .i64 x6)) (hc7 : w.cell? ⟨gr, 6, none⟩ = some (.int .i64 x7)) (hc8 : w.cell? ⟨gr, 7, none⟩ = some (.int .i64 x8)) (hc9 : w.cell? ⟨gr, 8, none⟩ = some (.int .i64 x9)) (hc10 : w.cell? ⟨gr, 9, none⟩ = some (.int .i64 x10)) :
    Calls Try.prog 33 #[.int .u8 (k'.toNat : Int), .agg #[.pointer (some ⟨gr, 0, none⟩), .pointer (some ⟨gr, 1, none⟩), .pointer (some ⟨gr, 2, none⟩), .pointer (some ⟨gh, 0, none⟩), .pointer (some ⟨gh, 1, none⟩), .pointer (some ⟨gr, 4, none⟩), .pointer (some ⟨gr, 5, none⟩), .pointer (some ⟨gr, 6, none⟩), .pointer (some ⟨gr, 7, none⟩), .pointer (some ⟨gr, 8, none⟩), .pointer (some ⟨gr, 9, none⟩)]] w (PutYes (pkB k' [x0, x1, x2, x3, x4, x5, x6, x7, x8, x9, x10]) w) := by
  have HI := Lib.hid hi
  obtain ⟨W, hW⟩ : ∃ W, w.alloc (.cells #[.pointer (some ⟨gr, 0, none⟩), .pointer (some ⟨gr, 1, none⟩), .pointer (some ⟨gr, 2, none⟩), .pointer (some ⟨gh, 0, none⟩), .pointer (some ⟨gh, 1, none⟩), .pointer (some ⟨gr, 4, none⟩), .pointer (some ⟨gr, 5, none⟩), .pointer (some ⟨gr, 6, none⟩), .pointer (some ⟨gr, 7, none⟩), .pointer (some ⟨gr, 8, none⟩), .pointer (some ⟨gr, 9, none⟩)] 71) = W := ⟨_, rfl⟩
  have T0 : Hid (Cells W w.heap.size 71 #[.pointer (some ⟨gr, 0, none⟩), .pointer (some ⟨gr, 1, none⟩), .pointer (some ⟨gr, 2, none⟩), .pointer (some ⟨gh, 0, none⟩), .pointer (some ⟨gh, 1, none⟩), .pointer (some ⟨gr, 4, none⟩), .pointer (some ⟨gr, 5, none⟩), .pointer (some ⟨gr, 6, none⟩), .pointer (some ⟨gr, 7, none⟩), .pointer (some ⟨gr, 8, none⟩), .pointer (some ⟨gr, 9, none⟩)]) := by rw [← hW]; exact Cells.new w _ _
  have B0 : Hid (Below w.heap.size w W) := by rw [← hW]; exact below_alloc w _
  have hsz : W.heap.size = w.heap.size + 1 := by rw [← hW]; simp
  replace hc0 := (B0.out.cell (p := ⟨gr, 0, none⟩) (by simpa using hgr)).trans hc0
  replace hc1 := (B0.out.cell (p := ⟨gr, 1, none⟩) (by simpa using hgr)).trans hc1
  replace hc2 := (B0.out.cell (p := ⟨gr, 2, none⟩) (by simpa using hgr)).trans hc2
  replace hc3 := (B0.out.cell (p := ⟨gh, 0, none⟩) (by simpa using hgh)).trans hc3
  replace hc4 := (B0.out.cell (p := ⟨gh, 1, none⟩) (by simpa using hgh)).trans hc4
  replace hc5 := (B0.out.cell (p := ⟨gr, 4, none⟩) (by simpa using hgr)).trans hc5
  replace hc6 := (B0.out.cell (p := ⟨gr, 5, none⟩) (by simpa using hgr)).trans hc6
  replace hc7 := (B0.out.cell (p := ⟨gr, 6, none⟩) (by simpa using hgr)).trans hc7
  replace hc8 := (B0.out.cell (p := ⟨gr, 7, none⟩) (by simpa using hgr)).trans hc8
  replace hc9 := (B0.out.cell (p := ⟨gr, 8, none⟩) (by simpa using hgr)).trans hc9
  replace hc10 := (B0.out.cell (p := ⟨gr, 9, none⟩) (by simpa using hgr)).trans hc10
  have t0 := T0.out.c 0 rfl
  have t1 := T0.out.c 1 rfl
  have t2 := T0.out.c 2 rfl
  have t3 := T0.out.c 3 rfl
  have t4 := T0.out.c 4 rfl
  have t5 := T0.out.c 5 rfl
  have t6 := T0.out.c 6 rfl
  have t7 := T0.out.c 7 rfl
  have t8 := T0.out.c 8 rfl
  have t9 := T0.out.c 9 rfl
  have t10 := T0.out.c 10 rfl
  have tl := T0.out.lt
  obtain ⟨i0, hi0, hz0, hz1, hz2⟩ := info_parts info_int
  go_enter Try.func33, Try.ntmps33
  go_wp2_with (at_make; refine wpList_make_row _ rfl _ _ 62 rfl 3 i0 (.int .i64 0) Try.underlying62 hi0 hz0 hz1 rfl .i64 .i64 11 rfl rfl (by rw [hz2]; omega) (by omega) ?_; refine Hid.out ?_)
  refine Lib.hid ?_
  obtain ⟨W2, hW2⟩ : ∃ W2, W.alloc (.cells (madeCells #[.int .i64 0] 11) 3) = W2 := ⟨_, rfl⟩
  rw [hW2]
  have L0 : Hid (Cells W2 (w.heap.size + 1) 3 (List.replicate 11 (Value.int .i64 0)).toArray) := by rw [← hW2, ← hsz]; have k := Cells.new W 3 (madeCells #[.int .i64 0] 11); exact cast (congrArg (Cells _ _ _) (made_zeros 11)) k
  have B2 : Hid (Below W.heap.size W W2) := by rw [← hW2]; exact below_alloc W _
  have HS : Hid (Below w.heap.size w W2) := below_more B0.out B2.out
  have HT : Hid (∀ wr, Keep1 W2 wr (w.heap.size + 1) → Cells wr w.heap.size 71 #[.pointer (some ⟨gr, 0, none⟩), .pointer (some ⟨gr, 1, none⟩), .pointer (some ⟨gr, 2, none⟩), .pointer (some ⟨gh, 0, none⟩), .pointer (some ⟨gh, 1, none⟩), .pointer (some ⟨gr, 4, none⟩), .pointer (some ⟨gr, 5, none⟩), .pointer (some ⟨gr, 6, none⟩), .pointer (some ⟨gr, 7, none⟩), .pointer (some ⟨gr, 8, none⟩), .pointer (some ⟨gr, 9, none⟩)]) := fun wr kp => kp.cells (T0.out.below B2.out T0.out.lt) (by omega)
  have HC0 : Hid (∀ wr, Keep1 W2 wr (w.heap.size + 1) → wr.cell? ⟨gr, 0, none⟩ = some (.int .i64 x0)) := fun wr kp => kp.cell (p := ⟨gr, 0, none⟩) ((B2.out.cell (p := ⟨gr, 0, none⟩) (by simp; omega)).trans hc0) (by simp; omega)
  have HC1 : Hid (∀ wr, Keep1 W2 wr (w.heap.size + 1) → wr.cell? ⟨gr, 1, none⟩ = some (.int .i64 x1)) := fun wr kp => kp.cell (p := ⟨gr, 1, none⟩) ((B2.out.cell (p := ⟨gr, 1, none⟩) (by simp; omega)).trans hc1) (by simp; omega)
  have HC2 : Hid (∀ wr, Keep1 W2 wr (w.heap.size + 1) → wr.cell? ⟨gr, 2, none⟩ = some (.int .i64 x2)) := fun wr kp => kp.cell (p := ⟨gr, 2, none⟩) ((B2.out.cell (p := ⟨gr, 2, none⟩) (by simp; omega)).trans hc2) (by simp; omega)
  have HC3 : Hid (∀ wr, Keep1 W2 wr (w.heap.size + 1) → wr.cell? ⟨gh, 0, none⟩ = some (.int .i64 x3)) := fun wr kp => kp.cell (p := ⟨gh, 0, none⟩) ((B2.out.cell (p := ⟨gh, 0, none⟩) (by simp; omega)).trans hc3) (by simp; omega)
  have HC4 : Hid (∀ wr, Keep1 W2 wr (w.heap.size + 1) → wr.cell? ⟨gh, 1, none⟩ = some (.int .i64 x4)) := fun wr kp => kp.cell (p := ⟨gh, 1, none⟩) ((B2.out.cell (p := ⟨gh, 1, none⟩) (by simp; omega)).trans hc4) (by simp; omega)
  have HC5 : Hid (∀ wr, Keep1 W2 wr (w.heap.size + 1) → wr.cell? ⟨gr, 4, none⟩ = some (.int .i64 x5)) := fun wr kp => kp.cell (p := ⟨gr, 4, none⟩) ((B2.out.cell (p := ⟨gr, 4, none⟩) (by simp; omega)).trans hc5) (by simp; omega)
  have HC6 : Hid (∀ wr, Keep1 W2 wr (w.heap.size + 1) → wr.cell? ⟨gr, 5, none⟩ = some (.int .i64 x6)) := fun wr kp => kp.cell (p := ⟨gr, 5, none⟩) ((B2.out.cell (p := ⟨gr, 5, none⟩) (by simp; omega)).trans hc6) (by simp; omega)
  have HC7 : Hid (∀ wr, Keep1 W2 wr (w.heap.size + 1) → wr.cell? ⟨gr, 6, none⟩ = some (.int .i64 x7)) := fun wr kp => kp.cell (p := ⟨gr, 6, none⟩) ((B2.out.cell (p := ⟨gr, 6, none⟩) (by simp; omega)).trans hc7) (by simp; omega)
  have HC8 : Hid (∀ wr, Keep1 W2 wr (w.heap.size + 1) → wr.cell? ⟨gr, 7, none⟩ = some (.int .i64 x8)) := fun wr kp => kp.cell (p := ⟨gr, 7, none⟩) ((B2.out.cell (p := ⟨gr, 7, none⟩) (by simp; omega)).trans hc8) (by simp; omega)
  have HC9 : Hid (∀ wr, Keep1 W2 wr (w.heap.size + 1) → wr.cell? ⟨gr, 8, none⟩ = some (.int .i64 x9)) := fun wr kp => kp.cell (p := ⟨gr, 8, none⟩) ((B2.out.cell (p := ⟨gr, 8, none⟩) (by simp; omega)).trans hc9) (by simp; omega)
  have HC10 : Hid (∀ wr, Keep1 W2 wr (w.heap.size + 1) → wr.cell? ⟨gr, 9, none⟩ = some (.int .i64 x10)) := fun wr kp => kp.cell (p := ⟨gr, 9, none⟩) ((B2.out.cell (p := ⟨gr, 9, none⟩) (by simp; omega)).trans hc10) (by simp; omega)
  clear hW hW2 hc0 t0 hc1 t1 hc2 t2 hc3 t3 hc4 t4 hc5 t5 hc6 t6 hc7 t7 hc8 t8 hc9 t9 hc10 t10 tl
  go_wp2_with fail
  go_loopw [15] (fun i wr => ∃ k : Nat, k ≤ 11 ∧ i = .int .i64 k ∧ Hid (Keep1 W2 wr (w.heap.size + 1)) ∧ Hid (Cells wr (w.heap.size + 1) 3 (part [x0, x1, x2, x3, x4, x5, x6, x7, x8, x9, x10] k))) (fun i _ => 11 - (intOf i).toNat)
  case atStart => exact ⟨0, Nat.zero_le _, rfl, Keep1.refl _ _, L0.out⟩
  case round =>
    obtain ⟨k, hk, rfl, KP, LC⟩ := hrel
    have ta := HT.out _ KP.out
    have t0 := ta.c 0 rfl
    have c0 := HC0.out _ KP.out
    have t1 := ta.c 1 rfl
    have c1 := HC1.out _ KP.out
    have t2 := ta.c 2 rfl
    have c2 := HC2.out _ KP.out
    have t3 := ta.c 3 rfl
    have c3 := HC3.out _ KP.out
    have t4 := ta.c 4 rfl
    have c4 := HC4.out _ KP.out
    have t5 := ta.c 5 rfl
    have c5 := HC5.out _ KP.out
    have t6 := ta.c 6 rfl
    have c6 := HC6.out _ KP.out
    have t7 := ta.c 7 rfl
    have c7 := HC7.out _ KP.out
    have t8 := ta.c 8 rfl
    have c8 := HC8.out _ KP.out
    have t9 := ta.c 9 rfl
    have c9 := HC9.out _ KP.out
    have t10 := ta.c 10 rfl
    have c10 := HC10.out _ KP.out
    have tl := ta.lt
    clear ta
    have ll := LC.out.lt
    rcases (by omega : k = 0 ∨ k = 1 ∨ k = 2 ∨ k = 3 ∨ k = 4 ∨ k = 5 ∨ k = 6 ∨ k = 7 ∨ k = 8 ∨ k = 9 ∨ k = 10 ∨ k = 11) with rfl | rfl | rfl | rfl | rfl | rfl | rfl | rfl | rfl | rfl | rfl | rfl
    · have lf := LC.out.free 0
      have lc := LC.out.c 0 rfl
      go_wp2_with fail
      go_roundw
      case rel => exact ⟨1, by omega, by go_num, KP.out.set _ _, (LC.out.set 0 _)⟩
      case measure => simp [intOf]
    · have lf := LC.out.free 1
      have lc := LC.out.c 1 rfl
      go_wp2_with fail
      go_roundw
      case rel => exact ⟨2, by omega, by go_num, KP.out.set _ _, (LC.out.set 1 _)⟩
      case measure => simp [intOf]
    · have lf := LC.out.free 2
      have lc := LC.out.c 2 rfl
      go_wp2_with fail
      go_roundw
      case rel => exact ⟨3, by omega, by go_num, KP.out.set _ _, (LC.out.set 2 _)⟩
      case measure => simp [intOf]
    · have lf := LC.out.free 3
      have lc := LC.out.c 3 rfl
      go_wp2_with fail
      go_roundw
      case rel => exact ⟨4, by omega, by go_num, KP.out.set _ _, (LC.out.set 3 _)⟩
      case measure => simp [intOf]
    · have lf := LC.out.free 4
      have lc := LC.out.c 4 rfl
      go_wp2_with fail
      go_roundw
      case rel => exact ⟨5, by omega, by go_num, KP.out.set _ _, (LC.out.set 4 _)⟩
      case measure => simp [intOf]
    · have lf := LC.out.free 5
      have lc := LC.out.c 5 rfl
      go_wp2_with fail
      go_roundw
      case rel => exact ⟨6, by omega, by go_num, KP.out.set _ _, (LC.out.set 5 _)⟩
      case measure => simp [intOf]
    · have lf := LC.out.free 6
      have lc := LC.out.c 6 rfl
      go_wp2_with fail
      go_roundw
      case rel => exact ⟨7, by omega, by go_num, KP.out.set _ _, (LC.out.set 6 _)⟩
      case measure => simp [intOf]
    · have lf := LC.out.free 7
      have lc := LC.out.c 7 rfl
      go_wp2_with fail
      go_roundw
      case rel => exact ⟨8, by omega, by go_num, KP.out.set _ _, (LC.out.set 7 _)⟩
      case measure => simp [intOf]
    · have lf := LC.out.free 8
      have lc := LC.out.c 8 rfl
      go_wp2_with fail
      go_roundw
      case rel => exact ⟨9, by omega, by go_num, KP.out.set _ _, (LC.out.set 8 _)⟩
      case measure => simp [intOf]
    · have lf := LC.out.free 9
      have lc := LC.out.c 9 rfl
      go_wp2_with fail
      go_roundw
      case rel => exact ⟨10, by omega, by go_num, KP.out.set _ _, (LC.out.set 9 _)⟩
      case measure => simp [intOf]
    · have lf := LC.out.free 10
      have lc := LC.out.c 10 rfl
      go_wp2_with fail
      go_roundw
      case rel => exact ⟨11, by omega, by go_num, KP.out.set _ _, (LC.out.set 10 _)⟩
      case measure => simp [intOf]
    · have RW : Hid (RowI wr.heap.size wr (some ⟨w.heap.size + 1, 0, none⟩) 11 [x0, x1, x2, x3, x4, x5, x6, x7, x8, x9, x10]) := rowI_cells rfl HI.out LC.out
      have BW := Lib.hid (KP.out.below HS.out (Nat.le_succ _) (Nat.le_refl _))
      have PU := Lib.hid (put_any (some ⟨w.heap.size + 1, 0, none⟩) 11 11 [x0, x1, x2, x3, x4, x5, x6, x7, x8, x9, x10] wr RW.out (by omega))
      clear LC KP RW HT L0 HS B2 T0 B0
      go_wp2_with (go_at_call 40; (with_reducible refine PU.out.mono ?_); rintro e w1 ⟨b1, ⟨-, v1, rfl, o1⟩ | ⟨hbig, -⟩⟩; (rotate_left; exact absurd hbig (by simp)); have O1 := Lib.hid o1; have B1 := Lib.hid (below_more BW.out b1); clear o1 b1 PU; refine Hid.out ?_)
      refine Lib.hid ?_
      obtain ⟨A1, n1, cap1, rfl, k1, k2, k3, k4⟩ := Own.row O1.out
      have HL := Lib.hid (listB_len HI.out (by simp))
      have hn1 : n1 ≤ 120 := by have := k4.1; have := HL.out; simp at this; omega
      have HO := Lib.hid (own_new w1 [k'] w.heap.size B1.out.size (by unfold maxLen; simp))
      have B3 := Lib.hid (B1.out.alloc B1.out.size (.cells (Lib.byteCells [k']).toArray 5))
      have R1 := Lib.hid (k4.step (below_alloc w1 (.cells (Lib.byteCells [k']).toArray 5)))
      have K3 := Lib.hid k3
      clear k1 k2 k3 k4 O1
      go_wp2_with (refine wpList_app8 rfl _ _ rfl w.heap.size (.slice (some ⟨w1.heap.size, 0, none⟩) 1 1) [k'] rfl HO.out _ _ _ _ _ rfl K3.out R1.out (by simp; omega) B3.out.size ?_; refine Hid.out ?_)
      refine Lib.hid ?_
      intro v4 w4 o4 g4
      have B4 := Lib.hid (B3.out.grown g4 B3.out.size (own_grown (w' := w) HO.out))
      obtain ⟨A4, n4, cap4, rfl, k1, k2, k3, k4⟩ := Own.row o4
      have R4 := Lib.hid k4
      have C4 := Lib.hid (And.intro k1 (And.intro k2 k3))
      clear o4 g4 k1 k2 k3 k4
      go_wp2_with fail
      go_ret2
      exact ⟨_, _, _, rfl, C4.out.1, by have := C4.out.2.1; unfold maxLen at this; omega, C4.out.2.2, R4.out, B4.out⟩
end Go.Proofs.Ytmfbnajaocaikaa
