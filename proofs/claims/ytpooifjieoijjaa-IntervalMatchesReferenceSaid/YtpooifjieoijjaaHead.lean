/- Layer 2: the fixed examples that each statement begins with. -/
import Derived.Deep.RegionHeld3
import Derived.Deep.CutBlock
import Derived.Deep.DeepCutAuto
import Derived.Test.YtpooifjieoijjaaCover2
import Derived.Test.YtpooifjieoijjaaRefs2
namespace Go.Proofs.Ytpooifjieoijjaa
open Go.RowKit Go
set_option linter.unusedVariables false

theorem Row.step {W W' : World} {A : Option Addr} {n : Nat} {zs : List (Int × Int)} (h : Row W.heap.size W A n zs) (b : Below W.heap.size W W') : Row W'.heap.size W' A n zs := (h.below b).more b.size
theorem Two.step {W W' : World} {g : Nat} {t : TypeId} {u v : Value} (h : Two W g t u v) (b : Below W.heap.size W W') : Two W' g t u v := h.below b h.lt
theorem below_more {w W W' : World} (h : Below w.heap.size w W) (b : Below W.heap.size W W') : Below w.heap.size w W' := h.trans (b.mono h.size)

theorem below_of_drew {w w' : World} (h : Below w.drew.heap.size w.drew w') : Below w.heap.size w w' := ⟨h.os, h.tape, h.output, h.size, h.block⟩

def exL : List (Int × Int) := [(0, 10), (5, 20), (11, 12)]

theorem exL_depth (x : Int) : (depthN exL x : Int) = (if 0 ≤ x ∧ x ≤ 10 then 1 else 0) + (if 5 ≤ x ∧ x ≤ 20 then 1 else 0) + (if 11 ≤ x ∧ x ≤ 12 then 1 else 0) := by
  simp only [depthN, exL, List.countP_cons, List.countP_nil, inB, Bool.and_eq_true, decide_eq_true_eq]
  split <;> split <;> split <;> rfl
theorem exL_cover2 : IsCover exL 2 [(5, 12)] := by
  refine ⟨by decide, by simp, fun x => ?_⟩
  rw [exL_depth, inL_iff]
  simp only [List.mem_singleton, exists_eq_left]
  split <;> split <;> split <;> omega
theorem exL_cover1 : IsCover exL 1 [(0, 20)] := by
  refine ⟨by decide, by simp, fun x => ?_⟩
  rw [exL_depth, inL_iff]
  simp only [List.mem_singleton, exists_eq_left]
  split <;> split <;> split <;> omega
theorem exL_cover3 : IsCover exL 3 [] := by
  refine ⟨by simp, by simp, fun x => ?_⟩
  rw [exL_depth, inL_iff]
  simp only [List.not_mem_nil, false_and, exists_false, false_iff]
  split <;> split <;> split <;> omega

/-- Cover at a list whose cover is known. -/
theorem cover_at (xs : List (Int × Int)) (zs : List (Int × Int)) (need : Int) (hx : IsCover zs need xs) (ho : okList zs = true) (hn1 : 1 ≤ need) (hn2 : need ≤ 64) (A : Option Addr) (len cap : Nat) (w : World) (hr : Row w.heap.size w A len zs) :
    Calls Try.prog 22 #[.slice A len cap, .int .i64 need] w fun e w' => ∃ (A' : Option Addr) (cap' : Nat), e = .returned (.tuple #[.slice A' xs.length cap', .int .i64 0]) ∧ Row w'.heap.size w' A' xs.length xs ∧ Below w.heap.size w w' := by
  refine (cover_ok A len cap zs need w hr ho hn1 hn2).mono ?_
  rintro e w' ⟨A', cap', ys, rfl, hR, _, hC, hb⟩
  obtain rfl : ys = xs := cover_unique hC hx (fun _ => rfl)
  exact ⟨A', cap', rfl, hR, hb⟩

theorem row_cells {B : Nat} {W : World} {g n : Nat} {zs : List (Int × Int)} (h : Row B W (some ⟨g, 0, none⟩) n zs) (i : Nat) (hi : i < n) :
    W.cell? ⟨g, i * 2, none⟩ = some (.int .i64 (zs.getD i (0, 0)).1) ∧ W.cell? ⟨g, i * 2 + 1, none⟩ = some (.int .i64 (zs.getD i (0, 0)).2) := by
  obtain ⟨p, e, _, hc⟩ := h.2 (by omega)
  injection e with e
  subst e
  have := hc i hi
  rwa [add_at] at this

/-- Meet at two known intervals; four cells lie as they lay. -/
theorem meet_keep (a b c d x y : Int) (t : Bool) (hm : meetR (a, b) (c, d) = ((x, y), t, 0)) (p0 p1 p2 p3 : Addr) (v0 v1 v2 v3 : Value) (w : World) (h0 : w.cell? p0 = some v0) (h1 : w.cell? p1 = some v1) (h2 : w.cell? p2 = some v2) (h3 : w.cell? p3 = some v3) :
    Calls Try.prog 12 #[.agg #[.int .i64 a, .int .i64 b], .agg #[.int .i64 c, .int .i64 d]] w fun e w' => e = .returned (.tuple #[.agg #[.int .i64 x, .int .i64 y], .bool t, .int .i64 0]) ∧ w'.cell? p0 = some v0 ∧ w'.cell? p1 = some v1 ∧ w'.cell? p2 = some v2 ∧ w'.cell? p3 = some v3 ∧ (∀ b o, b < w.heap.size → w'.cell? ⟨b, o, none⟩ = w.cell? ⟨b, o, none⟩) ∧ (∀ b o, b < w.heap.size → w'.frozen? ⟨b, o, none⟩ = w.frozen? ⟨b, o, none⟩) ∧ w.heap.size ≤ w'.heap.size ∧ Hid (Below w.heap.size w w') := by
  have h := meet_any a b c d w
  rw [hm] at h
  exact h.mono fun e w' ⟨he, hb⟩ => ⟨he, keepC hb h0, keepC hb h1, keepC hb h2, keepC hb h3, fun b o h => hb.cell (p := ⟨b, o, none⟩) h, fun b o h => hb.frozen (p := ⟨b, o, none⟩) h, hb.size, hb⟩

theorem row_new (w : World) (L : List (Int × Int)) : Row (w.alloc (.cells (cellsE L).toArray 24)).heap.size (w.alloc (.cells (cellsE L).toArray 24)) (some ⟨w.heap.size, 0, none⟩) L.length L := by
  refine ⟨rfl, fun _ => ⟨_, rfl, by simp, fun i hi => ?_⟩⟩
  obtain ⟨h0, h1⟩ := cellsE_at L i hi
  have h := cells_new w 24 (cellsE L)
  have e0 := h _ _ h0
  have e1 := h _ _ h1
  rw [add_at] at e0 e1 ⊢
  rw [show i * 2 = 2 * i by omega]
  exact ⟨e0, e1⟩

set_option maxRecDepth 100000 in
set_option maxHeartbeats 4000000 in
theorem head_true (w : World) : Calls Try.prog 10 #[] w (Gives (.bool true) w) := by
  have C2 := Lib.hid (cover_at [(5, 12)] exL 2 exL_cover2 (by decide) (by omega) (by omega))
  have C1 := Lib.hid (cover_at [(0, 20)] exL 1 exL_cover1 (by decide) (by omega) (by omega))
  have C3 := Lib.hid (cover_at [] exL 3 exL_cover3 (by decide) (by omega) (by omega))
  have G : Hid (∀ w, Calls Try.prog 18 #[.agg #[.int .i64 5, .int .i64 20], .int .i64 7, .int .i64 1] w (Gives (.tuple #[.agg #[.int .i64 0, .int .i64 21], .int .i64 0]) w)) := grow_any 5 20 7 1
  have M1 := Lib.hid (meet_keep 0 10 5 20 5 10 true (by decide) ⟨w.heap.size, 0, none⟩ ⟨w.heap.size, 1, none⟩ ⟨w.heap.size, 2, none⟩ ⟨w.heap.size, 3, none⟩ (.int .i64 0) (.int .i64 10) (.int .i64 5) (.int .i64 20))
  have M2 := Lib.hid (meet_keep 0 10 11 12 0 0 false (by decide) ⟨w.heap.size, 0, none⟩ ⟨w.heap.size, 1, none⟩ ⟨w.heap.size, 4, none⟩ ⟨w.heap.size, 5, none⟩ (.int .i64 0) (.int .i64 10) (.int .i64 11) (.int .i64 12))
  have HU : Hid (∀ W : World, Row W.heap.size W (some ⟨w.heap.size, 0, none⟩) 3 exL → Calls Try.prog 16 #[.slice (some ⟨w.heap.size, 0, none⟩) 3 3] W (Gives (.tuple #[.agg #[.int .i64 0, .int .i64 20], .int .i64 0]) W)) := fun W h => hull_any _ 3 3 exL W h (by omega) (by omega)
  have DE : Hid (∀ W : World, Row W.heap.size W (some ⟨w.heap.size, 0, none⟩) 3 exL → Calls Try.prog 20 #[.slice (some ⟨w.heap.size, 0, none⟩) 3 3, .int .i64 11] W (Gives (.tuple #[.int .i64 2, .int .i64 0]) W)) := fun W h => depth_any _ 3 3 exL 11 W h (by omega)
  have R0 : Hid (Row (w.alloc (.cells #[.int .i64 0, .int .i64 10, .int .i64 5, .int .i64 20, .int .i64 11, .int .i64 12] 24)).heap.size (w.alloc (.cells #[.int .i64 0, .int .i64 10, .int .i64 5, .int .i64 20, .int .i64 11, .int .i64 12] 24)) (some ⟨w.heap.size, 0, none⟩) 3 exL) := row_new w exL
  go_enter Try.func10, Try.ntmps10
  go_wp2_with fail
  refine (C2.out _ _ 3 _ R0.out).mono ?_
  rintro e w1 ⟨A1, cap1, rfl, hR1, b1⟩
  have R0 := Lib.hid (R0.out.step b1)
  have R1 := Lib.hid hR1
  have B := Lib.hid (below_more (below_alloc w _) b1)
  clear hR1 b1
  go_wp2_with fail
  refine (C1.out _ _ 3 _ R0.out).mono ?_
  rintro e w2 ⟨A2, cap2, rfl, hR2, b2⟩
  have R0 := Lib.hid (R0.out.step b2)
  have R1 := Lib.hid (R1.out.step b2)
  have R2 := Lib.hid hR2
  have B := Lib.hid (below_more B.out b2)
  clear hR2 b2
  go_wp2_with fail
  refine (C3.out _ _ 3 _ R0.out).mono ?_
  rintro e w3 ⟨A3, cap3, rfl, _, b3⟩
  have R0 := Lib.hid (R0.out.step b3)
  have R1 := Lib.hid (R1.out.step b3)
  have R2 := Lib.hid (R2.out.step b3)
  have B := Lib.hid (below_more B.out b3)
  clear b3
  have k0 := (row_cells R0.out 1 (by omega)).1
  have k1 := (row_cells R0.out 1 (by omega)).2
  simp only [exL, List.getD_cons_succ, List.getD_cons_zero, Nat.one_mul] at k0 k1
  go_wp2_with fail
  refine (G.out _).mono ?_
  rintro e w4 ⟨rfl, b4⟩
  clear k0 k1
  have R0 := Lib.hid (R0.out.step b4)
  have R1 := Lib.hid (R1.out.step b4)
  have R2 := Lib.hid (R2.out.step b4)
  have B := Lib.hid (below_more B.out b4)
  clear b4
  go_upto_region 6 with fail
  obtain ⟨b8, hb8⟩ : ∃ b8, w4.heap.size = b8 := ⟨_, rfl⟩
  have T8 : Hid (Two (w4.alloc (.cells #[.int .i64 0, .int .i64 21] 24)) b8 24 (.int .i64 0) (.int .i64 21)) := by rw [← hb8]; exact Two.new _ _ _ _
  have BB : Hid (Below w4.heap.size w4 (w4.alloc (.cells #[.int .i64 0, .int .i64 21] 24))) := below_alloc _ _
  rw [hb8]
  clear hb8
  generalize w4.alloc (.cells #[.int .i64 0, .int .i64 21] 24) = w5 at T8 BB ⊢
  have R0 := Lib.hid (R0.out.step BB.out)
  have R1 := Lib.hid (R1.out.step BB.out)
  have R2 := Lib.hid (R2.out.step BB.out)
  have B := Lib.hid (below_more B.out BB.out)
  clear BB
  go_cut [10, 11, 12] (fun s10 s11 s12 wx => ∃ g : Nat, s10 = .pointer (some ⟨g, 0, none⟩) ∧ s11 = .bool true ∧ s12 = .int .i64 0 ∧ Hid (Two wx g 24 (.int .i64 5) (.int .i64 10)) ∧ Hid (Below w5.heap.size w5 wx))
  case first =>
    have k0 := (row_cells R0.out 0 (by omega)).1
    have k1 := (row_cells R0.out 0 (by omega)).2
    have k2 := (row_cells R0.out 1 (by omega)).1
    have k3 := (row_cells R0.out 1 (by omega)).2
    have kl : w.heap.size < w5.heap.size := cell_lt k0
    have ne1 : w.heap.size ≠ w5.heap.size := by omega
    have ne2 : w5.heap.size ≠ w.heap.size := by omega
    simp only [exL, List.getD_cons_succ, List.getD_cons_zero, Nat.one_mul, Nat.zero_mul, Nat.zero_add, Nat.reduceAdd] at k0 k1 k2 k3
    go_region_held3 (fun w' => w'.cell? ⟨w.heap.size, 0, none⟩ = some (.int .i64 0) ∧ w'.cell? ⟨w.heap.size, 1, none⟩ = some (.int .i64 10) ∧ w'.cell? ⟨w.heap.size, 2, none⟩ = some (.int .i64 5) ∧ w'.cell? ⟨w.heap.size, 3, none⟩ = some (.int .i64 20)) (go_keep)
      (first
        | (go_at_call 12; refine (M1.out _ (by go_cell) (by go_cell) (by go_cell) (by go_cell)).mono ?_; rintro e w' ⟨rfl, s0, s1, s2, s3, hc, hf, hz, hb⟩))
    · go_wp2_with fail
      go_meet
      have b' : Below w5.heap.size w5 w' := below_of_drew hb.out
      exact ⟨_, rfl, rfl, rfl, Two.new _ _ _ _, b'.alloc b'.size _⟩
    · go_wp2_with fail
      go_meet
      have t' : Two w' w5.heap.size 24 (.int .i64 0) (.int .i64 0) := (Two.new w5.drew 24 (.int .i64 0) (.int .i64 0)).step hb.out
      have b' : Below w5.heap.size w5 w' := below_of_drew (below_more (below_alloc w5.drew _) hb.out)
      exact ⟨_, rfl, rfl, rfl, (t'.set0 _).set1 _, (b'.setCell (p := ⟨w5.heap.size, 0, none⟩) (Nat.le_refl _) _).setCell (p := ⟨w5.heap.size, 1, none⟩) (Nat.le_refl _) _⟩
  case rest =>
  obtain ⟨b10, rfl, rfl, rfl, T10, BB⟩ := hcut
  have R0 := Lib.hid (R0.out.step BB.out)
  have R1 := Lib.hid (R1.out.step BB.out)
  have R2 := Lib.hid (R2.out.step BB.out)
  have T8 := Lib.hid (T8.out.step BB.out)
  have B := Lib.hid (below_more B.out BB.out)
  clear BB
  obtain ⟨w6, rfl⟩ : ∃ w6 : World, w6 = wc := ⟨_, rfl⟩
  go_upto_region 7 with fail
  go_cut [13, 14, 15] (fun s10 s11 s12 wx => ∃ g : Nat, s10 = .pointer (some ⟨g, 0, none⟩) ∧ s11 = .bool false ∧ s12 = .int .i64 0 ∧ Hid (Two wx g 24 (.int .i64 0) (.int .i64 0)) ∧ Hid (Below w6.heap.size w6 wx))
  case first =>
    have k0 := (row_cells R0.out 0 (by omega)).1
    have k1 := (row_cells R0.out 0 (by omega)).2
    have k2 := (row_cells R0.out 2 (by omega)).1
    have k3 := (row_cells R0.out 2 (by omega)).2
    have kl : w.heap.size < w6.heap.size := cell_lt k0
    have ne1 : w.heap.size ≠ w6.heap.size := by omega
    have ne2 : w6.heap.size ≠ w.heap.size := by omega
    simp only [exL, List.getD_cons_succ, List.getD_cons_zero, Nat.zero_mul, Nat.zero_add, Nat.reduceMul, Nat.reduceAdd] at k0 k1 k2 k3
    go_region_held3 (fun w' => w'.cell? ⟨w.heap.size, 0, none⟩ = some (.int .i64 0) ∧ w'.cell? ⟨w.heap.size, 1, none⟩ = some (.int .i64 10) ∧ w'.cell? ⟨w.heap.size, 4, none⟩ = some (.int .i64 11) ∧ w'.cell? ⟨w.heap.size, 5, none⟩ = some (.int .i64 12)) (go_keep)
      (first
        | (go_at_call 12; refine (M2.out _ (by go_cell) (by go_cell) (by go_cell) (by go_cell)).mono ?_; rintro e w' ⟨rfl, s0, s1, s2, s3, hc, hf, hz, hb⟩))
    · go_wp2_with fail
      go_meet
      have b' : Below w6.heap.size w6 w' := below_of_drew hb.out
      exact ⟨_, rfl, rfl, rfl, Two.new _ _ _ _, b'.alloc b'.size _⟩
    · go_wp2_with fail
      go_meet
      have t' : Two w' w6.heap.size 24 (.int .i64 0) (.int .i64 0) := (Two.new w6.drew 24 (.int .i64 0) (.int .i64 0)).step hb.out
      have b' : Below w6.heap.size w6 w' := below_of_drew (below_more (below_alloc w6.drew _) hb.out)
      exact ⟨_, rfl, rfl, rfl, (t'.set0 _).set1 _, (b'.setCell (p := ⟨w6.heap.size, 0, none⟩) (Nat.le_refl _) _).setCell (p := ⟨w6.heap.size, 1, none⟩) (Nat.le_refl _) _⟩
  case rest =>
  obtain ⟨b13, rfl, rfl, rfl, _, BB⟩ := hcut
  have R0 := Lib.hid (R0.out.step BB.out)
  have R1 := Lib.hid (R1.out.step BB.out)
  have R2 := Lib.hid (R2.out.step BB.out)
  have T8 := Lib.hid (T8.out.step BB.out)
  have T10 := Lib.hid (T10.out.step BB.out)
  have B := Lib.hid (below_more B.out BB.out)
  clear BB
  go_wp2_with fail
  refine (HU.out _ R0.out).mono ?_
  rintro e w7 ⟨rfl, b7⟩
  have R0 := Lib.hid (R0.out.step b7)
  have R1 := Lib.hid (R1.out.step b7)
  have R2 := Lib.hid (R2.out.step b7)
  have T8 := Lib.hid (T8.out.step b7)
  have T10 := Lib.hid (T10.out.step b7)
  have B := Lib.hid (below_more B.out b7)
  clear b7
  have BB := Lib.hid (below_alloc w7 (.cells #[.int .i64 0, .int .i64 20] 24))
  have T16 := Lib.hid (Two.new w7 24 (.int .i64 0) (.int .i64 20))
  have R0 := Lib.hid (R0.out.step BB.out)
  have R1 := Lib.hid (R1.out.step BB.out)
  have R2 := Lib.hid (R2.out.step BB.out)
  have T8 := Lib.hid (T8.out.step BB.out)
  have T10 := Lib.hid (T10.out.step BB.out)
  have B := Lib.hid (below_more B.out BB.out)
  go_wp2_with fail
  refine (DE.out _ R0.out).mono ?_
  rintro e w9 ⟨rfl, b9⟩
  clear BB
  have R0 := Lib.hid (R0.out.step b9)
  have R1 := Lib.hid (R1.out.step b9)
  have R2 := Lib.hid (R2.out.step b9)
  have T8 := Lib.hid (T8.out.step b9)
  have T10 := Lib.hid (T10.out.step b9)
  have T16 := Lib.hid (T16.out.step b9)
  have B := Lib.hid (below_more B.out b9)
  clear b9
  have V1 : Hid (∀ W : World, Calls Try.prog 14 #[.agg #[.int .i64 0, .int .i64 10]] W (Gives (.bool true) W)) := valid_any 0 10
  have V2 : Hid (∀ W : World, Calls Try.prog 14 #[.agg #[.int .i64 3, .int .i64 2]] W (Gives (.bool false) W)) := valid_any 3 2
  have S1 : Hid (Calls Try.prog 24 #[.slice A1 1 cap1, .slice (some ⟨w9.heap.size, 0, none⟩) 1 1] (w9.alloc (.cells #[.int .i64 5, .int .i64 12] 24)) (Gives (.bool true) (w9.alloc (.cells #[.int .i64 5, .int .i64 12] 24)))) :=
    rsame_any A1 _ 1 1 cap1 1 [(5, 12)] [(5, 12)] _ (R1.out.step (below_alloc w9 _)) (row_new w9 [(5, 12)]) (by omega) (by omega)
  go_wp2_with fail
  refine S1.out.mono ?_
  rintro e w10 ⟨rfl, bb⟩
  have BB := Lib.hid (below_more (below_alloc w9 _) bb)
  clear bb S1
  have R0 := Lib.hid (R0.out.step BB.out)
  have R1 := Lib.hid (R1.out.step BB.out)
  have R2 := Lib.hid (R2.out.step BB.out)
  have T8 := Lib.hid (T8.out.step BB.out)
  have T10 := Lib.hid (T10.out.step BB.out)
  have T16 := Lib.hid (T16.out.step BB.out)
  have B := Lib.hid (below_more B.out BB.out)
  clear BB
  have S2 : Hid (Calls Try.prog 24 #[.slice A2 1 cap2, .slice (some ⟨w10.heap.size, 0, none⟩) 1 1] (w10.alloc (.cells #[.int .i64 0, .int .i64 20] 24)) (Gives (.bool true) (w10.alloc (.cells #[.int .i64 0, .int .i64 20] 24)))) :=
    rsame_any A2 _ 1 1 cap2 1 [(0, 20)] [(0, 20)] _ (R2.out.step (below_alloc w10 _)) (row_new w10 [(0, 20)]) (by omega) (by omega)
  go_wp2_with fail
  refine S2.out.mono ?_
  rintro e w11 ⟨rfl, bb⟩
  have BB := Lib.hid (below_more (below_alloc w10 _) bb)
  clear bb S2
  have R0 := Lib.hid (R0.out.step BB.out)
  have R1 := Lib.hid (R1.out.step BB.out)
  have R2 := Lib.hid (R2.out.step BB.out)
  have T8 := Lib.hid (T8.out.step BB.out)
  have T10 := Lib.hid (T10.out.step BB.out)
  have T16 := Lib.hid (T16.out.step BB.out)
  have B := Lib.hid (below_more B.out BB.out)
  clear BB
  have E1 : ∀ W, (binOp .eql 24 (.agg #[.int .i64 0, .int .i64 21]) (.agg #[.int .i64 0, .int .i64 21])).run Try.prog W = .ok (.bool true) W := fun W => by have := eql_iv (0, 21) (0, 21) W; simpa using this
  have E2 : ∀ W, (binOp .eql 24 (.agg #[.int .i64 5, .int .i64 10]) (.agg #[.int .i64 5, .int .i64 10])).run Try.prog W = .ok (.bool true) W := fun W => by have := eql_iv (5, 10) (5, 10) W; simpa using this
  have E3 : ∀ W, (binOp .eql 24 (.agg #[.int .i64 0, .int .i64 20]) (.agg #[.int .i64 0, .int .i64 20])).run Try.prog W = .ok (.bool true) W := fun W => by have := eql_iv (0, 20) (0, 20) W; simpa using this
  have t1 := T8.out.c0
  have t2 := T8.out.c1
  have t3 := T10.out.c0
  have t4 := T10.out.c1
  have t5 := T16.out.c0
  have t6 := T16.out.c1
  have k0 := (row_cells R0.out 0 (by omega)).1
  have k1 := (row_cells R0.out 0 (by omega)).2
  simp only [exL, List.getD_cons_zero, Nat.zero_mul, Nat.zero_add] at k0 k1
  go_wp2_with fail
  refine (V1.out _).mono ?_
  rintro e w12 ⟨rfl, bb⟩
  have B := Lib.hid (below_more B.out bb)
  clear bb E1 E2 E3 t1 t2 t3 t4 t5 t6 k0 k1
  go_wp2_with fail
  refine (V2.out _).mono ?_
  rintro e w13 ⟨rfl, bb⟩
  have B := Lib.hid (below_more B.out bb)
  clear bb
  go_wp2_with fail
  go_ret
  exact ⟨rfl, B.out⟩
end Go.Proofs.Ytpooifjieoijjaa
