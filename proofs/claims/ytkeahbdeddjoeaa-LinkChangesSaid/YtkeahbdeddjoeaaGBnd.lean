/- Layer 10: package link's Bounds, and the bundle (gen/gen_bnd.py writes this). -/
import Derived.Maps.AppendAt
import Derived.Laws.EntriesVeiled
import Derived.Test.YtkeahbdeddjoeaaCRow
import Derived.Test.YtkeahbdeddjoeaaGFor
import Derived.Test.YtkeahbdeddjoeaaGFold
import Derived.Test.YtkeahbdeddjoeaaGSgr
namespace Go.Proofs.Ytkeahbdeddjoeaa
open Go.RowKit Go Go.Shelf
set_option linter.unusedVariables false
set_option linter.unusedSimpArgs false
attribute [local go_sem] Oper.semAt_some

set_option maxRecDepth 100000 in
set_option maxHeartbeats 8000000 in
theorem gbounds_no1 (A : Option Addr) (len cap : Nat) (l : List Ch) (lo hi : Int) (w : World) (hr : RowC w.heap.size w A len l) (hl : len ≤ 9223372036854775807) (hn : ¬ LkOk l) :
    Calls Try.prog 11 #[.slice A len cap, rgV lo hi] w (Gives (.tuple #[chV Ch.nil, .int .i64 1]) w) := by
  have VL := Lib.hid (fun w h => glink_any A len cap l false ⟨fun h => (by cases h), fun h => absurd h hn⟩ w h hl)
  unfold rgV chV Ch.nil
  dsimp only
  clear hn
  obtain ⟨W, hW⟩ : ∃ W, ((w.alloc (.cells #[.int .i64 lo, .int .i64 hi] 26)).alloc (.cells #[.int .i64 0, .int .i64 0, .int .i64 0, .int .i64 0, .int .i64 0] 24)) = W := ⟨_, rfl⟩
  have I : Hid (Two W (w.heap.size) 26 (.int .i64 lo) (.int .i64 hi)) := by
    rw [← hW]
    have k := Two.new w 26 (.int .i64 lo) (.int .i64 hi)
    exact (k).alloc _
  have R : Hid (Five W (w.heap.size + 1) 24 (.int .i64 0) (.int .i64 0) (.int .i64 0) (.int .i64 0) (.int .i64 0)) := by
    rw [← hW]
    have k := Five.new (w.alloc (.cells #[.int .i64 lo, .int .i64 hi] 26)) 24 (.int .i64 0) (.int .i64 0) (.int .i64 0) (.int .i64 0) (.int .i64 0)
    rw [show (w.alloc (.cells #[.int .i64 lo, .int .i64 hi] 26)).heap.size = w.heap.size + 1 by simp] at k
    exact k
  have BB : Hid (Below w.heap.size w W) := by rw [← hW]; exact (below_alloc w _).alloc (by simp) _
  have i_0 := I.out.c0
  have i_1 := I.out.c1
  have i_l := I.out.lt
  have r_0 := R.out.c0
  have r_1 := R.out.c1
  have r_2 := R.out.c2
  have r_3 := R.out.c3
  have r_4 := R.out.c4
  have r_l := R.out.lt
  have r_f0 := R.out.free 0
  have r_f1 := R.out.free 1
  have r_f2 := R.out.free 2
  have r_f3 := R.out.free 3
  have r_f4 := R.out.free 4
  have CR : Hid (RowC W.heap.size W A len l) := by rw [← hW]; exact (hr.step (below_alloc _ _)).step (below_alloc _ _)
  clear hr
  go_enter Try.func11, Try.ntmps11
  go_wp2_with (go_at_call 13; (with_reducible refine (VL.out _ CR.out).mono ?_); rintro e w1 ⟨rfl, b1⟩; replace I := Lib.hid (I.out.below b1 I.out.lt); replace R := Lib.hid (R.out.below b1 R.out.lt); replace BB := Lib.hid (below_more BB.out b1); replace CR := Lib.hid (CR.out.step b1); replace i_0 := I.out.c0; replace i_1 := I.out.c1; replace i_l := I.out.lt; replace r_0 := R.out.c0; replace r_1 := R.out.c1; replace r_2 := R.out.c2; replace r_3 := R.out.c3; replace r_4 := R.out.c4; replace r_l := R.out.lt; replace r_f0 := R.out.free 0; replace r_f1 := R.out.free 1; replace r_f2 := R.out.free 2; replace r_f3 := R.out.free 3; replace r_f4 := R.out.free 4; clear b1 VL)
  refine bodyPost_ret (v := .tuple #[.agg #[.int .i64 0, .int .i64 0, .int .i64 0, .int .i64 0, .int .i64 0], .int .i64 1]) (by simp [results, Try.results11, go_sem, r_0, r_1, r_2, r_3, r_4, r_l]) rfl ⟨rfl, ?_⟩
  exact (((((BB.out.setCell (p := ⟨w.heap.size + 1, 0, none⟩) (by show w.heap.size ≤ w.heap.size + 1; omega) _).setCell (p := ⟨w.heap.size + 1, 1, none⟩) (by show w.heap.size ≤ w.heap.size + 1; omega) _).setCell (p := ⟨w.heap.size + 1, 2, none⟩) (by show w.heap.size ≤ w.heap.size + 1; omega) _).setCell (p := ⟨w.heap.size + 1, 3, none⟩) (by show w.heap.size ≤ w.heap.size + 1; omega) _).setCell (p := ⟨w.heap.size + 1, 4, none⟩) (by show w.heap.size ≤ w.heap.size + 1; omega) _)
set_option maxRecDepth 100000 in
set_option maxHeartbeats 8000000 in
theorem gbounds_no2 (A : Option Addr) (len cap : Nat) (l : List Ch) (lo hi : Int) (w : World) (hr : RowC w.heap.size w A len l) (hl : len ≤ 9223372036854775807) (hy : LkOk l) (hn : ¬ IvOk lo hi) :
    Calls Try.prog 11 #[.slice A len cap, rgV lo hi] w (Gives (.tuple #[chV Ch.nil, .int .i64 1]) w) := by
  have VL := Lib.hid (fun w h => glink_any A len cap l true ⟨fun _ => hy, fun _ => rfl⟩ w h hl)
  have VI := Lib.hid (gvalid_any lo hi false ⟨fun h => (by cases h), fun h => absurd h hn⟩)
  unfold rgV at VI ⊢
  unfold chV Ch.nil
  dsimp only
  clear hn hy
  obtain ⟨W, hW⟩ : ∃ W, ((w.alloc (.cells #[.int .i64 lo, .int .i64 hi] 26)).alloc (.cells #[.int .i64 0, .int .i64 0, .int .i64 0, .int .i64 0, .int .i64 0] 24)) = W := ⟨_, rfl⟩
  have I : Hid (Two W (w.heap.size) 26 (.int .i64 lo) (.int .i64 hi)) := by
    rw [← hW]
    have k := Two.new w 26 (.int .i64 lo) (.int .i64 hi)
    exact (k).alloc _
  have R : Hid (Five W (w.heap.size + 1) 24 (.int .i64 0) (.int .i64 0) (.int .i64 0) (.int .i64 0) (.int .i64 0)) := by
    rw [← hW]
    have k := Five.new (w.alloc (.cells #[.int .i64 lo, .int .i64 hi] 26)) 24 (.int .i64 0) (.int .i64 0) (.int .i64 0) (.int .i64 0) (.int .i64 0)
    rw [show (w.alloc (.cells #[.int .i64 lo, .int .i64 hi] 26)).heap.size = w.heap.size + 1 by simp] at k
    exact k
  have BB : Hid (Below w.heap.size w W) := by rw [← hW]; exact (below_alloc w _).alloc (by simp) _
  have i_0 := I.out.c0
  have i_1 := I.out.c1
  have i_l := I.out.lt
  have r_0 := R.out.c0
  have r_1 := R.out.c1
  have r_2 := R.out.c2
  have r_3 := R.out.c3
  have r_4 := R.out.c4
  have r_l := R.out.lt
  have r_f0 := R.out.free 0
  have r_f1 := R.out.free 1
  have r_f2 := R.out.free 2
  have r_f3 := R.out.free 3
  have r_f4 := R.out.free 4
  have CR : Hid (RowC W.heap.size W A len l) := by rw [← hW]; exact (hr.step (below_alloc _ _)).step (below_alloc _ _)
  clear hr
  go_enter Try.func11, Try.ntmps11
  go_wp2_with (first
    | (go_at_call 13; (with_reducible refine (VL.out _ CR.out).mono ?_); rintro e w1 ⟨rfl, b1⟩; replace I := Lib.hid (I.out.below b1 I.out.lt); replace R := Lib.hid (R.out.below b1 R.out.lt); replace BB := Lib.hid (below_more BB.out b1); replace CR := Lib.hid (CR.out.step b1); replace i_0 := I.out.c0; replace i_1 := I.out.c1; replace i_l := I.out.lt; replace r_0 := R.out.c0; replace r_1 := R.out.c1; replace r_2 := R.out.c2; replace r_3 := R.out.c3; replace r_4 := R.out.c4; replace r_l := R.out.lt; replace r_f0 := R.out.free 0; replace r_f1 := R.out.free 1; replace r_f2 := R.out.free 2; replace r_f3 := R.out.free 3; replace r_f4 := R.out.free 4; clear b1 VL)
    | (go_at_call 28; (with_reducible refine (VI.out _).mono ?_); rintro e w2 ⟨rfl, b2⟩; replace I := Lib.hid (I.out.below b2 I.out.lt); replace R := Lib.hid (R.out.below b2 R.out.lt); replace BB := Lib.hid (below_more BB.out b2); replace CR := Lib.hid (CR.out.step b2); replace i_0 := I.out.c0; replace i_1 := I.out.c1; replace i_l := I.out.lt; replace r_0 := R.out.c0; replace r_1 := R.out.c1; replace r_2 := R.out.c2; replace r_3 := R.out.c3; replace r_4 := R.out.c4; replace r_l := R.out.lt; replace r_f0 := R.out.free 0; replace r_f1 := R.out.free 1; replace r_f2 := R.out.free 2; replace r_f3 := R.out.free 3; replace r_f4 := R.out.free 4; clear b2 VI))
  refine bodyPost_ret (v := .tuple #[.agg #[.int .i64 0, .int .i64 0, .int .i64 0, .int .i64 0, .int .i64 0], .int .i64 1]) (by simp [results, Try.results11, go_sem, r_0, r_1, r_2, r_3, r_4, r_l]) rfl ⟨rfl, ?_⟩
  exact (((((BB.out.setCell (p := ⟨w.heap.size + 1, 0, none⟩) (by show w.heap.size ≤ w.heap.size + 1; omega) _).setCell (p := ⟨w.heap.size + 1, 1, none⟩) (by show w.heap.size ≤ w.heap.size + 1; omega) _).setCell (p := ⟨w.heap.size + 1, 2, none⟩) (by show w.heap.size ≤ w.heap.size + 1; omega) _).setCell (p := ⟨w.heap.size + 1, 3, none⟩) (by show w.heap.size ≤ w.heap.size + 1; omega) _).setCell (p := ⟨w.heap.size + 1, 4, none⟩) (by show w.heap.size ≤ w.heap.size + 1; omega) _)
theorem info_chg : (Try.prog.info? 24).map (fun i => (i.zero, i.size, i.bytes)) = some (some (.agg #[.int .i64 0, .int .i64 0, .int .i64 0, .int .i64 0, .int .i64 0]), 5, 40) := by kernel_rfl
theorem gcells_new (w : World) (t : TypeId) (cs : List Value) : ∀ j u, cs[j]? = some u → (w.alloc (.cells cs.toArray t)).cell? ((⟨w.heap.size, 0, none⟩ : Addr).add j) = some u := by
  intro j u h
  rw [show (⟨w.heap.size, 0, none⟩ : Addr).add j = ⟨w.heap.size, j, none⟩ by unfold Addr.add; split <;> simp_all, cell_of_row _ _ j cs.toArray t (0, 0) (heap_alloc_new w _)]
  simpa using h
theorem five_kept {W Y : World} {g : Nat} {T : TypeId} {v0 v1 v2 v3 v4 : Value} {row : Option Nat} (h : Five W g T v0 v1 v2 v3 v4) (hg : W.grownBy Y row) (hr : ∀ r, row = some r → ∃ o : Obj, W.heap[r]? = some o ∧ o.isCells = false) : Five Y g T v0 v1 v2 v3 v4 := by
  refine (hg.block g h.lt (fun e => ?_)).trans h
  obtain ⟨o, ho, hc⟩ := hr g e.symm
  rw [show W.heap[g]? = _ from h] at ho; cases ho; cases hc
theorem RowC.belowB {B : Nat} {w W : World} {A : Option Addr} {len : Nat} {l : List Ch} (h : RowC B w A len l) (b : Below B w W) : RowC B W A len l :=
  ⟨h.1, fun hn => by
    obtain ⟨p, e, hp, hc⟩ := h.2.1 hn
    exact ⟨p, e, hp, fun i hi => (hc i hi).below b (by rw [block_of_add]; exact hp)⟩, h.2.2⟩
theorem five_putObj {W : World} {g D : Nat} {T : TypeId} {v0 v1 v2 v3 v4 : Value} {o : Obj} (h : Five W g T v0 v1 v2 v3 v4) (hD : W.heap[D]? = some o) (ho : o.isCells = false) (o' : Obj) : Five (W.putObj D o') g T v0 v1 v2 v3 v4 :=
  five_kept h (grownBy_putObj' W D o') (fun r e => by cases e; exact ⟨o, hD, ho⟩)
theorem box_append {W w1 : World} {n2 C : Nat} {v v' : Value} {tmp : Obj} {xs : List Ch} {x : Ch} (hb : Boxed W C 22 v) (hrow : W.ownsRow n2 24 5 v xs.length (cellsC xs))
    (hown' : w1.ownsRow n2 24 5 v' (xs.length + 1) (cellsC xs ++ [.int .i64 x.t, .int .i64 x.a, .int .i64 x.b, .int .i64 x.c, .int .i64 x.d])) (hgrow : (W.alloc tmp).grownBy w1 v.ownBlock) (hn2 : n2 ≤ W.heap.size) :
    Boxed w1 C 22 v ∧ Boxed (w1.setCell ⟨C, 0, none⟩ v') C 22 v' ∧ (w1.setCell ⟨C, 0, none⟩ v').ownsRow n2 24 5 v' (xs ++ [x]).length (cellsC (xs ++ [x])) ∧ KeepsOthers W (w1.setCell ⟨C, 0, none⟩ v') ∧
      KeepX C n2 W (w1.setCell ⟨C, 0, none⟩ v') ∧ (∀ B w, Below B w W → B ≤ C → B ≤ n2 → Below B w (w1.setCell ⟨C, 0, none⟩ v')) := by
  have k1 : Boxed w1 C 22 v := (hb.alloc tmp).kept hgrow (hb.not_row (by decide) hrow)
  have own : ∀ j, v.ownBlock = some j → n2 ≤ j := fun j e => (hrow.lt j e).1
  refine ⟨k1, k1.set v', ?_, ?_, ?_, ?_⟩
  · have e : cellsC (xs ++ [x]) = cellsC xs ++ [.int .i64 x.t, .int .i64 x.a, .int .i64 x.b, .int .i64 x.c, .int .i64 x.d] := by rw [cellsC_app]; rfl
    rw [e, List.length_append]
    exact hown'.kept (grownBy_setCell' w1 C v') (.inr (k1.not_row (by decide) hown').symm)
  · refine ((KeepsOthers.alloc W tmp).trans (KeepsOthers.of_grownBy hgrow fun j o ej hj => ?_)).trans (KeepsOthers.setCell _ _ _)
    rcases (hrow.alloc tmp).2 with ⟨rfl, _⟩ | ⟨g, cap, cur, rfl, _, hgb, _⟩
    · simp [Value.ownBlock] at ej
    · obtain rfl : g = j := by simpa [Value.ownBlock] using ej
      rw [hgb] at hj; cases hj; rfl
  · exact ((KeepX.alloc W tmp hn2).trans (KeepX.grown hgrow (by simp; omega) fun r e => .inr (own r e))).trans (KeepX.setCell _ _ _ (.inl rfl))
  · intro B w hb h2 h3
    have hs := hb
    exact ((hb.alloc (Nat.le_trans h3 hn2) tmp).grown hgrow (by simp; omega) (fun j e => by have := own j e; omega)).setCell (p := ⟨C, 0, none⟩) h2 v'

theorem bnd_boxes (w : World) (lo hi : Int) : ∃ W, (w.alloc (.cells #[.int .i64 lo, .int .i64 hi] 26)).alloc (.cells #[.int .i64 0, .int .i64 0, .int .i64 0, .int .i64 0, .int .i64 0] 24) = W ∧ W.heap.size = w.heap.size + 2 ∧ Below w.heap.size w W ∧
    Two W w.heap.size 26 (.int .i64 lo) (.int .i64 hi) ∧ Five W (w.heap.size + 1) 24 (.int .i64 0) (.int .i64 0) (.int .i64 0) (.int .i64 0) (.int .i64 0) := by
  refine ⟨_, rfl, by simp, (below_alloc w _).alloc (by simp) _, (Two.new w _ _ _).alloc _, ?_⟩
  have k := Five.new (w.alloc (.cells #[.int .i64 lo, .int .i64 hi] 26)) 24 (.int .i64 0) (.int .i64 0) (.int .i64 0) (.int .i64 0) (.int .i64 0)
  rwa [World.size_alloc] at k
theorem bnd_boxes2 (w : World) (A : Option Addr) (len cap : Nat) (lo hi : Int) : ∃ W, ((w.alloc (.cells #[.slice none 0 0] 22)).alloc (.cells #[.slice A len cap] 22)).alloc (.cells #[.int .i64 lo, .int .i64 hi] 26) = W ∧ W.heap.size = w.heap.size + 3 ∧ Below w.heap.size w W ∧
    Boxed W w.heap.size 22 (.slice none 0 0) ∧ W.cell? ⟨w.heap.size + 1, 0, none⟩ = some (.slice A len cap) ∧ W.cell? ⟨w.heap.size + 1 + 1, 0, none⟩ = some (.int .i64 lo) ∧ W.cell? ⟨w.heap.size + 1 + 1, 1, none⟩ = some (.int .i64 hi) := by
  refine ⟨_, rfl, by simp, (((below_alloc w _).alloc (by simp) _).alloc (by simp; omega) _), ((Boxed.new w _ _).alloc _).alloc _, ?_, ?_, ?_⟩
  · have k := (Boxed.new (w.alloc (.cells #[.slice none 0 0] 22)) 22 (.slice A len cap)).alloc (.cells #[.int .i64 lo, .int .i64 hi] 26)
    have := k.cell
    rwa [World.size_alloc] at this
  · have k := Two.new ((w.alloc (.cells #[.slice none 0 0] 22)).alloc (.cells #[.slice A len cap] 22)) 26 (.int .i64 lo) (.int .i64 hi)
    rw [World.size_alloc, World.size_alloc] at k
    exact k.c0
  · have k := Two.new ((w.alloc (.cells #[.slice none 0 0] 22)).alloc (.cells #[.slice A len cap] 22)) 26 (.int .i64 lo) (.int .i64 hi)
    rw [World.size_alloc, World.size_alloc] at k
    exact k.c1

theorem for_stops (n : Nat) (hn : 1 ≤ n) (C n2 B gl gi : Nat) (A : Option Addr) (len cap : Nat) (l : List Ch) (lo hi : Int) (h20 : len ≤ 20) (ilo : I64 lo) (ihi : I64 hi)
    (hB1 : B ≤ C) (hB2 : B ≤ n2) (hgl1 : gl ≠ C) (hgl2 : gl < n2) (hgi1 : gi ≠ C) (hgi2 : gi < n2) (w : World) (hn2 : n2 ≤ w.heap.size) (hrow : RowC B w A len l)
    (hcl : w.cell? ⟨gl, 0, none⟩ = some (.slice A len cap)) (hc0 : w.cell? ⟨gi, 0, none⟩ = some (.int .i64 lo)) (hc1 : w.cell? ⟨gi, 1, none⟩ = some (.int .i64 hi)) :
    SeqStopsK Fence.wide n Try.prog 41 #[.pointer (some ⟨gl, 0, none⟩), .pointer (some ⟨gi, 0, none⟩)] encC (KeepX C n2) (fun ys => ys = forL lo hi l) (fun _ => True) len w := fun yl J Jx W hW hJ hJx hY h0 =>
  gfor_in Fence.wide n trivial rfl hn yl C n2 B gl gi A len cap l lo hi h20 ilo ihi hB1 hB2 hgl1 hgl2 hgi1 hgi2 J Jx W hJ hJx hY (Nat.le_trans hn2 hW.size)
    (hrow.keep (C := C) (n2 := n2) ⟨hW.size, fun b _ hb => hW.block b (by omega)⟩ hB1 hB2) ((hW.cell (p := ⟨gl, 0, none⟩) (by simp only; omega)).trans hcl) ((hW.cell (p := ⟨gi, 0, none⟩) (by simp only; omega)).trans hc0) ((hW.cell (p := ⟨gi, 1, none⟩) (by simp only; omega)).trans hc1) h0

set_option maxRecDepth 100000 in
set_option maxHeartbeats 8000000 in
theorem gbounds_yes (A : Option Addr) (len cap : Nat) (l : List Ch) (lo hi : Int) (w : World) (hr : RowC w.heap.size w A len l) (hl : len ≤ 9223372036854775807) (hy : LkOk l) (hv : IvOk lo hi) :
    Calls Try.prog 11 #[.slice A len cap, rgV lo hi] w (Gives (.tuple #[chV (foldJ (noneC lo) (forL lo hi l)), .int .i64 0]) w) := by
  have h20 : len ≤ 20 := by have := hy.2.1; rw [hr.1] at this; exact this
  have hlen := hr.1
  obtain ⟨i1, i2, i3⟩ := id hv
  have ilo : I64 lo := ⟨by omega, by omega⟩
  have ihi : I64 hi := ⟨by omega, by omega⟩
  have VL := Lib.hid (fun w h => glink_any A len cap l true ⟨fun _ => hy, fun _ => rfl⟩ w h hl)
  have VI := Lib.hid (gvalid_any lo hi true ⟨fun _ => hv, fun _ => rfl⟩)
  have HI64 := Lib.hid (fun (s : Ch) (hs : s ∈ forL lo hi l) => hr.2.2 s (forL_sub lo hi l s hs))
  have HFL := Lib.hid (show (forL lo hi l).length ≤ 20 from Nat.le_trans (forL_len lo hi l) (by rw [hlen]; exact h20))
  have FD := Lib.hid (fun (A' : Option Addr) (n' cap' : Nat) (hl' : n' ≤ 9223372036854775807) => gfold_any (noneC lo) A' n' cap' (forL lo hi l) (by unfold noneC Ch.Int64 I64; dsimp only; omega) hl')
  generalize foldJ (noneC lo) (forL lo hi l) = R at FD ⊢
  have IF := Lib.hid (ginforce_any A len cap lo hi)
  have HR := Lib.hid hr
  unfold rgV at VI IF ⊢
  unfold chV at FD ⊢
  unfold noneC at FD
  dsimp only at FD
  clear hr hy hv
  refine (callsIn_wide (n := 6)).1 ?_
  refine callsIn_of_wp_marks Try.func11 rfl trivial ?_ rfl
  simp only [Try.ntmps11, List.size_toArray, List.length_cons, List.length_nil, Nat.reduceAdd, Nat.reduceSub, Array.replicate_succ, Array.replicate_zero, List.push_toArray, List.append_toArray, List.nil_append, List.cons_append]
  obtain ⟨W0, e0, z0, b0, T0, R0⟩ := bnd_boxes w lo hi
  have HT := Lib.hid T0
  have HZ := Lib.hid R0
  have HB := Lib.hid b0
  have HW0 := Lib.hid z0
  clear T0 R0 b0 z0
  gi_wp2
  clear e0
  refine ⟨trivial, (callsIn_wide.2 (VL.out W0 (HR.out.step HB.out))).mono ?_⟩
  rintro e w1 ⟨rfl, b1⟩
  replace HT := Lib.hid (HT.out.below b1 HT.out.lt)
  replace HZ := Lib.hid (HZ.out.below b1 HZ.out.lt)
  replace HB := Lib.hid (below_more HB.out b1)
  have i_0 := HT.out.c0
  have i_1 := HT.out.c1
  have i_l := HT.out.lt
  clear b1 VL
  gi_wp2
  refine ⟨trivial, (callsIn_wide.2 (VI.out _)).mono ?_⟩
  rintro e w2 ⟨rfl, b2⟩
  replace HT := Lib.hid (HT.out.below b2 HT.out.lt)
  replace HZ := Lib.hid (HZ.out.below b2 HZ.out.lt)
  replace HB := Lib.hid (below_more HB.out b2)
  have HTa := Lib.hid (HT.out.alloc (.cells #[.slice none 0 0] 22))
  replace i_0 := HTa.out.c0
  replace i_1 := HTa.out.c1
  replace i_l := HTa.out.lt
  have W2Z : Hid (w.heap.size + 2 ≤ w2.heap.size) := by have := HZ.out.lt; unfold Hid; omega
  clear b2 VI HTa
  gi_wp2
  refine ⟨trivial, (callsIn_wide.2 (IF.out _)).mono ?_⟩
  rintro e w3 ⟨rfl, rfl⟩
  clear i_0 i_1 i_l IF
  obtain ⟨W3, e3, z3, b3, hbx, hcl, hc0, hc1⟩ := bnd_boxes2 w2 A len cap lo hi
  rw [World.size_alloc] at *
  gi_wp2
  clear e3
  have HC3 : Hid (Below w.heap.size w W3) := HB.out.trans (b3.mono HB.out.size)
  have ST := Lib.hid (for_stops 5 (by omega) w2.heap.size W3.heap.size w.heap.size (w2.heap.size + 1) (w2.heap.size + 1 + 1) A len cap l lo hi h20 ilo ihi (by have := W2Z.out; omega) (by have := W2Z.out; omega) (by omega) (by omega) (by omega) (by omega) W3 (Nat.le_refl _)
    (HR.out.belowB HC3.out) hcl hc0 hc1)
  have HBX := Lib.hid hbx
  have HB3 := Lib.hid b3
  obtain ⟨i0, hi', hz0, hz1, hz2⟩ := info_parts info_chg
  clear hbx hcl hc0 hc1 b3
  refine wpIn_rangeFunc_ownH rfl (by omega) (gf := 41) (lb := #[.pointer (some ⟨w2.heap.size + 1, 0, none⟩), .pointer (some ⟨w2.heap.size + 1 + 1, 0, none⟩)]) rfl trivial (enters_of Try.func41 (by kernel_rfl) rfl)
    ST.out (fun h k => KeepX.trans h k) (fun W l o o' hl ho _ _ => KeepX.grown (grownBy_putObj' W l o') (by have := (Array.getElem?_eq_some_iff.1 ho).1; omega) (fun r e => by cases e; exact .inr hl)) (Below.refl _ _) (fun _ => rfl)
    (fun pre W => (∃ v, Boxed W w2.heap.size 22 v ∧ W.ownsRow W3.heap.size 24 5 v pre.length (cellsC pre) ∧ True) ∧ (Below w2.heap.size w2 W ∧ W3.heap.size ≤ W.heap.size))
    (fun _ _ _ => False)
    (OwnFrom.and (_root_.Go.Own.from (holdsRow_own W3.heap.size w2.heap.size 22 24 5 (fun pre => pre.length) (fun pre => cellsC pre) (fun _ _ => True)) _) (OwnFrom.and (ownFrom_below (Nat.le_refl _) (by have := HB3.out.size; omega)) (fun s X Y row hs hg hr => Nat.le_trans hs hg.size)))
    (fun _ _ _ _ _ hs _ _ => hs)
    ⟨⟨_, HBX.out, World.ownsRow_nil _ _ _ _, trivial⟩, HB3.out, Nat.le_refl _⟩
    (fun x a' W => ∃ g, W3.heap.size ≤ g ∧ Five W g 24 (.int .i64 x.t) (.int .i64 x.a) (.int .i64 x.b) (.int .i64 x.c) (.int .i64 x.d) ∧ a' = { tmps := #[.slice A len cap, .agg #[.int .i64 lo, .int .i64 hi], undef, .pointer (some ⟨w.heap.size, 0, none⟩), .pointer (some ⟨w.heap.size + 1, 0, none⟩), .int .i64 0, .pointer (some ⟨w2.heap.size, 0, none⟩), .pointer (some ⟨g, 0, none⟩), undef,
      .slice A len cap, .bool true, .bool false, .bool false, .agg #[.int .i64 lo, .int .i64 hi], .bool true, .bool false, .bool false, undef, .slice A len cap, .agg #[.int .i64 lo, .int .i64 hi],
      .func (.func 41) #[] #[.pointer (some ⟨w2.heap.size + 1, 0, none⟩), .pointer (some ⟨w2.heap.size + 1 + 1, 0, none⟩)], .agg #[.int .i64 x.t, .int .i64 x.a, .int .i64 x.b, .int .i64 x.c, .int .i64 x.d], undef, undef, undef, undef, undef, undef, undef, undef, undef, undef], defers := [] })
    (fun x a' _ X Y row hs hg hr => by obtain ⟨g, h1, h2, h3⟩ := hs; exact ⟨g, h1, five_kept h2 hg (fun r e => (hr r e).2), h3⟩)
    ?assign ?body ?done ?stop
  case assign =>
    rintro l' pre x W K ⟨⟨v, hv, hrow, -⟩, hBW, hW3⟩ hK
    dsimp only [encC, chV]
    gi_wp2
    exact hK _ _ ((KeepsOthers.alloc _ _).from _) (KeepX.alloc _ _ hW3) ⟨⟨v, hv.alloc _, hrow.alloc _, trivial⟩, hBW.alloc hBW.size _, by simp; omega⟩ ⟨W.heap.size, hW3, Five.new W _ _ _ _ _ _, rfl⟩
  case body =>
    rintro l' pre x a' W hl' ⟨r, hr'⟩ ⟨⟨v, hv, hrow, -⟩, hBW, hW3⟩ ⟨g, hg, hX, rfl⟩ hlt
    have hc := hv.cell
    have x0 := hX.c0
    have x1 := hX.c1
    have x2 := hX.c2
    have x3 := hX.c3
    have x4 := hX.c4
    have xl := hX.lt
    have hz3 := HB3.out.size
    have HCN := Lib.hid (gcells_new W 24 [.int .i64 x.t, .int .i64 x.a, .int .i64 x.b, .int .i64 x.c, .int .i64 x.d])
    have hpl : pre.length ≤ 20 := by omega
    clear hX
    gi_wp2_with (gi_at_builtin; refine wpListIn_append_own _ rfl _ _ 22 rfl W3.heap.size 24 i0 (.agg #[.int .i64 0, .int .i64 0, .int .i64 0, .int .i64 0, .int .i64 0]) 5 40 Try.underlying22 hi' hz0 hz1 hz2 rfl (by decide) _ _ _ rfl (hrow.alloc _) ⟨W.heap.size, 0, none⟩ 1 1 [.int .i64 x.t, .int .i64 x.a, .int .i64 x.b, .int .i64 x.c, .int .i64 x.d] rfl rfl HCN.out (by simp [Value.oneCell']) (by unfold maxLen; omega) (by omega) (by simp; omega) ?_; intro v' w5 hown' hgrow _; obtain ⟨g', cap', rfl⟩ := ownsRow_succ hown'; obtain ⟨k1, k2, k3, k4, k5, k6⟩ := box_append (x := x) hv hrow hown' hgrow hW3; have hc1 := k1.cell; have hf1 := k1.frozen)
    exact ⟨k4.from _, k5, ⟨_, k2, k3, trivial⟩, k6 _ _ hBW (Nat.le_refl _) hz3, Nat.le_trans hW3 k4.size⟩
  case done =>
    rintro D ys W hD rfl ⟨⟨v, hv, hrow, -⟩, hBW, hW3⟩ hK
    have hc := hv.cell
    have hz3 := HB3.out.size
    replace HT := Lib.hid (HT.out.below hBW HT.out.lt)
    replace HZ := Lib.hid (HZ.out.below hBW HZ.out.lt)
    have i_0 := HT.out.c0
    have i_1 := HT.out.c1
    have i_l := HT.out.lt
    have BWn := Lib.hid (HB.out.trans (hBW.mono HB.out.size))
    have hlf := HFL.out
    generalize forL lo hi l = fl at hrow FD HI64 hlf
    obtain ⟨A', cap', rfl, hc1, hc2, -, hG⟩ := rowG_own hrow
    have CR := Lib.hid ((rowG_C hG HI64.out).step (below_alloc W (.cells #[.int .i64 lo, .int .i64 1000000, .int .i64 0, .int .i64 1000000, .int .i64 0] 24)))
    have FC := Lib.hid (FD.out A' fl.length cap' (by omega) _ CR.out)
    have KD := Lib.hid ((Below.heap_alloc W (.cells #[.int .i64 lo, .int .i64 1000000, .int .i64 0, .int .i64 1000000, .int .i64 0] 24) D (Array.getElem?_eq_some_iff.1 hK).1).trans hK)
    have KL := Lib.hid (show D < (W.alloc (.cells #[.int .i64 lo, .int .i64 1000000, .int .i64 0, .int .i64 1000000, .int .i64 0] 24)).heap.size by have := (Array.getElem?_eq_some_iff.1 hK).1; simp; omega)
    have DN := Lib.hid (show D ≠ w.heap.size + 1 by have := HZ.out.lt; have := W2Z.out; omega)
    replace HZ := Lib.hid (HZ.out.alloc (.cells #[.int .i64 lo, .int .i64 1000000, .int .i64 0, .int .i64 1000000, .int .i64 0] 24))
    replace BWn := Lib.hid (BWn.out.alloc BWn.out.size (.cells #[.int .i64 lo, .int .i64 1000000, .int .i64 0, .int .i64 1000000, .int .i64 0] 24))
    have NB := Lib.hid (Five.new W 24 (.int .i64 lo) (.int .i64 1000000) (.int .i64 0) (.int .i64 1000000) (.int .i64 0))
    have hcA := Lib.hid ((hv.alloc (.cells #[.int .i64 lo, .int .i64 1000000, .int .i64 0, .int .i64 1000000, .int .i64 0] 24)).cell)
    have n_0 := NB.out.c0
    have n_1 := NB.out.c1
    have n_2 := NB.out.c2
    have n_3 := NB.out.c3
    have n_4 := NB.out.c4
    have n_l := NB.out.lt
    have hcA2 := hcA.out
    clear hrow hG hv hK hBW
    gi_wp2
    refine ⟨trivial, (callsIn_wide.2 FC.out).mono ?_⟩
    rintro e w4 ⟨rfl, b4⟩
    replace HZ := Lib.hid (HZ.out.below b4 HZ.out.lt)
    replace BWn := Lib.hid (below_more BWn.out b4)
    replace KD := Lib.hid ((b4.block D KL.out).trans KD.out)
    have r_0 := HZ.out.c0
    have r_1 := HZ.out.c1
    have r_2 := HZ.out.c2
    have r_3 := HZ.out.c3
    have r_4 := HZ.out.c4
    have r_l := HZ.out.lt
    have r_f0 := HZ.out.free 0
    have r_f1 := HZ.out.free 1
    have r_f2 := HZ.out.free 2
    have r_f3 := HZ.out.free 3
    have r_f4 := HZ.out.free 4
    have RF := Lib.hid (gfive_put HZ.out R)
    have BF := Lib.hid (gbelow_put BWn.out (w.heap.size + 1) (by omega) R)
    have KF := Lib.hid ((heap_put w4 (w.heap.size + 1) D DN.out R).trans KD.out)
    clear b4 FC
    gi_wp2
    refine ⟨by simp, .inl ⟨_, _, rfl, run_takeDeferred KF.out, ?_⟩⟩
    have RP := five_putObj RF.out KF.out rfl (.deferred none)
    have BP := BF.out.trans (belowK_b (w := w) (Nat.le_refl _) _ D _ (.deferred none) (by have := W2Z.out; omega) KF.out rfl rfl)
    have p_0 := RP.c0
    have p_1 := RP.c1
    have p_2 := RP.c2
    have p_3 := RP.c3
    have p_4 := RP.c4
    have p_l := RP.lt
    clear RF BF KF RP
    refine ⟨.tuple #[.agg #[.int .i64 R.t, .int .i64 R.a, .int .i64 R.b, .int .i64 R.c, .int .i64 R.d], .int .i64 0], ?_, rfl, BP⟩
    simp [results, Try.results11, go_sem, p_0, p_1, p_2, p_3, p_4, p_l]
  case stop =>
    rintro D c pre W _ _ h _
    exact h.elim

theorem gbounds_any (A : Option Addr) (len cap : Nat) (l : List Ch) (lo hi : Int) (w : World) (hr : RowC w.heap.size w A len l) (hl : len ≤ 9223372036854775807) :
    Calls Try.prog 11 #[.slice A len cap, rgV lo hi] w (Gives (.tuple #[chV (boundsR l lo hi).1, .int .i64 (boundsR l lo hi).2]) w) := by
  unfold boundsR
  by_cases h1 : LkOk l
  · by_cases h2 : IvOk lo hi
    · rw [if_pos ⟨h1, h2⟩, ← gbounds_is h1 h2]
      exact gbounds_yes A len cap l lo hi w hr hl h1 h2
    · rw [if_neg (fun k => h2 k.2)]
      exact gbounds_no2 A len cap l lo hi w hr hl h1 h2
  · rw [if_neg (fun k => h1 k.1)]
    exact gbounds_no1 A len cap l lo hi w hr hl h1

theorem lnk : Lnk where
  valid := fun A len cap l q hq w hr h1 h2 => glink_any A len cap l q hq w hr (by omega)
  bounds := fun A len cap l lo hi _ _ w hr h1 h2 => gbounds_any A len cap l lo hi w hr (by omega)
  sent := fun s lo hi hs h1 h2 w => gsent_any s.t s.a s.b s.c s.d lo hi hs h1 h2 w
  got := fun s lo hi hs h1 h2 w => ggot_any s.t s.a s.b s.c s.d lo hi hs h1 h2 w
  round := fun s lo hi x y hs h1 h2 h3 h4 w => ground_any s.t s.a s.b s.c s.d lo hi x y hs h1 h2 h3 h4 w
end Go.Proofs.Ytkeahbdeddjoeaa
