/- Layer 4: the fixed examples that each statement begins with. -/
import Derived.Test.YtdambggcaimndaaCalls
namespace Go.Proofs.Ytdambggcaimndaa
open Go.RowKit Go.Sort Go
set_option linter.unusedVariables false

theorem list_a : listB [0, -1, 1, 64] = [8, 0, 1, 2, 128, 1] := by
  simp [listB, intB, num, digs_small, digs_big]
theorem list_b : listB [-9223372036854775808] = [2, 255, 255, 255, 255, 255, 255, 255, 255, 255, 1] := by
  simp [listB, intB, num, digs_small, digs_big]
theorem list_c : (frameB [5, 6]).length = 14 := by
  rw [frameB_len]
  simp [listB, intB, num, digs_small]
theorem get_a : getR [8, 0, 1, 2, 128, 1] = some [0, -1, 1, 64] := by
  rw [← list_a]; exact getR_list (by intro x hx; simp at hx; unfold InI; omega) (by simp)
theorem get_b : getR [2, 128, 0] = none := by decide
theorem next_c : nextR [0, 0] = none := by decide
theorem ok_c : OkL [5, 6] := ⟨by simp, by intro x hx; simp at hx; unfold InI; omega⟩
theorem told_c : Told (frameB [5, 6] ++ [0, 0]) [[5, 6]] 14 := by
  have h := Told.behind (ls := [[5, 6]]) (ps := []) (b := [0, 0]) (q := 0) (by intro l hl; simp at hl; subst hl; exact ok_c) ⟨⟨[0, 0], rfl, next_c⟩, rfl, fun l hl => by simp at hl⟩
  have e : framesB [[5, 6]] = frameB [5, 6] := by rw [framesB_cons, framesB_nil, List.append_nil]
  rw [e, list_c] at h
  exact h

theorem put_lit (l : List Int) (bs : List UInt8) (hb : listB l = bs) (hl : l.length ≤ 1000) (hz : ∀ x ∈ l, -9223372036854775808 ≤ x ∧ x ≤ 9223372036854775807) (cs : Array Value) (hc : cs = (intCells l).toArray) (n : Nat) (hn : n = l.length) (W : World) :
    Calls Try.prog 11 #[.slice (some ⟨W.heap.size, 0, none⟩) n n] (W.alloc (.cells cs 3)) fun e w' => ∃ A' n' cap', e = .returned (.tuple #[.slice A' n' cap', .int .i64 0]) ∧ n' = bs.length ∧ n' ≤ cap' ∧ (A' = none → cap' = 0) ∧ Row8 w'.heap.size w' A' n' bs ∧ Below W.heap.size W w' := by
  subst hb hc
  refine (put_ok _ n n l _ (rowI_new W l n hn hz) (by omega)).mono ?_
  rintro e w' ⟨A', n', cap', rfl, h1, h2, h3, h4, h5, h6⟩
  exact ⟨A', n', cap', rfl, h1, h2, h3, h5, below_more (below_alloc W _) h6⟩

theorem make_lit (l : List Int) (bs : List UInt8) (hb : frameB l = bs) (hl : l.length ≤ 1000) (hz : ∀ x ∈ l, -9223372036854775808 ≤ x ∧ x ≤ 9223372036854775807) (cs : Array Value) (hc : cs = (intCells l).toArray) (n : Nat) (hn : n = l.length) (W : World) :
    Calls Try.prog 14 #[.slice (some ⟨W.heap.size, 0, none⟩) n n] (W.alloc (.cells cs 3)) fun e w' => ∃ A' n' cap', e = .returned (.tuple #[.slice A' n' cap', .int .i64 0]) ∧ n' = bs.length ∧ n' ≤ cap' ∧ (A' = none → cap' = 0) ∧ Row8 w'.heap.size w' A' n' bs ∧ Below W.heap.size W w' := by
  subst hb hc
  refine (make_ok _ n n l _ (rowI_new W l n hn hz) (by omega)).mono ?_
  rintro e w' ⟨A', n', cap', rfl, h1, h2, h3, h4, h5, h6⟩
  exact ⟨A', n', cap', rfl, h1, h2, h3, h5, below_more (below_alloc W _) h6⟩

theorem get_lit (bs : List UInt8) (l : List Int) (hg : getR bs = some l) (hb : bs.length ≤ 1000) (cs : Array Value) (hc : cs = (Lib.byteCells bs).toArray) (n : Nat) (hn : n = bs.length) (W : World) :
    Calls Try.prog 16 #[.slice (some ⟨W.heap.size, 0, none⟩) n n] (W.alloc (.cells cs 5)) fun e w' => ∃ A' n' cap', e = .returned (.tuple #[.slice A' n' cap', .int .i64 0]) ∧ RowI w'.heap.size w' A' n' l ∧ Below W.heap.size W w' := by
  subst hc
  refine (get_row _ n n bs l _ (row8_new W bs n hn) (by omega) (Nat.le_refl _) hg).mono ?_
  rintro e w' ⟨A', n', cap', rfl, h1, h2, h3⟩
  exact ⟨A', n', cap', rfl, h2, below_more (below_alloc W _) h3⟩

theorem getno_lit (bs : List UInt8) (hg : getR bs = none) (hb : bs.length ≤ 1000) (cs : Array Value) (hc : cs = (Lib.byteCells bs).toArray) (n : Nat) (hn : n = bs.length) (W : World) :
    Calls Try.prog 16 #[.slice (some ⟨W.heap.size, 0, none⟩) n n] (W.alloc (.cells cs 5)) (Gives (.tuple #[.slice none 0 0, .int .i64 7]) W) := by
  subst hc
  refine (get_none _ n n bs _ (row8_new W bs n hn) (by omega) (Nat.le_refl _) hg).mono ?_
  rintro e w' ⟨rfl, h3⟩
  exact ⟨rfl, below_more (below_alloc W _) h3⟩

theorem same_lit (bs : List UInt8) (hb : bs.length ≤ 1000) (cs : Array Value) (hc : cs = (Lib.byteCells bs).toArray) (n : Nat) (hn : n = bs.length) (W : World) (A : Option Addr) (m cap : Nat) (hr : Row8 W.heap.size W A m bs) :
    Calls Try.prog 13 #[.slice A m cap, .slice (some ⟨W.heap.size, 0, none⟩) n n] (W.alloc (.cells cs 5)) (Gives (.bool true) W) := by
  subst hc
  refine (rsame_any _ _ m n cap n bs bs _ (hr.step (below_alloc W _)) (row8_new W bs n hn) (by have := hr.1; omega) (by omega)).mono ?_
  rintro e w' ⟨rfl, h3⟩
  exact ⟨by simp, below_more (below_alloc W _) (h3.below _)⟩

theorem ints_lit (l : List Int) (hl : l.length ≤ 1000) (cs : Array Value) (hc : cs = (intCells l).toArray) (n : Nat) (hn : n = l.length) (W : World) (A : Option Addr) (m cap : Nat) (hr : RowI W.heap.size W A m l) :
    Calls Try.prog 18 #[.slice A m cap, .slice (some ⟨W.heap.size, 0, none⟩) n n] (W.alloc (.cells cs 3)) (Gives (.bool true) W) := by
  subst hc
  refine (rints_any _ _ m n cap n l l _ (hr.step (below_alloc W _)) (rowI_new W l n hn hr.2.2) (by have := hr.1; omega) (by omega)).mono ?_
  rintro e w' ⟨rfl, h3⟩
  exact ⟨by simp, below_more (below_alloc W _) (h3.below _)⟩

theorem lists_lit (W : World) (A : Option Addr) (m cap : Nat) (hr : RowL W.heap.size W A m [[5, 6]]) :
    Calls Try.prog 21 #[.slice A m cap, .slice (some ⟨W.heap.size + 1, 0, none⟩) 1 1] ((W.alloc (.cells #[.int .i64 5, .int .i64 6] 3)).alloc (.cells #[.slice (some ⟨W.heap.size, 0, none⟩) 2 2] 22)) (Gives (.bool true) W) := by
  have b1 := below_alloc W (.cells #[.int .i64 5, .int .i64 6] 3)
  have r1 : RowI _ (W.alloc (.cells #[.int .i64 5, .int .i64 6] 3)) (some ⟨W.heap.size, 0, none⟩) 2 [5, 6] := rowI_new W [5, 6] 2 rfl (by simp)
  have b2 := below_alloc (W.alloc (.cells #[.int .i64 5, .int .i64 6] 3)) (.cells #[.slice (some ⟨W.heap.size, 0, none⟩) 2 2] 22)
  have r2 := r1.step b2
  refine (rlists_any _ _ m 1 cap 1 [[5, 6]] [[5, 6]] _ ((hr.step b1).step b2) ⟨rfl, fun _ => .slice (some ⟨W.heap.size, 0, none⟩) 2 2, fun _ => ⟨_, rfl, by simp, fun i hi => ?_⟩, fun i hi => ⟨_, _, _, rfl, by omega, ?_⟩⟩ (by have := hr.1; simp at this; omega) (by omega)).mono ?_
  · obtain rfl : i = 0 := by omega
    have h := (Boxed.new (W.alloc (.cells #[.int .i64 5, .int .i64 6] 3)) 22 (.slice (some ⟨W.heap.size, 0, none⟩) 2 2)).cell
    rwa [World.size_alloc] at h
  · obtain rfl : i = 0 := by omega
    exact r2
  · rintro e w' ⟨rfl, h3⟩
    exact ⟨by simp, below_more (below_more b1 b2) (h3.below _)⟩

end Go.Proofs.Ytdambggcaimndaa
