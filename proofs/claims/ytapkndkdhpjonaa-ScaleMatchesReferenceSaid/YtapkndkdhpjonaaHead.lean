/- Layer 1: the fixed examples that each statement begins with: the call answers true; nothing that was in memory is changed. -/
import Derived.Test.YtapkndkdhpjonaaApi
namespace Go.Proofs.Ytapkndkdhpjonaa
open Go.RowKit Go
set_option linter.unusedVariables false

theorem floor_at (a n d x e : Int) (h : floorR a n d = (x, e)) (w : World) : Calls Try.prog 11 #[.int .i64 a, .int .i64 n, .int .i64 d] w (Gives (.tuple #[.int .i64 x, .int .i64 e]) w) := by
  have := floor_any a n d w; rw [h] at this; exact this
theorem ceil_at (a n d x e : Int) (h : ceilR' a n d = (x, e)) (w : World) : Calls Try.prog 13 #[.int .i64 a, .int .i64 n, .int .i64 d] w (Gives (.tuple #[.int .i64 x, .int .i64 e]) w) := by
  have := ceil_any a n d w; rw [h] at this; exact this
theorem near_at (a n d x e : Int) (h : nearR' a n d = (x, e)) (w : World) : Calls Try.prog 15 #[.int .i64 a, .int .i64 n, .int .i64 d] w (Gives (.tuple #[.int .i64 x, .int .i64 e]) w) := by
  have := near_any a n d w; rw [h] at this; exact this

/-- The same, over a world that the call was begun in. -/
theorem gives_from {v : Value} {w w1 : World} {e : Ending} {w2 : World} (hb : Below w.heap.size w w1) (h : Gives v w1 e w2) : e = .returned v ∧ Below w.heap.size w w2 :=
  ⟨h.1, hb.trans (h.2.mono hb.size)⟩

theorem sum_three (a b c x e : Int) (h : sumR [a, b, c] = (x, e)) (w : World) :
    Calls Try.prog 17 #[.slice (some ⟨w.heap.size, 0, none⟩) 3 3] (w.alloc (.cells #[.int .i64 a, .int .i64 b, .int .i64 c] 3)) fun en w' => en = .returned (.tuple #[.int .i64 x, .int .i64 e]) ∧ w.alloc (.cells #[.int .i64 a, .int .i64 b, .int .i64 c] 3) = w' := by
  have := sum_row [a, b, c] ⟨w.heap.size, 0, none⟩ 3 3 rfl (by decide) (w.alloc (.cells #[.int .i64 a, .int .i64 b, .int .i64 c] 3)) (by
    intro i hi
    match i, hi with
    | 0, _ => go_cell
    | 1, _ => go_cell
    | 2, _ => go_cell)
  rw [h] at this
  exact this

theorem sum_two (a b x e : Int) (h : sumR [a, b] = (x, e)) (w : World) :
    Calls Try.prog 17 #[.slice (some ⟨w.heap.size, 0, none⟩) 2 2] (w.alloc (.cells #[.int .i64 a, .int .i64 b] 3)) fun en w' => en = .returned (.tuple #[.int .i64 x, .int .i64 e]) ∧ w.alloc (.cells #[.int .i64 a, .int .i64 b] 3) = w' := by
  have := sum_row [a, b] ⟨w.heap.size, 0, none⟩ 2 2 rfl (by decide) (w.alloc (.cells #[.int .i64 a, .int .i64 b] 3)) (by
    intro i hi
    match i, hi with
    | 0, _ => go_cell
    | 1, _ => go_cell)
  rw [h] at this
  exact this

set_option maxHeartbeats 1000000 in
theorem head_true (w : World) : Calls Try.prog 10 #[] w (Gives (.bool true) w) := by
  have F1 : Hid _ := floor_at (-7) 1 2 (-4) 0 (by decide)
  have F2 : Hid _ := ceil_at (-7) 1 2 (-3) 0 (by decide)
  have F3 : Hid _ := near_at (-7) 1 2 (-4) 0 (by decide)
  have F4 : Hid _ := floor_at 3000000000000000 1000000000 1000050000 2999850007499625 0 (by decide)
  have F5 : Hid _ := floor_at 3000000000000000 2 1 0 3 (by decide)
  have F6 : Hid _ := ceil_at 1 1 0 0 1 (by decide)
  have S1 : Hid _ := sum_three 3 (-5) 1 (-1) 0 (by decide)
  go_enter Try.func10, Try.ntmps10
  go_wp2_with fail
  refine (F1.out _).mono ?_
  rintro e w1 ⟨rfl, b1⟩
  go_wp2_with fail
  refine (F2.out _).mono ?_
  intro e w2 h
  obtain ⟨rfl, b2⟩ := gives_from b1 h
  clear h b1
  go_wp2_with fail
  refine (F3.out _).mono ?_
  intro e w3 h
  obtain ⟨rfl, b3⟩ := gives_from b2 h
  clear h b2
  go_wp2_with fail
  refine (F4.out _).mono ?_
  intro e w4 h
  obtain ⟨rfl, b4⟩ := gives_from b3 h
  clear h b3
  go_wp2_with fail
  refine (F5.out _).mono ?_
  intro e w5 h
  obtain ⟨rfl, b5⟩ := gives_from b4 h
  clear h b4
  go_wp2_with fail
  refine (F6.out _).mono ?_
  intro e w6 h
  obtain ⟨rfl, b6⟩ := gives_from b5 h
  clear h b5
  go_wp2_with fail
  refine (S1.out _).mono ?_
  rintro e w7 ⟨rfl, rfl⟩
  go_wp2_with fail
  go_ret
  exact ⟨rfl, b6.alloc b6.size _⟩
end Go.Proofs.Ytapkndkdhpjonaa
