/- Layer 1: the walk of the statement on sums. -/
import Derived.Test.YtapkndkdhpjonaaLaws
namespace Go.Proofs.Ytapkndkdhpjonaa
open Go.RowKit Go
set_option linter.unusedVariables false

theorem sum3_at (a b c x e : Int) (h : sumR [a, b, c] = (x, e)) (k : Nat) (W : World) (h0 : W.cell? ⟨k, 0, none⟩ = some (.int .i64 a)) (h1 : W.cell? ⟨k, 1, none⟩ = some (.int .i64 b)) (h2 : W.cell? ⟨k, 2, none⟩ = some (.int .i64 c)) :
    Calls Try.prog 17 #[.slice (some ⟨k, 0, none⟩) 3 3] W fun en w' => en = .returned (.tuple #[.int .i64 x, .int .i64 e]) ∧ W = w' := by
  have := sum_row [a, b, c] ⟨k, 0, none⟩ 3 3 rfl (by decide) W (by
    intro i hi
    match i, hi with
    | 0, _ => exact h0
    | 1, _ => exact h1
    | 2, _ => exact h2)
  rw [h] at this
  exact this

theorem sum2_at (a b x e : Int) (h : sumR [a, b] = (x, e)) (k : Nat) (W : World) (h0 : W.cell? ⟨k, 0, none⟩ = some (.int .i64 a)) (h1 : W.cell? ⟨k, 1, none⟩ = some (.int .i64 b)) :
    Calls Try.prog 17 #[.slice (some ⟨k, 0, none⟩) 2 2] W fun en w' => en = .returned (.tuple #[.int .i64 x, .int .i64 e]) ∧ W = w' := by
  have := sum_row [a, b] ⟨k, 0, none⟩ 2 2 rfl (by decide) W (by
    intro i hi
    match i, hi with
    | 0, _ => exact h0
    | 1, _ => exact h1)
  rw [h] at this
  exact this

set_option maxRecDepth 100000 in
set_option maxHeartbeats 2000000 in
theorem sums_true (a b c n d : Int) (w0 : (Lit.int .i64 a).wf = true) (w1 : (Lit.int .i64 b).wf = true) (w2 : (Lit.int .i64 c).wf = true) (w3 : (Lit.int .i64 n).wf = true) (w4 : (Lit.int .i64 d).wf = true) (w : World) :
    Calls Try.prog 9 #[.int .i64 a, .int .i64 b, .int .i64 c, .int .i64 n, .int .i64 d] w (Gives (.bool true) w) := by
  clear w0 w1 w2 w3 w4
  have H : Hid _ := head_true
  cases hx : sumR [a, b, c] with
  | mk x e =>
  cases hs : sumR [a, b] with
  | mk s h =>
  have S1 : Hid _ := sum3_at a b c x e hx
  have S2 : Hid _ := sum3_at c a b x e ((sum_turn a b c).1.trans hx)
  have S3 : Hid _ := sum3_at b a c x e ((sum_turn a b c).2.trans hx)
  have S4 : Hid _ := sum2_at a b s h hs
  clear hx
  by_cases hh : h = 0
  · subst hh
    obtain rfl : s = a + b := sum_two_ok a b s hs
    clear hs
    cases hp : floorR a n d with
    | mk p i =>
    cases hq : floorR b n d with
    | mk q k =>
    cases hr : floorR (a + b) n d with
    | mk r l =>
    have G1 : Hid _ := floor_at a n d p i hp
    have G2 : Hid _ := floor_at b n d q k hq
    have G3 : Hid _ := floor_at (a + b) n d r l hr
    obtain ⟨p1, p2⟩ := floor_bound _ _ _ _ _ hp
    obtain ⟨q1, q2⟩ := floor_bound _ _ _ _ _ hq
    by_cases h1 : i = 0
    · by_cases h2 : k = 0
      · by_cases h3 : l = 0
        · subst h1 h2 h3
          obtain ⟨f1, f2⟩ := floor_add a b n d p q r hp hq hr
          clear hp hq hr
          by_cases hc : r = p + q
          · have t1 : (r == p + q) = true := by simpa using hc
            clear hc
            go_enter Try.func9, Try.ntmps9
            go_wp2_with fail
            refine (H.out _).mono ?_
            rintro e w1 ⟨rfl, b1⟩
            go_wp2_with fail
            refine (S1.out _ _ (by go_cell) (by go_cell) (by go_cell)).mono ?_
            rintro e w2 ⟨rfl, rfl⟩
            have b2 := b1.alloc b1.size (.cells #[.int .i64 a, .int .i64 b, .int .i64 c] 3)
            clear b1
            go_wp2_with fail
            refine (S2.out _ _ (by go_cell) (by go_cell) (by go_cell)).mono ?_
            rintro e w3 ⟨rfl, rfl⟩
            have b3 := b2.alloc b2.size (.cells #[.int .i64 c, .int .i64 a, .int .i64 b] 3)
            clear b2
            go_wp2_with fail
            refine (S3.out _ _ (by go_cell) (by go_cell) (by go_cell)).mono ?_
            rintro e w4 ⟨rfl, rfl⟩
            have b4 := b3.alloc b3.size (.cells #[.int .i64 b, .int .i64 a, .int .i64 c] 3)
            clear b3
            go_wp2_with fail
            refine (S4.out _ _ (by go_cell) (by go_cell)).mono ?_
            rintro e w5 ⟨rfl, rfl⟩
            have b5 := b4.alloc b4.size (.cells #[.int .i64 a, .int .i64 b] 3)
            clear b4
            go_wp2_with fail
            refine (G1.out _).mono ?_
            intro e w6 h
            obtain ⟨rfl, b6⟩ := gives_from b5 h
            clear h b5
            go_wp2_with fail
            refine (G2.out _).mono ?_
            intro e w7 h
            obtain ⟨rfl, b7⟩ := gives_from b6 h
            clear h b6
            go_wp2_with fail
            refine (G3.out _).mono ?_
            intro e w8 h
            obtain ⟨rfl, b8⟩ := gives_from b7 h
            clear h b7
            go_wp2_with fail
            go_ret
            exact ⟨rfl, b8⟩
          · have t1 : (r == p + q) = false := by simpa using hc
            have t2 : (r == p + q + 1) = true := by simp; omega
            clear hc
            go_enter Try.func9, Try.ntmps9
            go_wp2_with fail
            refine (H.out _).mono ?_
            rintro e w1 ⟨rfl, b1⟩
            go_wp2_with fail
            refine (S1.out _ _ (by go_cell) (by go_cell) (by go_cell)).mono ?_
            rintro e w2 ⟨rfl, rfl⟩
            have b2 := b1.alloc b1.size (.cells #[.int .i64 a, .int .i64 b, .int .i64 c] 3)
            clear b1
            go_wp2_with fail
            refine (S2.out _ _ (by go_cell) (by go_cell) (by go_cell)).mono ?_
            rintro e w3 ⟨rfl, rfl⟩
            have b3 := b2.alloc b2.size (.cells #[.int .i64 c, .int .i64 a, .int .i64 b] 3)
            clear b2
            go_wp2_with fail
            refine (S3.out _ _ (by go_cell) (by go_cell) (by go_cell)).mono ?_
            rintro e w4 ⟨rfl, rfl⟩
            have b4 := b3.alloc b3.size (.cells #[.int .i64 b, .int .i64 a, .int .i64 c] 3)
            clear b3
            go_wp2_with fail
            refine (S4.out _ _ (by go_cell) (by go_cell)).mono ?_
            rintro e w5 ⟨rfl, rfl⟩
            have b5 := b4.alloc b4.size (.cells #[.int .i64 a, .int .i64 b] 3)
            clear b4
            go_wp2_with fail
            refine (G1.out _).mono ?_
            intro e w6 h
            obtain ⟨rfl, b6⟩ := gives_from b5 h
            clear h b5
            go_wp2_with fail
            refine (G2.out _).mono ?_
            intro e w7 h
            obtain ⟨rfl, b7⟩ := gives_from b6 h
            clear h b6
            go_wp2_with fail
            refine (G3.out _).mono ?_
            intro e w8 h
            obtain ⟨rfl, b8⟩ := gives_from b7 h
            clear h b7
            go_wp2_with fail
            go_ret
            exact ⟨rfl, b8⟩
        · subst h1 h2
          have t1 : (l != 0) = true := by simpa using h3
          clear hp hq hr h3
          go_enter Try.func9, Try.ntmps9
          go_wp2_with fail
          refine (H.out _).mono ?_
          rintro e w1 ⟨rfl, b1⟩
          go_wp2_with fail
          refine (S1.out _ _ (by go_cell) (by go_cell) (by go_cell)).mono ?_
          rintro e w2 ⟨rfl, rfl⟩
          have b2 := b1.alloc b1.size (.cells #[.int .i64 a, .int .i64 b, .int .i64 c] 3)
          clear b1
          go_wp2_with fail
          refine (S2.out _ _ (by go_cell) (by go_cell) (by go_cell)).mono ?_
          rintro e w3 ⟨rfl, rfl⟩
          have b3 := b2.alloc b2.size (.cells #[.int .i64 c, .int .i64 a, .int .i64 b] 3)
          clear b2
          go_wp2_with fail
          refine (S3.out _ _ (by go_cell) (by go_cell) (by go_cell)).mono ?_
          rintro e w4 ⟨rfl, rfl⟩
          have b4 := b3.alloc b3.size (.cells #[.int .i64 b, .int .i64 a, .int .i64 c] 3)
          clear b3
          go_wp2_with fail
          refine (S4.out _ _ (by go_cell) (by go_cell)).mono ?_
          rintro e w5 ⟨rfl, rfl⟩
          have b5 := b4.alloc b4.size (.cells #[.int .i64 a, .int .i64 b] 3)
          clear b4
          go_wp2_with fail
          refine (G1.out _).mono ?_
          intro e w6 h
          obtain ⟨rfl, b6⟩ := gives_from b5 h
          clear h b5
          go_wp2_with fail
          refine (G2.out _).mono ?_
          intro e w7 h
          obtain ⟨rfl, b7⟩ := gives_from b6 h
          clear h b6
          go_wp2_with fail
          refine (G3.out _).mono ?_
          intro e w8 h
          obtain ⟨rfl, b8⟩ := gives_from b7 h
          clear h b7
          go_wp2_with fail
          go_ret
          exact ⟨rfl, b8⟩
      · subst h1
        have t1 : (k != 0) = true := by simpa using h2
        clear hp hq hr h2
        go_enter Try.func9, Try.ntmps9
        go_wp2_with fail
        refine (H.out _).mono ?_
        rintro e w1 ⟨rfl, b1⟩
        go_wp2_with fail
        refine (S1.out _ _ (by go_cell) (by go_cell) (by go_cell)).mono ?_
        rintro e w2 ⟨rfl, rfl⟩
        have b2 := b1.alloc b1.size (.cells #[.int .i64 a, .int .i64 b, .int .i64 c] 3)
        clear b1
        go_wp2_with fail
        refine (S2.out _ _ (by go_cell) (by go_cell) (by go_cell)).mono ?_
        rintro e w3 ⟨rfl, rfl⟩
        have b3 := b2.alloc b2.size (.cells #[.int .i64 c, .int .i64 a, .int .i64 b] 3)
        clear b2
        go_wp2_with fail
        refine (S3.out _ _ (by go_cell) (by go_cell) (by go_cell)).mono ?_
        rintro e w4 ⟨rfl, rfl⟩
        have b4 := b3.alloc b3.size (.cells #[.int .i64 b, .int .i64 a, .int .i64 c] 3)
        clear b3
        go_wp2_with fail
        refine (S4.out _ _ (by go_cell) (by go_cell)).mono ?_
        rintro e w5 ⟨rfl, rfl⟩
        have b5 := b4.alloc b4.size (.cells #[.int .i64 a, .int .i64 b] 3)
        clear b4
        go_wp2_with fail
        refine (G1.out _).mono ?_
        intro e w6 h
        obtain ⟨rfl, b6⟩ := gives_from b5 h
        clear h b5
        go_wp2_with fail
        refine (G2.out _).mono ?_
        intro e w7 h
        obtain ⟨rfl, b7⟩ := gives_from b6 h
        clear h b6
        go_wp2_with fail
        refine (G3.out _).mono ?_
        intro e w8 h
        obtain ⟨rfl, b8⟩ := gives_from b7 h
        clear h b7
        go_wp2_with fail
        go_ret
        exact ⟨rfl, b8⟩
    · have t1 : (i != 0) = true := by simpa using h1
      clear hp hq hr h1
      go_enter Try.func9, Try.ntmps9
      go_wp2_with fail
      refine (H.out _).mono ?_
      rintro e w1 ⟨rfl, b1⟩
      go_wp2_with fail
      refine (S1.out _ _ (by go_cell) (by go_cell) (by go_cell)).mono ?_
      rintro e w2 ⟨rfl, rfl⟩
      have b2 := b1.alloc b1.size (.cells #[.int .i64 a, .int .i64 b, .int .i64 c] 3)
      clear b1
      go_wp2_with fail
      refine (S2.out _ _ (by go_cell) (by go_cell) (by go_cell)).mono ?_
      rintro e w3 ⟨rfl, rfl⟩
      have b3 := b2.alloc b2.size (.cells #[.int .i64 c, .int .i64 a, .int .i64 b] 3)
      clear b2
      go_wp2_with fail
      refine (S3.out _ _ (by go_cell) (by go_cell) (by go_cell)).mono ?_
      rintro e w4 ⟨rfl, rfl⟩
      have b4 := b3.alloc b3.size (.cells #[.int .i64 b, .int .i64 a, .int .i64 c] 3)
      clear b3
      go_wp2_with fail
      refine (S4.out _ _ (by go_cell) (by go_cell)).mono ?_
      rintro e w5 ⟨rfl, rfl⟩
      have b5 := b4.alloc b4.size (.cells #[.int .i64 a, .int .i64 b] 3)
      clear b4
      go_wp2_with fail
      refine (G1.out _).mono ?_
      intro e w6 h
      obtain ⟨rfl, b6⟩ := gives_from b5 h
      clear h b5
      go_wp2_with fail
      refine (G2.out _).mono ?_
      intro e w7 h
      obtain ⟨rfl, b7⟩ := gives_from b6 h
      clear h b6
      go_wp2_with fail
      refine (G3.out _).mono ?_
      intro e w8 h
      obtain ⟨rfl, b8⟩ := gives_from b7 h
      clear h b7
      go_wp2_with fail
      go_ret
      exact ⟨rfl, b8⟩
  · have t1 : (h != 0) = true := by simpa using hh
    clear hs hh
    go_enter Try.func9, Try.ntmps9
    go_wp2_with fail
    refine (H.out _).mono ?_
    rintro e w1 ⟨rfl, b1⟩
    go_wp2_with fail
    refine (S1.out _ _ (by go_cell) (by go_cell) (by go_cell)).mono ?_
    rintro e w2 ⟨rfl, rfl⟩
    have b2 := b1.alloc b1.size (.cells #[.int .i64 a, .int .i64 b, .int .i64 c] 3)
    clear b1
    go_wp2_with fail
    refine (S2.out _ _ (by go_cell) (by go_cell) (by go_cell)).mono ?_
    rintro e w3 ⟨rfl, rfl⟩
    have b3 := b2.alloc b2.size (.cells #[.int .i64 c, .int .i64 a, .int .i64 b] 3)
    clear b2
    go_wp2_with fail
    refine (S3.out _ _ (by go_cell) (by go_cell) (by go_cell)).mono ?_
    rintro e w4 ⟨rfl, rfl⟩
    have b4 := b3.alloc b3.size (.cells #[.int .i64 b, .int .i64 a, .int .i64 c] 3)
    clear b3
    go_wp2_with fail
    refine (S4.out _ _ (by go_cell) (by go_cell)).mono ?_
    rintro e w5 ⟨rfl, rfl⟩
    have b5 := b4.alloc b4.size (.cells #[.int .i64 a, .int .i64 b] 3)
    clear b4
    go_wp2_with fail
    go_ret
    exact ⟨rfl, b5⟩
end Go.Proofs.Ytapkndkdhpjonaa
