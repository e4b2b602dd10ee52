/- Layer 9: package slew's shown, Start, Show. -/
import Derived.Test.YtihfafmockaljaaGSmall
namespace Go.Proofs.Ytihfafmockaljaa
open Go.RowKit Go
set_option linter.unusedVariables false
set_option linter.unusedSimpArgs false

theorem floor_part (n r : Int) : n * (1000000000 + r) / 1000000000 = n + part n r := by
  unfold part
  rw [Int.mul_add, Int.add_comm, Int.add_mul_ediv_right _ _ (by decide), Int.add_comm]
theorem sum_two (a b : Int) (ha : TimeOk a) (hb : TimeOk b) : sumR [a, b] = if a + b ≤ 3000000000000000 then (a + b, 0) else (0, 3) := by
  obtain ⟨a1, a2⟩ := ha
  obtain ⟨b1, b2⟩ := hb
  have t : allTimes [a, b] = true := by
    simp only [allTimes, List.all_cons, List.all_nil, timeB, Bool.and_true, Bool.and_eq_true, decide_eq_true_iff]
    omega
  rw [sumR, if_pos t]
  rw [show total [a, b] = a + b by simp only [total]; omega, finR]
  by_cases h : a + b ≤ 3000000000000000
  · rw [if_pos h, if_pos (by omega)]
  · rw [if_neg h, if_neg (by omega)]
theorem two_cells (w : World) (t : TypeId) (a b : Int) : ∀ i, i < 2 → (w.alloc (.cells #[.int .i64 a, .int .i64 b] t)).cell? (Addr.add ⟨w.heap.size, 0, none⟩ i) = some (.int .i64 ([a, b].getD i 0)) := by
  intro i hi
  match i with
  | 0 => exact (Two.new w t (.int .i64 a) (.int .i64 b)).c0
  | 1 => exact (Two.new w t (.int .i64 a) (.int .i64 b)).c1
  | k + 2 => omega
theorem gshown_any (p s r a : Int) (hc : ClOk p s r) (ha : TimeOk a) (w : World) :
    Calls Try.prog 19 #[clV p s r, .int .i64 a] w (Gives (.tuple #[.int .i64 (showR p s r a).1, .int .i64 (showR p s r a).2]) w) := by
  obtain ⟨⟨x, e⟩, hR⟩ : ∃ q, showR p s r a = q := ⟨_, rfl⟩
  rw [hR]
  obtain ⟨⟨p1, p2⟩, ⟨s1, s2⟩, r1, r2⟩ := id hc
  obtain ⟨a1, a2⟩ := id ha
  unfold showR at hR
  rw [if_pos ⟨hc, ha⟩] at hR
  unfold clV
  by_cases h : a < p
  · rw [if_pos h] at hR
    injection hR with h1 h2
    subst h1 h2
    clear hc ha
    go_enter Try.func19, Try.ntmps19
    go_wp2_with fail
    go_ret2
    exact ⟨rfl, below_alloc _ _⟩
  · rw [if_neg h] at hR
    obtain ⟨n, hn⟩ : ∃ n, a - p = n := ⟨_, rfl⟩
    have n1 : 0 ≤ n := by omega
    have n2 : n ≤ 3000000000000000 := by omega
    rw [hn] at hR
    obtain ⟨q1, q2, q3⟩ := part_small n1 r1 r2
    have F := floor_any n (1000000000 + r) 1000000000
    rw [show floorR n (1000000000 + r) 1000000000 = finR (n + part n r) by
      rw [floorR, if_pos (by unfold rOK; omega), floor_part]] at F
    have e0 : s + n + part n r = s + (n + part n r) := by omega
    rw [e0] at hR
    obtain ⟨g, hg⟩ : ∃ g, n + part n r = g := ⟨_, rfl⟩
    rw [hg] at F q3 hR
    clear hg q1 q2 e0
    by_cases g1 : g ≤ 3000000000000000
    · rw [show finR g = (g, 0) by rw [finR, if_pos (by omega)]] at F
      have SUM := fun w : World => sum_row [s, g] ⟨w.heap.size, 0, none⟩ 2 2 rfl (by omega) (w.alloc (.cells #[.int .i64 s, .int .i64 g] 3)) (two_cells w _ s g)
      rw [sum_two s g ⟨s1, s2⟩ ⟨q3, g1⟩, hR] at SUM
      have F' := Lib.hid F
      have S' := Lib.hid SUM
      clear F SUM hR hc ha
      unfold pairV at F' S'
      go_enter Try.func19, Try.ntmps19
      go_wp2_with (first
        | (go_at_call 25; refine (F'.out _).mono ?_; rintro e w' ⟨rfl, bb⟩; clear F';
           have T := (Three.new w 44 (.int .i64 p) (.int .i64 s) (.int .i64 r)).below bb (by simp);
           have k0 := T.c0; have k1 := T.c1; have k2 := T.c2;
           have B := Lib.hid (below_more (below_alloc w (.cells #[.int .i64 p, .int .i64 s, .int .i64 r] 44)) bb); clear bb T)
        | (go_at_call 26; (with_reducible refine (S'.out _).mono ?_); rintro e w1 ⟨rfl, rfl⟩; clear S'))
      go_ret2
      exact ⟨rfl, below_more B.out (below_alloc _ _)⟩
    · rw [show finR g = (0, 3) by rw [finR, if_neg (by omega)]] at F
      rw [if_neg (by omega)] at hR
      injection hR with h1 h2
      subst h1 h2
      have F' := Lib.hid F
      clear F hc ha
      unfold pairV at F'
      go_enter Try.func19, Try.ntmps19
      go_wp2_with (first
        | (go_at_call 25; refine (F'.out _).mono ?_; rintro e w' ⟨rfl, bb⟩; clear F'))
      go_ret2
      exact ⟨rfl, below_more (below_alloc _ _) bb⟩
end Go.Proofs.Ytihfafmockaljaa
