/- Layer 9: a clock that is moved, with everything that it is asked. No program in it. -/
import Derived.Test.YtihfafmockaljaaRPart
namespace Go.Proofs.Ytihfafmockaljaa
open Go.RowKit Go
set_option linter.unusedVariables false
set_option linter.unusedSimpArgs false

theorem moved_show {p s r a b n : Int} (hb : TimeOk (p + b) ↔ TimeOk p) (hs : TimeOk (s + n) ↔ TimeOk s) (ha : TimeOk (a + b) ↔ TimeOk a) :
    showR (p + b) (s + n) r (a + b) = if ClOk p s r ∧ TimeOk a then (if a < p then (0, 30) else if s + (a - p) + part (a - p) r + n ≤ 3000000000000000 then (s + (a - p) + part (a - p) r + n, 0) else (0, 3)) else (0, 1) := by
  have e1 : (ClOk (p + b) (s + n) r ∧ TimeOk (a + b)) ↔ (ClOk p s r ∧ TimeOk a) := by unfold ClOk; rw [hb, hs, ha]
  unfold showR
  by_cases c : ClOk p s r ∧ TimeOk a
  · rw [if_pos (e1.2 c), if_pos c]
    by_cases d : a < p
    · rw [if_pos (by omega), if_pos d]
    · rw [if_neg (by omega), if_neg d, show a + b - (p + b) = a - p by omega]
      by_cases f : s + (a - p) + part (a - p) r + n ≤ 3000000000000000
      · rw [if_pos (by omega), if_pos f]; simp; omega
      · rw [if_neg (by omega), if_neg f]
  · rw [if_neg (fun x => c (e1.1 x)), if_neg c]

theorem moves_err {p s r a v m h b n : Int} (hp : ¬ Far p) (hs : ¬ Far s) (ha : ¬ Far a) (hv : ¬ Far v) (b1 : -2147483648 ≤ b) (b2 : b ≤ 2147483647) (n1 : -2147483648 ≤ n) (n2 : n ≤ 2147483647) :
    ∃ x y z e x' y' z' f, steerR p s r a v m h = (x, y, z, e) ∧ steerR (p + b) (s + n) r (a + b) (v + n) m h = (x', y', z', f) ∧
      ((e ≠ 0 ∨ f ≠ 0) → (e = f ∨ e = 3 ∨ f = 3)) ∧ (e = 0 → f = 0 → x' = a + b ∧ y' = y + n ∧ z' = z) := by
  unfold Far at hp hs ha hv
  have tp : TimeOk (p + b) ↔ TimeOk p := by unfold TimeOk; omega
  have ts : TimeOk (s + n) ↔ TimeOk s := by unfold TimeOk; omega
  have ta : TimeOk (a + b) ↔ TimeOk a := by unfold TimeOk; omega
  have tv : TimeOk (v + n) ↔ TimeOk v := by unfold TimeOk; omega
  have e1 : StOk (p + b) (s + n) r (a + b) (v + n) m h ↔ StOk p s r a v m h := by unfold StOk ClOk; rw [tp, ts, ta, tv]
  by_cases c : StOk p s r a v m h
  · have ok : ClOk p s r ∧ TimeOk a := ⟨c.1, c.2.1⟩
    have M := moved_show (r := r) tp ts ta
    rw [if_pos ok] at M
    by_cases d : a < p
    · refine ⟨0, 0, 0, 30, 0, 0, 0, 30, ?_, ?_, fun _ => .inl rfl, fun h => by omega⟩
      · unfold steerR showR; rw [if_pos c, if_pos ok, if_pos d]; simp
      · rw [if_pos d] at M; unfold steerR; rw [if_pos (e1.2 c), M]; simp
    · rw [if_neg d] at M
      have S : showR p s r a = if s + (a - p) + part (a - p) r ≤ 3000000000000000 then (s + (a - p) + part (a - p) r, 0) else (0, 3) := by
        unfold showR; rw [if_pos ok, if_neg d]
      generalize s + (a - p) + part (a - p) r = D at M S
      have A : ∃ x y z e, steerR p s r a v m h = (x, y, z, e) ∧ ((e = 3 ∧ x = 0) ∨ (e = 0 ∧ y = D ∧ z = speedR (v - D) m h)) := by
        unfold steerR
        rw [if_pos c, S]
        by_cases f : D ≤ 3000000000000000
        · rw [if_pos f]; exact ⟨_, _, _, _, if_pos rfl, .inr ⟨rfl, rfl, rfl⟩⟩
        · rw [if_neg f]; exact ⟨_, _, _, _, if_neg (by decide), .inl ⟨rfl, rfl⟩⟩
      have B : ∃ x y z e, steerR (p + b) (s + n) r (a + b) (v + n) m h = (x, y, z, e) ∧ ((e = 3 ∧ x = 0) ∨ (e = 0 ∧ x = a + b ∧ y = D + n ∧ z = speedR (v - D) m h)) := by
        unfold steerR
        rw [if_pos (e1.2 c), M]
        by_cases f : D + n ≤ 3000000000000000
        · rw [if_pos f]; exact ⟨_, _, _, _, if_pos rfl, .inr ⟨rfl, rfl, rfl, by dsimp only; rw [show v + n - (D + n) = v - D by omega]⟩⟩
        · rw [if_neg f]; exact ⟨_, _, _, _, if_neg (by decide), .inl ⟨rfl, rfl⟩⟩
      obtain ⟨x, y, z, e, ha, hA⟩ := A
      obtain ⟨x', y', z', f, hb, hB⟩ := B
      refine ⟨x, y, z, e, x', y', z', f, ha, hb, fun _ => ?_, fun h1 h2 => ?_⟩
      · omega
      · rcases hA with hA | ⟨_, h3, h4⟩
        · omega
        · rcases hB with hB | ⟨_, h5, h6, h7⟩
          · omega
          · exact ⟨h5, by omega, by rw [h7, h4]⟩
  · refine ⟨0, 0, 0, 1, 0, 0, 0, 1, ?_, ?_, fun _ => .inl rfl, fun h => by omega⟩
    · unfold steerR; rw [if_neg c]
    · unfold steerR; rw [if_neg (fun x => c (e1.1 x))]

theorem left_is {p s r a v m h x y z : Int} (k : steerR p s r a v m h = (x, y, z, 0)) (h1 : a + h ≤ 3000000000000000) (h2 : v + h ≤ 3000000000000000) (h3 : 11 * h + 10 * y ≤ 30000000000000000) :
    leftR p s r a v m h = (v - y - part h z, 0) := by
  obtain ⟨c, rfl, _, _, hc, _⟩ := steer_ok k
  have hh := c.2.2.2.2.2
  have hc2 := hc
  obtain ⟨⟨_, _⟩, ⟨_, _⟩, _, _⟩ := hc2
  have ps := part_small (n := h) (r := z) (by omega) (by omega) (by omega)
  have e := show_is (a := x + h) hc ⟨by omega, h1⟩ (by omega) (by rw [show x + h - x = h by omega]; omega)
  rw [show x + h - x = h by omega] at e
  unfold leftR
  rw [k]
  dsimp only
  rw [if_pos rfl, if_pos ⟨h1, h2⟩, e, if_pos rfl]
  simp
  omega
theorem moves_left {p s r a v m h b n x y z : Int} (hy : ¬ Far y) (ha : ¬ Far a) (hv : ¬ Far v) (b1 : -2147483648 ≤ b) (b2 : b ≤ 2147483647) (n1 : -2147483648 ≤ n) (n2 : n ≤ 2147483647)
    (k : steerR p s r a v m h = (x, y, z, 0)) (k' : steerR (p + b) (s + n) r (a + b) (v + n) m h = (a + b, y + n, z, 0)) :
    ∃ l, leftR p s r a v m h = (l, 0) ∧ leftR (p + b) (s + n) r (a + b) (v + n) m h = (l, 0) := by
  obtain ⟨c, _⟩ := steer_ok k
  obtain ⟨_, _, _, _, _, c1, c2⟩ := c
  unfold Far at hy ha hv
  refine ⟨_, left_is k (by omega) (by omega) (by omega), ?_⟩
  rw [left_is k' (by omega) (by omega) (by omega)]
  simp
  omega
end Go.Proofs.Ytihfafmockaljaa
