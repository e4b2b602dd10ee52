/- Layer 9: what package slew's functions are to return, as plain functions and as one bundle: the laws are walked over it. -/
import Derived.Test.YtihfafmockaljaaBase
import Derived.Test.YtihfafmockaljaaSMath
namespace Go.Proofs.Ytihfafmockaljaa
open Go.RowKit Go
set_option linter.unusedVariables false
set_option linter.unusedSimpArgs false

def TimeOk (n : Int) : Prop := 0 ≤ n ∧ n ≤ 3000000000000000
def ClOk (p s r : Int) : Prop := TimeOk p ∧ TimeOk s ∧ -100000000 ≤ r ∧ r ≤ 100000000
def StOk (p s r a v m h : Int) : Prop := ClOk p s r ∧ TimeOk a ∧ TimeOk v ∧ 0 ≤ m ∧ m ≤ 100000000 ∧ 1 ≤ h ∧ h ≤ 1000000000000
instance (n : Int) : Decidable (TimeOk n) := by unfold TimeOk; infer_instance
instance (p s r : Int) : Decidable (ClOk p s r) := by unfold ClOk; infer_instance
instance (p s r a v m h : Int) : Decidable (StOk p s r a v m h) := by unfold StOk; infer_instance

def clV (p s r : Int) : Value := .agg #[.int .i64 p, .int .i64 s, .int .i64 r]

def startR (a s : Int) : Int × Int × Int × Int := if TimeOk a ∧ TimeOk s then (a, s, 0, 0) else (0, 0, 0, 1)
def showR (p s r a : Int) : Int × Int :=
  if ClOk p s r ∧ TimeOk a then
    (if a < p then (0, 30) else if s + (a - p) + part (a - p) r ≤ 3000000000000000 then (s + (a - p) + part (a - p) r, 0) else (0, 3))
  else (0, 1)
def steerR (p s r a v m h : Int) : Int × Int × Int × Int :=
  if StOk p s r a v m h then
    (if (showR p s r a).2 = 0 then (a, (showR p s r a).1, speedR (v - (showR p s r a).1) m h, 0) else (0, 0, 0, (showR p s r a).2))
  else (0, 0, 0, 1)
def leftR (p s r a v m h : Int) : Int × Int :=
  if (steerR p s r a v m h).2.2.2 = 0 then
    (if a + h ≤ 3000000000000000 ∧ v + h ≤ 3000000000000000 then
      (if (showR a (steerR p s r a v m h).2.1 (steerR p s r a v m h).2.2.1 (a + h)).2 = 0 then (v + h - (showR a (steerR p s r a v m h).2.1 (steerR p s r a v m h).2.2.1 (a + h)).1, 0)
       else (0, (showR a (steerR p s r a v m h).2.1 (steerR p s r a v m h).2.2.1 (a + h)).2))
     else (0, 3))
  else (0, (steerR p s r a v m h).2.2.2)

structure Slw : Prop where
  start : ∀ a s : Int, I64 a → I64 s → ∀ w, Calls Try.prog 16 #[.int .i64 a, .int .i64 s] w (Gives (.tuple #[clV (startR a s).1 (startR a s).2.1 (startR a s).2.2.1, .int .i64 (startR a s).2.2.2]) w)
  shows : ∀ p s r a : Int, I64 p → I64 s → I64 r → I64 a → ∀ w, Calls Try.prog 10 #[clV p s r, .int .i64 a] w (Gives (.tuple #[.int .i64 (showR p s r a).1, .int .i64 (showR p s r a).2]) w)
  steer : ∀ p s r a v m h : Int, I64 p → I64 s → I64 r → I64 a → I64 v → I64 m → I64 h → ∀ w, Calls Try.prog 12 #[clV p s r, .int .i64 a, .int .i64 v, .int .i64 m, .int .i64 h] w
    (Gives (.tuple #[clV (steerR p s r a v m h).1 (steerR p s r a v m h).2.1 (steerR p s r a v m h).2.2.1, .int .i64 (steerR p s r a v m h).2.2.2]) w)
  left : ∀ p s r a v m h : Int, I64 p → I64 s → I64 r → I64 a → I64 v → I64 m → I64 h → ∀ w, Calls Try.prog 13 #[clV p s r, .int .i64 a, .int .i64 v, .int .i64 m, .int .i64 h] w
    (Gives (.tuple #[.int .i64 (leftR p s r a v m h).1, .int .i64 (leftR p s r a v m h).2]) w)

/-! ### Facts -/

theorem show_ok {p s r a x : Int} (h : showR p s r a = (x, 0)) : ClOk p s r ∧ TimeOk a ∧ p ≤ a ∧ x = s + (a - p) + part (a - p) r ∧ TimeOk x ∧ s ≤ x := by
  unfold showR at h
  split at h
  · rename_i c
    split at h
    · simp at h
    · rename_i d
      split at h
      · rename_i e
        injection h with h1 h2
        obtain ⟨⟨⟨c1, c2⟩, ⟨c3, c4⟩, c5, c6⟩, c7, c8⟩ := c
        have k := part_small (n := a - p) (by omega) c5 c6
        exact ⟨⟨⟨c1, c2⟩, ⟨c3, c4⟩, c5, c6⟩, ⟨c7, c8⟩, by omega, h1.symm, ⟨by omega, by omega⟩, by omega⟩
      · simp at h
  · simp at h
theorem show_is {p s r a : Int} (hc : ClOk p s r) (ha : TimeOk a) (h1 : p ≤ a) (h2 : s + (a - p) + part (a - p) r ≤ 3000000000000000) : showR p s r a = (s + (a - p) + part (a - p) r, 0) := by
  unfold showR
  rw [if_pos ⟨hc, ha⟩, if_neg (by omega), if_pos h2]
/-- At its own reading. -/
theorem show_now {p s r : Int} (hc : ClOk p s r) : showR p s r p = (s, 0) := by
  have := show_is hc hc.1 (Int.le_refl p) (by rw [Int.sub_self, part_zero]; have := hc.2.1.2; omega)
  rw [Int.sub_self, part_zero] at this
  simpa using this
theorem steer_ok {p s r a v m h x y z : Int} (k : steerR p s r a v m h = (x, y, z, 0)) : StOk p s r a v m h ∧ x = a ∧ showR p s r a = (y, 0) ∧ z = speedR (v - y) m h ∧ ClOk a y z ∧ -m ≤ z ∧ z ≤ m := by
  unfold steerR at k
  split at k
  · rename_i c
    split at k
    · rename_i e
      obtain ⟨u, d⟩ : ∃ u, showR p s r a = (u, 0) := ⟨(showR p s r a).1, by rw [← e]⟩
      rw [d] at k
      simp only [Prod.mk.injEq] at k
      obtain ⟨k1, rfl, k3, _⟩ := k
      obtain ⟨s1, s2, s3, s4, s5, s6⟩ := show_ok d
      have sp := speed_in (d := v - u) (lim := m) (h := h) c.2.2.2.1 (by have := c.2.2.2.2.2.1; omega)
      have m2 := c.2.2.2.2.1
      exact ⟨c, k1.symm, d, k3.symm, ⟨s2, s5, by omega, by omega⟩, by omega, by omega⟩
    · rename_i e
      simp only [Prod.mk.injEq] at k
      exact absurd k.2.2.2 e
  · simp at k
theorem steer_no {p s r a v m h x y z e : Int} (k : steerR p s r a v m h = (x, y, z, e)) (he : e ≠ 0) : x = 0 ∧ y = 0 ∧ z = 0 := by
  unfold steerR at k
  split at k
  · split at k <;> simp only [Prod.mk.injEq] at k <;> omega
  · simp only [Prod.mk.injEq] at k; omega
/-- Left is what is left. -/
theorem left_ok {p s r a v m h y : Int} (k : leftR p s r a v m h = (y, 0)) : ∃ u z, steerR p s r a v m h = (a, u, z, 0) ∧ y = v - u - part h z ∧ a + h ≤ 3000000000000000 ∧ v + h ≤ 3000000000000000 := by
  unfold leftR at k
  obtain ⟨⟨x, u, z, e⟩, hs⟩ : ∃ q, steerR p s r a v m h = q := ⟨_, rfl⟩
  rw [hs] at k
  dsimp only at k
  by_cases e0 : e = 0
  · subst e0
    rw [if_pos rfl] at k
    obtain ⟨c, rfl, _, _, hc, _⟩ := steer_ok hs
    split at k
    · rename_i q
      split at k
      · rename_i f
        obtain ⟨g, d⟩ : ∃ g, showR x u z (x + h) = (g, 0) := ⟨(showR x u z (x + h)).1, by rw [← f]⟩
        rw [d] at k
        obtain ⟨_, _, _, s4, _⟩ := show_ok d
        rw [show x + h - x = h by omega] at s4
        injection k with k1
        exact ⟨u, z, hs, by omega, q.1, q.2⟩
      · rename_i f
        injection k with _ k2
        exact absurd k2 f
    · simp at k
  · rw [if_neg e0] at k
    injection k with _ k2
    exact absurd k2 e0
theorem i64_time {n : Int} (h : TimeOk n) : I64 n := ⟨by have := h.1; omega, by have := h.2; omega⟩
theorem showR_i64 {p s r a x e : Int} (k : showR p s r a = (x, e)) : I64 x ∧ (e = 0 ∨ e = 1 ∨ e = 3 ∨ e = 30) := by
  unfold showR at k
  split at k
  · rename_i c
    split at k
    · injection k with k1 k2; exact ⟨⟨by omega, by omega⟩, by omega⟩
    · split at k
      · rename_i d1 d2
        injection k with k1 k2
        obtain ⟨⟨⟨c1, c2⟩, ⟨c3, c4⟩, c5, c6⟩, c7, c8⟩ := c
        have k := part_small (n := a - p) (by omega) c5 c6
        exact ⟨⟨by omega, by omega⟩, by omega⟩
      · injection k with k1 k2; exact ⟨⟨by omega, by omega⟩, by omega⟩
  · injection k with k1 k2; exact ⟨⟨by omega, by omega⟩, by omega⟩
end Go.Proofs.Ytihfafmockaljaa
