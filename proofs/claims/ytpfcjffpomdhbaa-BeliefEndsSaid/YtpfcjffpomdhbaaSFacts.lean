/- Layer 1: plain facts on the three roundings and on sums. -/
import Derived.Test.YtpfcjffpomdhbaaApi
namespace Go.Proofs.Ytpfcjffpomdhbaa
open Go.RowKit Go
set_option linter.unusedVariables false

theorem finR_spec (x v e : Int) (h : finR x = (v, e)) : (e = 0 ∧ v = x ∧ -3000000000000000 ≤ x ∧ x ≤ 3000000000000000) ∨ (e = 3 ∧ v = 0 ∧ (x < -3000000000000000 ∨ 3000000000000000 < x)) := by
  unfold finR at h
  split at h <;> (injection h with h1 h2; subst h1 h2)
  · exact .inl ⟨rfl, rfl, by omega, by omega⟩
  · exact .inr ⟨rfl, rfl, by omega⟩

theorem floor_spec (a n d v e : Int) (h : floorR a n d = (v, e)) : (e = 0 ∧ rOK a n d ∧ v = a * n / d ∧ -3000000000000000 ≤ v ∧ v ≤ 3000000000000000) ∨ (e ≠ 0 ∧ v = 0) := by
  unfold floorR at h
  split at h
  · rename_i hok
    rcases finR_spec _ _ _ h with ⟨rfl, rfl, h1, h2⟩ | ⟨rfl, rfl, _⟩
    · exact .inl ⟨rfl, hok, rfl, h1, h2⟩
    · exact .inr ⟨by decide, rfl⟩
  · injection h with h1 h2; subst h1 h2
    exact .inr ⟨by decide, rfl⟩

theorem ceil_spec (a n d v e : Int) (h : ceilR' a n d = (v, e)) : (e = 0 ∧ rOK a n d ∧ v = ceilR (a * n / d) (a * n % d) ∧ -3000000000000000 ≤ v ∧ v ≤ 3000000000000000) ∨ (e ≠ 0 ∧ v = 0) := by
  unfold ceilR' at h
  split at h
  · rename_i hok
    rcases finR_spec _ _ _ h with ⟨rfl, rfl, h1, h2⟩ | ⟨rfl, rfl, _⟩
    · exact .inl ⟨rfl, hok, rfl, h1, h2⟩
    · exact .inr ⟨by decide, rfl⟩
  · injection h with h1 h2; subst h1 h2
    exact .inr ⟨by decide, rfl⟩

theorem near_spec (a n d v e : Int) (h : nearR' a n d = (v, e)) : (e = 0 ∧ rOK a n d ∧ v = nearR a d (a * n / d) (a * n % d) ∧ -3000000000000000 ≤ v ∧ v ≤ 3000000000000000) ∨ (e ≠ 0 ∧ v = 0) := by
  unfold nearR' at h
  split at h
  · rename_i hok
    rcases finR_spec _ _ _ h with ⟨rfl, rfl, h1, h2⟩ | ⟨rfl, rfl, _⟩
    · exact .inl ⟨rfl, hok, rfl, h1, h2⟩
    · exact .inr ⟨by decide, rfl⟩
  · injection h with h1 h2; subst h1 h2
    exact .inr ⟨by decide, rfl⟩

/-! ### Order -/

theorem parts_mono (P Q d : Int) (hd : 1 ≤ d) (h : P ≤ Q) : P / d ≤ Q / d ∧ (P / d = Q / d → P % d ≤ Q % d) := by
  refine ⟨Int.ediv_le_ediv (by omega) h, fun e => ?_⟩
  have e1 := Int.mul_ediv_add_emod P d
  have e2 := Int.mul_ediv_add_emod Q d
  rw [e] at e1
  omega

theorem floor_mono (a b n d x e y f : Int) (h : a ≤ b) (hx : floorR a n d = (x, e)) (hy : floorR b n d = (y, f)) : e ≠ 0 ∨ f ≠ 0 ∨ x ≤ y := by
  rcases floor_spec _ _ _ _ _ hx with ⟨rfl, ⟨_, _, k3, _, k5, _⟩, rfl, _⟩ | ⟨h1, _⟩
  · rcases floor_spec _ _ _ _ _ hy with ⟨rfl, _, rfl, _⟩ | ⟨h1, _⟩
    · exact .inr (.inr (parts_mono _ _ d k5 (Int.mul_le_mul_of_nonneg_right h k3)).1)
    · exact .inr (.inl h1)
  · exact .inl h1

theorem ceil_mono (a b n d x e y f : Int) (h : a ≤ b) (hx : ceilR' a n d = (x, e)) (hy : ceilR' b n d = (y, f)) : e ≠ 0 ∨ f ≠ 0 ∨ x ≤ y := by
  rcases ceil_spec _ _ _ _ _ hx with ⟨rfl, ⟨_, _, k3, _, k5, _⟩, rfl, _⟩ | ⟨h1, _⟩
  · rcases ceil_spec _ _ _ _ _ hy with ⟨rfl, _, rfl, _⟩ | ⟨h1, _⟩
    · obtain ⟨m1, m2⟩ := parts_mono _ _ d k5 (Int.mul_le_mul_of_nonneg_right h k3)
      have r1 := rem_bounds b n d k5
      right; right
      unfold ceilR
      split <;> split <;> omega
    · exact .inr (.inl h1)
  · exact .inl h1

theorem near_mono (a b n d x e y f : Int) (h : a ≤ b) (hx : nearR' a n d = (x, e)) (hy : nearR' b n d = (y, f)) : e ≠ 0 ∨ f ≠ 0 ∨ x ≤ y := by
  rcases near_spec _ _ _ _ _ hx with ⟨rfl, ⟨_, _, k3, _, k5, _⟩, rfl, _⟩ | ⟨h1, _⟩
  · rcases near_spec _ _ _ _ _ hy with ⟨rfl, _, rfl, _⟩ | ⟨h1, _⟩
    · obtain ⟨m1, m2⟩ := parts_mono _ _ d k5 (Int.mul_le_mul_of_nonneg_right h k3)
      have r1 := rem_bounds b n d k5
      right; right
      unfold nearR
      split <;> split <;> omega
    · exact .inr (.inl h1)
  · exact .inl h1

theorem floor_near (a n d x e y f : Int) (hx : floorR a n d = (x, e)) (hy : nearR' a n d = (y, f)) : e ≠ 0 ∨ f ≠ 0 ∨ x ≤ y := by
  rcases floor_spec _ _ _ _ _ hx with ⟨rfl, ⟨_, _, k3, _, k5, _⟩, rfl, _⟩ | ⟨h1, _⟩
  · rcases near_spec _ _ _ _ _ hy with ⟨rfl, _, rfl, _⟩ | ⟨h1, _⟩
    · right; right; unfold nearR; split <;> omega
    · exact .inr (.inl h1)
  · exact .inl h1

theorem near_ceil (a n d x e y f : Int) (hx : nearR' a n d = (x, e)) (hy : ceilR' a n d = (y, f)) : e ≠ 0 ∨ f ≠ 0 ∨ x ≤ y := by
  rcases near_spec _ _ _ _ _ hx with ⟨rfl, ⟨_, _, k3, _, k5, _⟩, rfl, _⟩ | ⟨h1, _⟩
  · rcases ceil_spec _ _ _ _ _ hy with ⟨rfl, _, rfl, _⟩ | ⟨h1, _⟩
    · right; right; unfold nearR ceilR; split <;> split <;> omega
    · exact .inr (.inl h1)
  · exact .inl h1

/-! ### Signs -/

theorem neg_parts (P d : Int) (hd : 1 ≤ d) : (-P) / d = (if P % d = 0 then -(P / d) else -(P / d) - 1) ∧ (-P) % d = (if P % d = 0 then 0 else d - P % d) := by
  have e := Int.mul_ediv_add_emod P d
  have r1 := Int.emod_nonneg P (show d ≠ 0 by omega)
  have r2 := Int.emod_lt_of_pos P (show 0 < d by omega)
  generalize P / d = q at *
  generalize P % d = r at *
  by_cases h : r = 0
  · rw [if_pos h, if_pos h]
    refine (Int.ediv_emod_unique (by omega)).2 ⟨?_, by omega, by omega⟩
    rw [Int.mul_neg]; omega
  · rw [if_neg h, if_neg h]
    refine (Int.ediv_emod_unique (by omega)).2 ⟨?_, by omega, by omega⟩
    rw [Int.mul_sub, Int.mul_neg]; omega

theorem finR_neg (x : Int) : finR (-x) = (-(finR x).1, (finR x).2) := by
  unfold finR
  by_cases h : -3000000000000000 ≤ x ∧ x ≤ 3000000000000000
  · rw [if_pos h, if_pos (by omega)]
  · rw [if_neg h, if_neg (by omega)]; rfl

theorem rOK_neg (a n d : Int) : rOK (-a) n d ↔ rOK a n d := by unfold rOK; omega

theorem ceil_neg (a n d x e : Int) (h : floorR a n d = (x, e)) : ceilR' (-a) n d = (-x, e) := by
  unfold floorR at h
  unfold ceilR'
  by_cases hok : rOK a n d
  · rw [if_pos hok] at h
    rw [if_pos ((rOK_neg a n d).2 hok)]
    have e1 : ceilR (-a * n / d) (-a * n % d) = -(a * n / d) := by
      obtain ⟨k1, k2⟩ := neg_parts (a * n) d hok.2.2.2.2.1
      obtain ⟨r1, r2⟩ := rem_bounds a n d hok.2.2.2.2.1
      rw [Int.neg_mul, k1, k2]; unfold ceilR
      split <;> split <;> omega
    rw [e1, finR_neg, h]
  · rw [if_neg hok] at h
    rw [if_neg (fun k => hok ((rOK_neg a n d).1 k))]
    injection h with h1 h2; subst h1 h2; rfl

theorem floor_neg (a n d x e : Int) (h : ceilR' a n d = (x, e)) : floorR (-a) n d = (-x, e) := by
  cases hf : floorR (-a) n d with
  | mk y f =>
    have := ceil_neg (-a) n d y f hf
    rw [Int.neg_neg, h] at this
    injection this with h1 h2; subst h1 h2
    rw [Int.neg_neg]

theorem near_neg (a n d x e : Int) (h : nearR' a n d = (x, e)) : nearR' (-a) n d = (-x, e) := by
  unfold nearR' at h ⊢
  by_cases hok : rOK a n d
  · rw [if_pos hok] at h
    rw [if_pos ((rOK_neg a n d).2 hok)]
    have e1 : nearR (-a) d (-a * n / d) (-a * n % d) = -(nearR a d (a * n / d) (a * n % d)) := by
      obtain ⟨k1, k2⟩ := neg_parts (a * n) d hok.2.2.2.2.1
      obtain ⟨r1, r2⟩ := rem_bounds a n d hok.2.2.2.2.1
      have z : a = 0 → a * n % d = 0 := by rintro rfl; simp
      rw [Int.neg_mul, k1, k2]; unfold nearR
      by_cases hz : a * n % d = 0
      · rw [if_pos hz, if_pos hz, if_neg (by omega), if_neg (by omega)]
      · rw [if_neg hz, if_neg hz]; split <;> split <;> omega
    rw [e1, finR_neg, h]
  · rw [if_neg hok] at h
    rw [if_neg (fun k => hok ((rOK_neg a n d).1 k))]
    injection h with h1 h2; subst h1 h2; rfl

/-! ### Back -/

theorem back_floor (a n d x z g : Int) (h1 : 1 ≤ n) (hx : floorR a n d = (x, 0)) (hz : floorR x d n = (z, g)) : g ≠ 0 ∨ z ≤ a := by
  rcases floor_spec _ _ _ _ _ hx with ⟨_, ⟨_, _, k3, _, k5, _⟩, rfl, _⟩ | ⟨h, _⟩
  · rcases floor_spec _ _ _ _ _ hz with ⟨rfl, _, rfl, _⟩ | ⟨h, _⟩
    · right
      have := Int.ediv_mul_le (a * n) (show d ≠ 0 by omega)
      have := Int.ediv_le_ediv (show 0 < n by omega) this
      rw [Int.mul_ediv_cancel _ (show n ≠ 0 by omega)] at this
      exact this
    · exact .inl h
  · exact absurd rfl h

theorem back_step (a n d x z g : Int) (h1 : 1 ≤ n) (hx : floorR a n d = (x, 0)) (hz : ceilR' (x + 1) d n = (z, g)) : g ≠ 0 ∨ a < z := by
  rcases floor_spec _ _ _ _ _ hx with ⟨_, ⟨_, _, k3, _, k5, _⟩, rfl, _⟩ | ⟨h, _⟩
  · rcases ceil_spec _ _ _ _ _ hz with ⟨rfl, _, rfl, _⟩ | ⟨h, _⟩
    · right
      have e1 := Int.lt_ediv_add_one_mul_self (a * n) (show 0 < d by omega)
      generalize (a * n / d + 1) * d = Q at *
      have e2 := Int.mul_ediv_add_emod Q n
      have e3 := Int.ediv_le_ediv (show 0 < n by omega) (Int.le_of_lt e1)
      rw [Int.mul_ediv_cancel _ (show n ≠ 0 by omega)] at e3
      unfold ceilR
      split
      · omega
      · have : Q % n = 0 := by have := Int.emod_nonneg Q (show n ≠ 0 by omega); omega
        rcases Int.lt_or_eq_of_le e3 with h | h
        · exact h
        · exfalso; rw [← h, this, Int.mul_comm] at e2; omega
    · exact .inl h
  · exact absurd rfl h

theorem back_ceil (a n d y z g : Int) (h1 : 1 ≤ n) (hy : ceilR' a n d = (y, 0)) (hz : ceilR' y d n = (z, g)) : g ≠ 0 ∨ a ≤ z := by
  rcases ceil_spec _ _ _ _ _ hy with ⟨_, ⟨_, _, k3, _, k5, _⟩, hv, _⟩ | ⟨h, _⟩
  · rcases ceil_spec _ _ _ _ _ hz with ⟨rfl, _, rfl, _⟩ | ⟨h, _⟩
    · right
      have e1 := Int.mul_ediv_add_emod (a * n) d
      have r2 := rem_bounds a n d k5
      have e2 : a * n ≤ y * d := by
        rw [hv]; unfold ceilR; split
        · rw [Int.add_mul, Int.mul_comm (a * n / d)]; omega
        · rw [Int.mul_comm (a * n / d)]; omega
      have e3 := Int.ediv_le_ediv (show 0 < n by omega) e2
      rw [Int.mul_ediv_cancel _ (show n ≠ 0 by omega)] at e3
      unfold ceilR
      split <;> omega
    · exact .inl h
  · exact absurd rfl h

/-! ### Units -/

theorem exact_all (P v n d : Int) (hok : rOK P n d) (h : P * n = v * d) (hv1 : -3000000000000000 ≤ v) (hv2 : v ≤ 3000000000000000) : floorR P n d = (v, 0) ∧ ceilR' P n d = (v, 0) ∧ nearR' P n d = (v, 0) := by
  have hd : d ≠ 0 := by have := hok.2.2.2.2.1; omega
  have hd1 := hok.2.2.2.2.1
  have f : finR v = (v, 0) := by unfold finR; rw [if_pos ⟨hv1, hv2⟩]
  refine ⟨?_, ?_, ?_⟩
  · rw [floorR, if_pos hok, h, Int.mul_ediv_cancel _ hd, f]
  · rw [ceilR', if_pos hok, h, Int.mul_ediv_cancel _ hd, Int.mul_emod_left, ceilR, if_neg (by omega), f]
  · rw [nearR', if_pos hok, h, Int.mul_ediv_cancel _ hd, Int.mul_emod_left, nearR, if_neg (by omega), f]

/-! ### Sums -/

theorem sum_turn (a b c : Int) : sumR [c, a, b] = sumR [a, b, c] ∧ sumR [b, a, c] = sumR [a, b, c] := by
  refine ⟨?_, ?_⟩ <;> unfold sumR
  · have e1 : allTimes [c, a, b] = allTimes [a, b, c] := by
      simp only [allTimes, List.all_cons, List.all_nil, Bool.and_true]
      cases timeB a <;> cases timeB b <;> cases timeB c <;> rfl
    have e2 : total [c, a, b] = total [a, b, c] := by simp only [total]; omega
    rw [e1, e2]
  · have e1 : allTimes [b, a, c] = allTimes [a, b, c] := by
      simp only [allTimes, List.all_cons, List.all_nil, Bool.and_true]
      cases timeB a <;> cases timeB b <;> cases timeB c <;> rfl
    have e2 : total [b, a, c] = total [a, b, c] := by simp only [total]; omega
    rw [e1, e2]

theorem sum_two_ok (a b s : Int) (h : sumR [a, b] = (s, 0)) : s = a + b := by
  unfold sumR at h
  split at h
  · rcases finR_spec _ _ _ h with ⟨_, rfl, _⟩ | ⟨h, _⟩
    · simp only [total]; omega
    · exact absurd h (by decide)
  · injection h with _ h2; exact absurd h2 (by decide)

theorem floor_add (a b n d p q r : Int) (hp : floorR a n d = (p, 0)) (hq : floorR b n d = (q, 0)) (hr : floorR (a + b) n d = (r, 0)) : p + q ≤ r ∧ r ≤ p + q + 1 := by
  rcases floor_spec _ _ _ _ _ hp with ⟨_, ⟨_, _, k3, _, k5, _⟩, rfl, _⟩ | ⟨h, _⟩
  · rcases floor_spec _ _ _ _ _ hq with ⟨_, _, rfl, _⟩ | ⟨h, _⟩
    · rcases floor_spec _ _ _ _ _ hr with ⟨_, _, rfl, _⟩ | ⟨h, _⟩
      · have e1 := Int.mul_ediv_add_emod (a * n) d
        have e2 := Int.mul_ediv_add_emod (b * n) d
        have e3 := Int.mul_ediv_add_emod ((a + b) * n) d
        have r1 := rem_bounds a n d k5
        have r2 := rem_bounds b n d k5
        have r3 := rem_bounds (a + b) n d k5
        rw [Int.add_mul] at e3 r3 ⊢
        generalize (a * n + b * n) / d = r at *
        generalize (a * n + b * n) % d = u at *
        generalize a * n / d = p at *
        generalize b * n / d = q at *
        have e4 : d * r = d * p + d * q + (a * n % d + b * n % d - u) := by omega
        rw [← Int.mul_add] at e4
        have e5 : d * (r - (p + q)) = a * n % d + b * n % d - u := by rw [Int.mul_sub]; omega
        have l1 : 0 < r - (p + q) + 1 := by
          apply Int.pos_of_mul_pos_right (a := d) _ (by omega)
          rw [Int.mul_add]; omega
        have l2 : 0 < 2 - (r - (p + q)) := by
          apply Int.pos_of_mul_pos_right (a := d) _ (by omega)
          rw [Int.mul_sub]; omega
        omega
      · exact absurd rfl h
    · exact absurd rfl h
  · exact absurd rfl h
end Go.Proofs.Ytpfcjffpomdhbaa
