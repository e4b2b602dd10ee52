/- Layer 2: the mathematics of the reference's Cover. -/
import Derived.Test.YtpooifjieoijjaaRAfter
import Derived.Test.YtpooifjieoijjaaMath
namespace Go.Proofs.Ytpooifjieoijjaa
open Go.RowKit Go
set_option linter.unusedVariables false

/-- What xs covers up to the time X is what it should be. -/
structure Upto (zs : List (Int × Int)) (N X : Int) (xs : List (Int × Int)) : Prop where
  val : ∀ i ∈ xs, validB i = true
  apart : xs.Pairwise (fun a b => a.2 + 1 < b.1)
  ends : ∀ i ∈ xs, i.2 < X
  upto : ∀ z, z < X → (inL xs z = true ↔ N ≤ (depthN zs z : Int))

theorem inL_snoc (xs : List (Int × Int)) (l : Int × Int) (z : Int) : inL (xs ++ [l]) z = (inL xs z || inB l z) := by simp [inL]
theorem inL_above {xs : List (Int × Int)} {z : Int} (h : ∀ i ∈ xs, i.2 < z) : inL xs z = false := by
  rw [Bool.eq_false_iff]
  intro hz
  obtain ⟨i, hi, h1, h2⟩ := inL_iff.1 hz
  have := h i hi
  omega
theorem depth_out {zs : List (Int × Int)} (hv : ∀ i ∈ zs, validB i = true) {z : Int} (h : z < 0 ∨ 3000000000000000 < z) : depthN zs z = 0 := by
  rw [depthN, List.countP_eq_zero]
  intro i hi
  obtain ⟨v1, v2, v3⟩ := validB_yes (hv i hi)
  simp [inB]; omega

theorem Upto.start {zs : List (Int × Int)} {N : Int} (hv : ∀ i ∈ zs, validB i = true) (hN : 1 ≤ N) : Upto zs N 0 [] :=
  ⟨by simp, by simp, by simp, fun z hz => by rw [depth_out hv (.inl hz)]; simp [inL]; omega⟩

section
variable {zs xs : List (Int × Int)} {N X n : Int}
theorem Upto.skip (h : Upto zs N X xs) (hn : X < n) (hd : ∀ y, X ≤ y → y < n → depthN zs y = depthN zs X) (hN : ¬ N ≤ (depthN zs X : Int)) : Upto zs N n xs :=
  ⟨h.val, h.apart, fun i hi => by have := h.ends i hi; omega, fun z hz => by
    by_cases hzX : z < X
    · exact h.upto z hzX
    · rw [hd z (by omega) hz, inL_above (fun i hi => by have := h.ends i hi; omega)]
      simp [hN]⟩

theorem Upto.more (h : Upto zs N X xs) (hn : X < n) (x1 : 0 ≤ X) (n2 : n ≤ 3000000000000001) (hd : ∀ y, X ≤ y → y < n → depthN zs y = depthN zs X) (hN : N ≤ (depthN zs X : Int)) (hl : xs = [] ∨ ∃ ys l, xs = ys ++ [l] ∧ l.2 ≠ X - 1) : Upto zs N n (xs ++ [(X, n - 1)]) := by
  have hlt : ∀ i ∈ xs, i.2 + 1 < X := by
    rcases hl with rfl | ⟨ys, l, rfl, hl⟩
    · simp
    · intro i hi
      have hl2 := h.ends l (by simp)
      rcases List.mem_append.1 hi with hi | hi
      · have h1 := (List.pairwise_append.1 h.apart).2.2 i hi l (by simp)
        have h2 := (validB_yes (h.val l (by simp))).2.1
        omega
      · rw [List.mem_singleton] at hi
        subst hi
        omega
  refine ⟨fun i hi => ?_, List.pairwise_append.2 ⟨h.apart, by simp, fun a ha b hb => ?_⟩, fun i hi => ?_, fun z hz => ?_⟩
  · rcases List.mem_append.1 hi with hi | hi
    · exact h.val i hi
    · rw [List.mem_singleton] at hi
      subst hi
      simp [validB]; omega
  · rw [List.mem_singleton] at hb
    subst hb
    exact hlt a ha
  · rcases List.mem_append.1 hi with hi | hi
    · have := h.ends i hi; omega
    · rw [List.mem_singleton] at hi
      subst hi
      simp only; omega
  · rw [inL_snoc]
    by_cases hzX : z < X
    · rw [← h.upto z hzX, show inB (X, n - 1) z = false by simp [inB]; omega, Bool.or_false]
    · rw [hd z (by omega) hz, show inB (X, n - 1) z = true by simp [inB]; omega, Bool.or_true]
      simp [hN]

theorem Upto.extend {ys : List (Int × Int)} {lo : Int} (h : Upto zs N X (ys ++ [(lo, X - 1)])) (hn : X < n) (n2 : n ≤ 3000000000000001) (hd : ∀ y, X ≤ y → y < n → depthN zs y = depthN zs X) (hN : N ≤ (depthN zs X : Int)) : Upto zs N n (ys ++ [(lo, n - 1)]) := by
  have hlv := validB_yes (h.val (lo, X - 1) (by simp))
  simp only at hlv
  have hpw := List.pairwise_append.1 h.apart
  refine ⟨fun i hi => ?_, List.pairwise_append.2 ⟨hpw.1, by simp, fun a ha b hb => ?_⟩, fun i hi => ?_, fun z hz => ?_⟩
  · rcases List.mem_append.1 hi with hi | hi
    · exact h.val i (List.mem_append.2 (.inl hi))
    · rw [List.mem_singleton] at hi
      subst hi
      simp [validB]; omega
  · rw [List.mem_singleton] at hb
    subst hb
    exact hpw.2.2 a ha (lo, X - 1) (by simp)
  · rcases List.mem_append.1 hi with hi | hi
    · have := h.ends i (List.mem_append.2 (.inl hi)); omega
    · rw [List.mem_singleton] at hi
      subst hi
      simp only; omega
  · rw [inL_snoc]
    by_cases hzX : z < X
    · rw [← h.upto z hzX, inL_snoc]
      have : inB (lo, n - 1) z = inB (lo, X - 1) z := by
        rw [Bool.eq_iff_iff]; simp only [inB, Bool.and_eq_true, decide_eq_true_eq]; omega
      rw [this]
    · rw [hd z (by omega) hz, show inB (lo, n - 1) z = true by simp [inB]; omega, Bool.or_true]
      simp [hN]

theorem Upto.done (h : Upto zs N 3000000000000001 xs) (hv : ∀ i ∈ zs, validB i = true) (hN : 1 ≤ N) : IsCover zs N xs :=
  ⟨h.val, h.apart, fun z => by
    by_cases hz : z < 3000000000000001
    · exact h.upto z hz
    · rw [depth_out hv (.inr (by omega)), inL_above (fun i hi => by have := h.ends i hi; omega)]
      simp; omega⟩
end
end Go.Proofs.Ytpooifjieoijjaa
