/- Layer 2: plain mathematics: the fold over the grouped ends is the one list of intervals that covers what at least need intervals have. -/
import Derived.Test.YtpooifjieoijjaaCover
namespace Go.Proofs.Ytpooifjieoijjaa
open Go.RowKit Go
set_option linter.unusedVariables false

def stepSum : List (Int × Int) → Int → Int
  | [], _ => 0
  | e :: r, x => (if e.1 ≤ x then e.2 else 0) + stepSum r x

theorem stepSum_app (a b : List (Int × Int)) (x : Int) : stepSum (a ++ b) x = stepSum a x + stepSum b x := by
  induction a with
  | nil => simp [stepSum]
  | cons e a ih => simp only [List.cons_append, stepSum, ih]; omega

theorem stepSum_perm {a b : List (Int × Int)} (h : a.Perm b) (x : Int) : stepSum a x = stepSum b x := by
  induction h with
  | nil => rfl
  | cons e _ ih => simp only [stepSum, ih]
  | swap e f l => simp only [stepSum]; omega
  | trans _ _ ih1 ih2 => exact ih1.trans ih2

theorem stepSum_ends (zs : List (Int × Int)) (h : zs.all validB = true) (x : Int) : stepSum (endsL zs) x = depthN zs x := by
  induction zs with
  | nil => rfl
  | cons i zs ih =>
    rw [List.all_cons, Bool.and_eq_true] at h
    obtain ⟨v1, v2, v3⟩ := validB_yes h.1
    have e : endsL (i :: zs) = (i.1, 1) :: (i.2 + 1, -1) :: endsL zs := rfl
    rw [e]
    simp only [stepSum, ih h.2, depthN, List.countP_cons, inB, Bool.and_eq_true, decide_eq_true_eq]
    split <;> split <;> split <;> omega

theorem stepSum_above (l : List (Int × Int)) (x : Int) (h : ∀ e ∈ l, x < e.1) : stepSum l x = 0 := by
  induction l with
  | nil => rfl
  | cons e l ih =>
    have h1 := h e (List.mem_cons_self ..)
    rw [stepSum, if_neg (by omega), ih (fun f hf => h f (List.mem_cons_of_mem _ hf))]
    rfl

theorem grp_mem : ∀ (E : List (Int × Int)) (s : Int), ∀ g ∈ grp E s, ∃ e ∈ E, e.1 = g.1
  | [], _ => by simp [grp]
  | [e], s => by simp [grp]
  | e :: f :: r, s => by
    intro g hg
    rw [grp] at hg
    split at hg
    · obtain ⟨e', he, h2⟩ := grp_mem (f :: r) _ g hg
      exact ⟨e', List.mem_cons_of_mem _ he, h2⟩
    · rcases List.mem_cons.1 hg with rfl | hg
      · exact ⟨e, List.mem_cons_self .., rfl⟩
      · obtain ⟨e', he, h2⟩ := grp_mem (f :: r) _ g hg
        exact ⟨e', List.mem_cons_of_mem _ he, h2⟩

theorem grp_rises : ∀ (E : List (Int × Int)) (s : Int), Rises E → (grp E s).Pairwise (fun a b => a.1 < b.1)
  | [], _, _ => by simp [grp]
  | [e], s, _ => by simp [grp]
  | e :: f :: r, s, h => by
    have h2 := List.pairwise_cons.1 h
    rw [grp]
    split
    · exact grp_rises (f :: r) _ h2.2
    · rename_i hne
      refine List.pairwise_cons.2 ⟨fun g hg => ?_, grp_rises (f :: r) _ h2.2⟩
      obtain ⟨e', he, h3⟩ := grp_mem (f :: r) _ g hg
      have h4 := h2.1 f (List.mem_cons_self ..)
      have h5 : f.1 ≤ e'.1 := by
        rcases List.mem_cons.1 he with rfl | he
        · exact Int.le_refl _
        · exact (List.pairwise_cons.1 h2.2).1 e' he
      simp only
      omega

theorem grp_sum : ∀ (E : List (Int × Int)) (s : Int) (x : Int), Rises E → stepSum (grp E s) x = stepSum E x + (match E with | [] => 0 | e :: _ => if e.1 ≤ x then s else 0)
  | [], s, x, _ => by simp [grp, stepSum]
  | [e], s, x, _ => by
    simp only [grp, stepSum]
    split <;> omega
  | e :: f :: r, s, x, h => by
    have h2 := List.pairwise_cons.1 h
    rw [grp]
    split
    · rename_i heq
      rw [grp_sum (f :: r) _ x h2.2]
      simp only [stepSum]
      rw [heq]
      split <;> omega
    · rw [stepSum, grp_sum (f :: r) _ x h2.2]
      simp only [stepSum]
      split <;> split <;> omega

def inL (xs : List (Int × Int)) (x : Int) : Bool := xs.any (inB · x)
theorem inL_iff {xs : List (Int × Int)} {x : Int} : inL xs x = true ↔ ∃ i ∈ xs, i.1 ≤ x ∧ x ≤ i.2 := by
  simp only [inL, List.any_eq_true, inB, Bool.and_eq_true, decide_eq_true_eq]

/-- The intervals xs are valid, rise, are apart, and have just the times that at least need of zs have. -/
def IsCover (zs : List (Int × Int)) (need : Int) (xs : List (Int × Int)) : Prop :=
  (∀ i ∈ xs, validB i = true) ∧ xs.Pairwise (fun a b => a.2 + 1 < b.1) ∧ ∀ x, inL xs x = true ↔ need ≤ (depthN zs x : Int)

structure Inv (need T : Int) (D : Int → Int) (c : CS) : Prop where
  upto : ∀ x, x < T → ((inL c.out x = true ∨ (need ≤ c.d ∧ c.b ≤ x)) ↔ need ≤ D x)
  val : ∀ i ∈ c.out, validB i = true
  apart : c.out.Pairwise (fun a b => a.2 + 1 < b.1)
  ends : ∀ i ∈ c.out, i.2 + 1 ≤ T
  opn : need ≤ c.d → 0 ≤ c.b ∧ c.b ≤ T ∧ ∀ i ∈ c.out, i.2 + 1 < c.b

theorem inv_run (need : Int) (D : Int → Int) : ∀ (l : List (Int × Int)) (T : Int) (c : CS), Inv need T D c → (∀ e ∈ l, T < e.1 ∧ 0 ≤ e.1 ∧ e.1 ≤ 3000000000000001) → l.Pairwise (fun a b => a.1 < b.1) → (∀ x, T ≤ x → D x = c.d + stepSum l x) →
    ∃ T', Inv need T' D (l.foldl (cstep need) c) ∧ ∀ x, T' ≤ x → D x = (l.foldl (cstep need) c).d
  | [], T, c, hI, _, _, hD => ⟨T, hI, fun x hx => by rw [hD x hx]; simp [stepSum]⟩
  | (t, s) :: l, T, c, hI, hl, hp, hD => by
    obtain ⟨hT, ht0, ht1⟩ := hl (t, s) (List.mem_cons_self ..)
    simp only at hT ht0 ht1
    obtain ⟨hp1, hp2⟩ := List.pairwise_cons.1 hp
    have hmid : ∀ x, T ≤ x → x < t → D x = c.d := by
      intro x h1 h2
      rw [hD x h1, stepSum_above]
      · omega
      · intro e he
        rcases List.mem_cons.1 he with rfl | he
        · exact h2
        · have := hp1 e he; simp only at this; omega
    have hnew : ∀ x, t ≤ x → D x = (c.d + s) + stepSum l x := by
      intro x h1
      rw [hD x (by omega)]
      simp only [stepSum]
      rw [if_pos h1]; omega
    have hout : ∀ x, T ≤ x → inL c.out x = false := by
      intro x hx
      rw [Bool.eq_false_iff]
      intro h
      obtain ⟨i, hi, _, h2⟩ := inL_iff.1 h
      have := hI.ends i hi
      omega
    have hd' : (cstep need c (t, s)).d = c.d + s := cstep_d need c (t, s)
    rw [List.foldl_cons]
    refine inv_run need D l t (cstep need c (t, s)) ?_ (fun e he => ⟨by have := hp1 e he; simpa using this, (hl e (List.mem_cons_of_mem _ he)).2⟩) hp2 (by rw [hd']; exact hnew)
    by_cases h1 : need ≤ c.d
    · obtain ⟨o1, o2, o3⟩ := hI.opn h1
      by_cases h2 : need ≤ c.d + s
      · have e : cstep need c (t, s) = ⟨c.d + s, c.b, c.out⟩ := by simp [cstep, h1, h2]
        rw [e]
        refine ⟨fun x hx => ?_, hI.val, hI.apart, fun i hi => by have := hI.ends i hi; simp only at *; omega, fun _ => ⟨o1, by simp only; omega, o3⟩⟩
        by_cases hxT : x < T
        · have := hI.upto x hxT
          simp only [h1, true_and] at this
          simp only [h2, true_and]
          exact this
        · have := hmid x (by omega) hx
          simp only [h2, true_and]
          exact ⟨fun _ => by omega, fun _ => .inr (by omega)⟩
      · have e : cstep need c (t, s) = ⟨c.d + s, c.b, c.out ++ [(c.b, t - 1)]⟩ := by simp [cstep, h1, h2]
        rw [e]
        refine ⟨fun x hx => ?_, ?_, ?_, ?_, fun h => absurd h h2⟩
        · have hx' : inL (c.out ++ [(c.b, t - 1)]) x = true ↔ (inL c.out x = true ∨ (c.b ≤ x ∧ x ≤ t - 1)) := by
            simp [inL, List.any_append, inB]
          simp only [h2, false_and, or_false]
          rw [hx']
          by_cases hxT : x < T
          · have := hI.upto x hxT
            simp only [h1, true_and] at this
            rw [← this]
            constructor
            · rintro (h | h)
              · exact .inl h
              · exact .inr h.1
            · rintro (h | h)
              · exact .inl h
              · exact .inr ⟨h, by omega⟩
          · have := hmid x (by omega) hx
            exact ⟨fun _ => by omega, fun _ => .inr ⟨by omega, by omega⟩⟩
        · intro i hi
          rcases List.mem_append.1 hi with hi | hi
          · exact hI.val i hi
          · rw [List.mem_singleton] at hi
            subst hi
            simp [validB]; omega
        · rw [List.pairwise_append]
          refine ⟨hI.apart, by simp, fun a ha b hb => ?_⟩
          rw [List.mem_singleton] at hb
          subst hb
          exact o3 a ha
        · intro i hi
          rcases List.mem_append.1 hi with hi | hi
          · have := hI.ends i hi; omega
          · rw [List.mem_singleton] at hi
            subst hi
            simp only; omega
    · by_cases h2 : need ≤ c.d + s
      · have e : cstep need c (t, s) = ⟨c.d + s, t, c.out⟩ := by simp [cstep, h1, h2]
        rw [e]
        refine ⟨fun x hx => ?_, hI.val, hI.apart, fun i hi => by have := hI.ends i hi; simp only at *; omega, fun _ => ⟨ht0, Int.le_refl _, fun i hi => by have := hI.ends i hi; simp only at *; omega⟩⟩
        have hno : ¬ t ≤ x := by omega
        by_cases hxT : x < T
        · have := hI.upto x hxT
          simp only [h1, false_and, or_false] at this
          simp only [hno, and_false, or_false]
          exact this
        · have h3 := hmid x (by omega) hx
          have h4 := hout x (by omega)
          simp only [hno, and_false, or_false, h4]
          exact ⟨fun h => absurd h (by simp), fun h => by omega⟩
      · have e : cstep need c (t, s) = ⟨c.d + s, c.b, c.out⟩ := by simp [cstep, h1, h2]
        rw [e]
        refine ⟨fun x hx => ?_, hI.val, hI.apart, fun i hi => by have := hI.ends i hi; simp only at *; omega, fun h => absurd h h2⟩
        by_cases hxT : x < T
        · have := hI.upto x hxT
          simp only [h1, false_and, or_false] at this
          simp only [h2, false_and, or_false]
          exact this
        · have h3 := hmid x (by omega) hx
          have h4 := hout x (by omega)
          simp only [h2, false_and, or_false, h4]
          exact ⟨fun h => absurd h (by simp), fun h => by omega⟩

theorem depth_far (zs : List (Int × Int)) (h : zs.all validB = true) (x : Int) (hx : 3000000000000000 < x) : depthN zs x = 0 := by
  rw [depthN, List.countP_eq_zero]
  intro i hi
  obtain ⟨_, _, v3⟩ := validB_yes (List.all_eq_true.1 h i hi)
  have : ¬ x ≤ i.2 := by omega
  simp [inB, this]

theorem depth_low (zs : List (Int × Int)) (h : zs.all validB = true) (x : Int) (hx : x < 0) : depthN zs x = 0 := by
  rw [depthN, List.countP_eq_zero]
  intro i hi
  obtain ⟨v1, _, _⟩ := validB_yes (List.all_eq_true.1 h i hi)
  have : ¬ i.1 ≤ x := by omega
  simp [inB, this]

theorem cover_is (zs E : List (Int × Int)) (need : Int) (hn : 1 ≤ need) (hv : zs.all validB = true) (hp : E.Perm (endsL zs)) (hs : Rises E) : IsCover zs need (cfold need (grp E 0)).out := by
  have hD : ∀ x, stepSum (grp E 0) x = (depthN zs x : Int) := by
    intro x
    rw [grp_sum E 0 x hs, stepSum_perm hp, stepSum_ends zs hv]
    split <;> simp
  have hok := endsL_ok hv hp
  have hmem : ∀ g ∈ grp E 0, -1 < g.1 ∧ 0 ≤ g.1 ∧ g.1 ≤ 3000000000000001 := by
    intro g hg
    obtain ⟨e, he, h1⟩ := grp_mem E 0 g hg
    obtain ⟨k, hk, rfl⟩ := List.getElem_of_mem he
    have := hok k hk
    rw [show E.getD k (0, 0) = E[k] by simp [List.getD, hk]] at this
    obtain ⟨a, b, _, _⟩ := this
    rw [h1] at a b
    exact ⟨by omega, a, b⟩
  have h0 : Inv need (-1) (fun x => (depthN zs x : Int)) ⟨0, 0, []⟩ :=
    ⟨fun x hx => by rw [depth_low zs hv x (by omega)]; simp [inL]; omega, by simp, by simp, by simp, fun h => absurd h (by simp only; omega)⟩
  obtain ⟨T, hI, hF⟩ := inv_run need (fun x => (depthN zs x : Int)) (grp E 0) (-1) ⟨0, 0, []⟩ h0 hmem (grp_rises E 0 hs) (fun x _ => by simp only [hD]; omega)
  change Inv need T _ (cfold need (grp E 0)) at hI
  change ∀ x, T ≤ x → _ = (cfold need (grp E 0)).d at hF
  generalize cfold need (grp E 0) = c at hI hF
  have hd0 : c.d = 0 := by
    have := hF (max T 3000000000000001) (Int.le_max_left ..)
    rw [depth_far zs hv _ (by omega)] at this
    simpa using this.symm
  refine ⟨hI.val, hI.apart, fun x => ?_⟩
  by_cases hx : x < T
  · have := hI.upto x hx
    simp only [hd0, show ¬ need ≤ 0 by omega, false_and, or_false] at this
    exact this
  · have h1 := hF x (by omega)
    have h2 : inL c.out x = false := by
      rw [Bool.eq_false_iff]
      intro h
      obtain ⟨i, hi, _, h2⟩ := inL_iff.1 h
      have := hI.ends i hi
      omega
    rw [h2]
    exact ⟨fun h => absurd h (by simp), fun h => by omega⟩

theorem apart_unique : ∀ (xs ys : List (Int × Int)), (∀ i ∈ xs, i.1 ≤ i.2) → (∀ i ∈ ys, i.1 ≤ i.2) → xs.Pairwise (fun a b => a.2 + 1 < b.1) → ys.Pairwise (fun a b => a.2 + 1 < b.1) → (∀ x, inL xs x = true ↔ inL ys x = true) → xs = ys
  | [], [], _, _, _, _, _ => rfl
  | [], y :: ys, _, hy, _, _, h => by
    have := (h y.1).2 (inL_iff.2 ⟨y, List.mem_cons_self .., Int.le_refl _, hy y (List.mem_cons_self ..)⟩)
    simp [inL] at this
  | x :: xs, [], hx, _, _, _, h => by
    have := (h x.1).1 (inL_iff.2 ⟨x, List.mem_cons_self .., Int.le_refl _, hx x (List.mem_cons_self ..)⟩)
    simp [inL] at this
  | x :: xs, y :: ys, hx, hy, px, py, h => by
    obtain ⟨px1, px2⟩ := List.pairwise_cons.1 px
    obtain ⟨py1, py2⟩ := List.pairwise_cons.1 py
    have hx0 := hx x (List.mem_cons_self ..)
    have hy0 := hy y (List.mem_cons_self ..)
    have e1 : y.1 ≤ x.1 := by
      obtain ⟨i, hi, h1, h2⟩ := inL_iff.1 ((h x.1).1 (inL_iff.2 ⟨x, List.mem_cons_self .., Int.le_refl _, hx0⟩))
      rcases List.mem_cons.1 hi with rfl | hi
      · exact h1
      · have := py1 i hi; omega
    have e2 : x.1 ≤ y.1 := by
      obtain ⟨i, hi, h1, h2⟩ := inL_iff.1 ((h y.1).2 (inL_iff.2 ⟨y, List.mem_cons_self .., Int.le_refl _, hy0⟩))
      rcases List.mem_cons.1 hi with rfl | hi
      · exact h1
      · have := px1 i hi; omega
    have e3 : ¬ x.2 < y.2 := by
      intro hlt
      obtain ⟨i, hi, h1, h2⟩ := inL_iff.1 ((h (x.2 + 1)).2 (inL_iff.2 ⟨y, List.mem_cons_self .., by omega, by omega⟩))
      rcases List.mem_cons.1 hi with rfl | hi
      · omega
      · have := px1 i hi; omega
    have e4 : ¬ y.2 < x.2 := by
      intro hlt
      obtain ⟨i, hi, h1, h2⟩ := inL_iff.1 ((h (y.2 + 1)).1 (inL_iff.2 ⟨x, List.mem_cons_self .., by omega, by omega⟩))
      rcases List.mem_cons.1 hi with rfl | hi
      · omega
      · have := py1 i hi; omega
    have exy : x = y := Prod.ext (by omega) (by omega)
    subst exy
    rw [apart_unique xs ys (fun i hi => hx i (List.mem_cons_of_mem _ hi)) (fun i hi => hy i (List.mem_cons_of_mem _ hi)) px2 py2 ?_]
    intro z
    have hz := h z
    rw [inL_iff, inL_iff] at hz ⊢
    constructor
    · rintro ⟨i, hi, h1, h2⟩
      obtain ⟨k, hk, h3, h4⟩ := hz.1 ⟨i, List.mem_cons_of_mem _ hi, h1, h2⟩
      rcases List.mem_cons.1 hk with rfl | hk
      · have := px1 i hi; omega
      · exact ⟨k, hk, h3, h4⟩
    · rintro ⟨i, hi, h1, h2⟩
      obtain ⟨k, hk, h3, h4⟩ := hz.2 ⟨i, List.mem_cons_of_mem _ hi, h1, h2⟩
      rcases List.mem_cons.1 hk with rfl | hk
      · have := py1 i hi; omega
      · exact ⟨k, hk, h3, h4⟩

theorem cover_unique {zs zs' : List (Int × Int)} {need : Int} {xs ys : List (Int × Int)} (h : IsCover zs need xs) (k : IsCover zs' need ys) (he : ∀ x, depthN zs x = depthN zs' x) : xs = ys :=
  apart_unique xs ys (fun i hi => (validB_yes (h.1 i hi)).2.1) (fun i hi => (validB_yes (k.1 i hi)).2.1) h.2.1 k.2.1 (fun x => by rw [h.2.2 x, k.2.2 x, he x])
end Go.Proofs.Ytpooifjieoijjaa
