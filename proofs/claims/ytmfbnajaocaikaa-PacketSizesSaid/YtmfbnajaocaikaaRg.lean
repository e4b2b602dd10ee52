/- A region that draws its order: what each operation leaves behind (Φ) is kept by all the others; each operation is walked once (wip/lib; lib/rggen.py writes the walks). No program in it. -/
import Derived.Test.YtmfbnajaocaikaaRegInv
namespace Go.Proofs.Ytmfbnajaocaikaa
open Go.RowKit Go
set_option linter.unusedVariables false
set_option linter.unusedSimpArgs false

/-- The temporaries of a frame. -/
def env (a : Act) (t : Nat) : Value := a.eval (.tmp t)
def puts (a : Act) : List Nat → (Nat → Value) → Act
  | [], _ => a
  | d :: r, u => puts (a.put (some d) (u d)) r u
theorem rg_ext {a b : Act} (hs : a.tmps.size = b.tmps.size) (hd : a.defers = b.defers) (h : ∀ t, env a t = env b t) : a = b := by
  obtain ⟨x, d⟩ := a
  obtain ⟨y, d'⟩ := b
  dsimp only at hs hd
  subst hd
  congr 1
  refine Array.ext hs (fun i h1 h2 => ?_)
  have := h i
  simp [env, Act.eval, Array.getD, h1, h2] at this
  exact this
theorem puts_size : ∀ (ds : List Nat) (a : Act) (u : Nat → Value), (puts a ds u).tmps.size = a.tmps.size
  | [], _, _ => rfl
  | d :: r, a, u => (puts_size r _ u).trans (Act.size_put _ _ _)
theorem puts_defers : ∀ (ds : List Nat) (a : Act) (u : Nat → Value), (puts a ds u).defers = a.defers
  | [], _, _ => rfl
  | d :: r, a, u => (puts_defers r _ u).trans (Act.defers_put' _ _ _)
theorem puts_env : ∀ (ds : List Nat) (a : Act) (u : Nat → Value), (∀ d ∈ ds, d < a.tmps.size) → ∀ t, env (puts a ds u) t = if t ∈ ds then u t else env a t
  | [], _, _, _, _ => rfl
  | d :: r, a, u, h, t => by
    have k := puts_env r (a.put (some d) (u d)) u (fun x hx => by rw [Act.size_put]; exact h x (by simp [hx])) t
    show env (puts (a.put (some d) (u d)) r u) t = _
    rw [k]
    by_cases ht : t ∈ r
    · rw [if_pos ht, if_pos (by simp [ht])]
    · rw [if_neg ht]
      by_cases e : d = t
      · subst e
        rw [if_pos (by simp)]
        exact Act.eval_put_same _ _ _ (h d (by simp))
      · rw [if_neg (by simp [ht]; exact fun z => e z.symm)]
        exact Act.eval_put_ne _ _ _ _ e
theorem puts_all {a a0 : Act} {ds : List Nat} (hs : a.tmps.size = a0.tmps.size) (hd : a.defers = a0.defers) (hf : ∀ t, t ∉ ds → env a t = env a0 t) (hlt : ∀ d ∈ ds, d < a0.tmps.size) : a = puts a0 ds (env a) := by
  refine rg_ext ((puts_size _ _ _).trans hs.symm).symm ((puts_defers _ _ _).trans hd.symm).symm (fun t => ?_)
  rw [puts_env ds a0 (env a) hlt t]
  by_cases h : t ∈ ds
  · rw [if_pos h]
  · rw [if_neg h]; exact hf t h
theorem env_put_same {a : Act} {d : Nat} {v : Value} (h : d < a.tmps.size) : env (a.put (some d) v) d = v := Act.eval_put_same _ _ _ h
theorem env_put_ne {a : Act} {o : Option Nat} {v : Value} {t : Nat} (h : o ≠ some t) : env (a.put o v) t = env a t := by
  cases o with
  | none => rfl
  | some d => exact Act.eval_put_ne _ _ _ _ (fun e => h (by rw [e]))

/-- All but block g lies as it lay. -/
structure Only (w w' : World) (g : Nat) : Prop where
  os : w'.os = w.os
  tape : w'.tape = w.tape
  output : w'.output = w.output
  size : w.heap.size ≤ w'.heap.size
  block : ∀ b, b < w.heap.size → b ≠ g → w'.heap[b]? = w.heap[b]?
theorem Only.set (w : World) (p : Addr) (v : Value) : Only w (w.setCell p v) p.block := ⟨rfl, rfl, rfl, by simp [World.setCell], fun b _ hb => Below.heap_setCell w p v b hb⟩
theorem Only.trans {a b c : World} {g : Nat} (h : Only a b g) (k : Only b c g) : Only a c g :=
  ⟨k.os.trans h.os, k.tape.trans h.tape, k.output.trans h.output, Nat.le_trans h.size k.size, fun x hl hx => (k.block x (Nat.lt_of_lt_of_le hl h.size) hx).trans (h.block x hl hx)⟩
theorem Only.cells {w w' : World} {g q : Nat} {t : TypeId} {cs : Array Value} (h : Only w w' g) (c : Cells w q t cs) (hne : q ≠ g) : Cells w' q t cs := (h.block q c.lt hne).trans c
theorem Only.below {w w' B : World} {g n : Nat} (h : Only w w' g) (b : Below n B w) (hg : n ≤ g) (hN : n ≤ B.heap.size) : Below n B w' :=
  ⟨h.os.trans b.os, h.tape.trans b.tape, h.output.trans b.output, Nat.le_trans b.size h.size, fun k hk => (h.block k (by have := b.size; have := hN; omega) (by omega)).trans (b.block k hk)⟩
def ptrV (g : Nat) : Value := .pointer (some ⟨g, 0, none⟩)
theorem ptr_inj {g k : Nat} (h : ptrV g = ptrV k) : g = k := by unfold ptrV at h; injection h with h; injection h with h; injection h

/-- The operation at a place. -/
def OpX (ops : Array Oper) (i : Nat) (gd : Option (Nat × Bool)) (d : Option Nat) (op : Op) : Prop := ∃ o : Oper, ops[i]? = some o ∧ o.guard = gd ∧ o.dst = d ∧ o.op = op
/-- The dependencies, the temporaries that are spoken of, and those that are written: all in order. -/
def tabB (ops : Array Oper) (DS : List Nat) (R T : Nat → List Nat) : Bool :=
  (List.range ops.size).all fun i => match ops[i]? with
    | none => true
    | some o => (R i).all (fun r => o.after.any fun e => Region.binds .any e && (e.on == r || (R e.on).contains r)) &&
        (match o.dst with | none => true | some d => DS.contains d && (List.range ops.size).all fun j => !(T j).contains d || (i == j || (R j).contains i))
section
variable {P : Program} {ops : Array Oper} {Q : Exit → Act → World → Prop} {DS : List Nat} {R T : Nat → List Nat}
theorem tab_R (h : tabB ops DS R T = true) {i : Nat} {o : Oper} (ho : ops[i]? = some o) : ∀ r ∈ R i, ∃ e ∈ o.after, Region.binds .any e = true ∧ (e.on = r ∨ r ∈ R e.on) := by
  intro r hr
  have hlt : i < ops.size := (Array.getElem?_eq_some_iff.1 ho).1
  have := (List.all_eq_true.1 h) i (List.mem_range.2 hlt)
  rw [ho] at this
  dsimp only at this
  rw [Bool.and_eq_true] at this
  have k := (List.all_eq_true.1 this.1) r hr
  obtain ⟨e, he, hb⟩ := Array.any_eq_true'.1 k
  rw [Bool.and_eq_true, Bool.or_eq_true] at hb
  refine ⟨e, he, hb.1, ?_⟩
  rcases hb.2 with z | z
  · exact .inl (by simpa using z)
  · exact .inr (by simpa using z)
theorem tab_T (h : tabB ops DS R T = true) {i : Nat} {o : Oper} (ho : ops[i]? = some o) {d : Nat} (hd : o.dst = some d) : d ∈ DS ∧ ∀ j, j < ops.size → d ∈ T j → i = j ∨ i ∈ R j := by
  have hlt : i < ops.size := (Array.getElem?_eq_some_iff.1 ho).1
  have := (List.all_eq_true.1 h) i (List.mem_range.2 hlt)
  rw [ho] at this
  dsimp only at this
  rw [Bool.and_eq_true, hd] at this
  have k := this.2
  dsimp only at k
  rw [Bool.and_eq_true] at k
  refine ⟨by simpa using k.1, fun j hj ht => ?_⟩
  have z := (List.all_eq_true.1 k.2) j (List.mem_range.2 hj)
  rw [show (T j).contains d = true by simpa using ht, Bool.not_true, Bool.false_or, Bool.or_eq_true] at z
  rcases z with z | z
  · exact .inl (by simpa using z)
  · exact .inr (by simpa using z)

/-- What an operation may do, and what it leaves behind; the blocks from s to t are those that were laid while it ran; all below nb stays; Ψ holds until one of D comes up. -/
def DoesD (ops : Array Oper) (nb : Nat) (D : List Nat) (Ψ : World → Prop) (Φ : Nat → Nat → Nat → (Nat → Value) → World → Prop) (L : Nat → Bool) (iv : Nat → Nat × Nat) (i : Nat) (a : Act) (w : World) (a' : Act) (w' : World) : Prop :=
  ∃ v, a' = a.put (ops[i]?.bind (·.dst)) v ∧ Φ i w.heap.size w'.heap.size (env a') w' ∧
    (Below w.heap.size w w' ∨ ∃ g, nb ≤ g ∧ Only w w' g ∧ (∀ j, j < ops.size → L j = true → Φ j (iv j).1 (iv j).2 (env a) w → Φ j (iv j).1 (iv j).2 (env a) w') ∧ (i ∉ D → Ψ w → Ψ w'))

theorem wp_region_rgD {id : Nat} {B : World} {a0 : Act} (nb : Nat) (hnb : nb ≤ B.heap.size) (D : List Nat) (Ψ : World → Prop) (hΨ : Ψ B.drew) (sΨ : ∀ w w', Ψ w → Below w.heap.size w w' → Ψ w') (Φ : Nat → Nat → Nat → (Nat → Value) → World → Prop) (DS : List Nat) (R T : Nat → List Nat)
    (hm : P.follows .mixedOrders = true) (dep : ∀ (i : Nat) (o : Oper), ops[i]? = some o → ∀ e ∈ o.after, Region.binds .any e = true → e.on < i)
    (tab : tabB ops DS R T = true) (hlt : ∀ d ∈ DS, d < a0.tmps.size)
    (supp : ∀ i, i < ops.size → ∀ (s t : Nat) (ρ ρ' : Nat → Value) w, (∀ x ∈ T i, ρ' x = ρ x) → Φ i s t ρ w → Φ i s t ρ' w)
    (stab : ∀ i, i < ops.size → ∀ (s t : Nat) (ρ : Nat → Value) w w', t ≤ w.heap.size → Φ i s t ρ w → Below w.heap.size w w' → Φ i s t ρ w')
    (step : ∀ i, i < ops.size → ∀ (L : Nat → Bool) (iv : Nat → Nat × Nat) (a : Act) (w : World), L i = false → a.tmps.size = a0.tmps.size → Below nb B w → B.heap.size ≤ w.heap.size → ((∀ j ∈ D, L j = false) → Ψ w) → (∀ t, (∀ k o, ops[k]? = some o → o.dst = some t → L k = false) → env a t = env a0 t) →
      (∀ r ∈ R i, L r = true ∧ Φ r (iv r).1 (iv r).2 (env a) w) → (∀ j, j < ops.size → L j = true → (∀ r ∈ R j, L r = true) ∧ Φ j (iv j).1 (iv j).2 (env a) w) →
      (∀ j, j < ops.size → L j = true → B.heap.size ≤ (iv j).1 ∧ (iv j).1 ≤ (iv j).2 ∧ (iv j).2 ≤ w.heap.size) → (∀ j k, j < ops.size → k < ops.size → j ≠ k → L j = true → L k = true → (iv j).2 ≤ (iv k).1 ∨ (iv k).2 ≤ (iv j).1) →
      wpOp P ops Q i (DoesD ops nb D Ψ Φ L iv i a w) a w)
    (fin : ∀ (u : Nat → Value) (iv : Nat → Nat × Nat) w', Below nb B w' → B.heap.size ≤ w'.heap.size → (∀ j, j < ops.size → Φ j (iv j).1 (iv j).2 u w') → (∀ j, j < ops.size → B.heap.size ≤ (iv j).1 ∧ (iv j).1 ≤ (iv j).2 ∧ (iv j).2 ≤ w'.heap.size) →
      (∀ j k, j < ops.size → k < ops.size → j ≠ k → (iv j).2 ≤ (iv k).1 ∨ (iv k).2 ≤ (iv j).1) → (∀ t, t ∉ DS → u t = env a0 t) → Q .normal (puts a0 DS u) w') :
    (Code.region id ops true).wp P Q a0 B := by
  refine wp_region_inv (J := fun L a w => (a.tmps.size = a0.tmps.size ∧ a.defers = a0.defers ∧ (∀ t, (∀ k o, ops[k]? = some o → o.dst = some t → L k = false) → env a t = env a0 t) ∧ Below nb B w ∧ B.heap.size ≤ w.heap.size ∧ ((∀ j ∈ D, L j = false) → Ψ w)) ∧
    ∃ iv : Nat → Nat × Nat, (∀ j, j < ops.size → L j = true → (∀ r ∈ R j, L r = true) ∧ Φ j (iv j).1 (iv j).2 (env a) w) ∧
    (∀ j, j < ops.size → L j = true → B.heap.size ≤ (iv j).1 ∧ (iv j).1 ≤ (iv j).2 ∧ (iv j).2 ≤ w.heap.size) ∧
    (∀ j k, j < ops.size → k < ops.size → j ≠ k → L j = true → L k = true → (iv j).2 ≤ (iv k).1 ∨ (iv k).2 ≤ (iv j).1)) hm dep ?_ ?_ ?_
  · refine ⟨⟨rfl, rfl, fun _ _ => rfl, (Below.refl _ B).drew, Nat.le_refl _, fun _ => hΨ⟩, fun _ => (0, 0), ?_, ?_, ?_⟩
    · intro j _ h
      cases h
    · intro j _ h
      cases h
    · intro j k _ _ _ h
      cases h
  · rintro L a w i o ⟨⟨hs, hd, hf, hb, hbs, hps⟩, iv, hΦ, hra, hdi⟩ ho hLi hdep
    have hi : i < ops.size := (Array.getElem?_eq_some_iff.1 ho).1
    have hlt' : ∀ r ∈ R i, r < ops.size ∧ L r = true := by
      intro r hr
      obtain ⟨e, he, hbd, z⟩ := tab_R tab ho r hr
      have h1 := hdep e he hbd
      have h2 : e.on < ops.size := Nat.lt_trans (dep i o ho e he hbd) hi
      rcases z with rfl | z
      · exact ⟨h2, h1⟩
      · have h3 := (hΦ e.on h2 h1).1 r z
        refine ⟨?_, h3⟩
        -- r lies ahead of e.on
        have aux : ∀ m, ∀ k, k < m → k < ops.size → ∀ x ∈ R k, x < k := by
          intro m
          induction m with
          | zero => intro k hk; omega
          | succ m ih =>
            intro k hk hks x hx
            obtain ⟨o', ho'⟩ : ∃ o', ops[k]? = some o' := ⟨ops[k], Array.getElem?_eq_getElem hks⟩
            obtain ⟨e', he', hb', z'⟩ := tab_R tab ho' x hx
            have := dep k o' ho' e' he' hb'
            rcases z' with rfl | z'
            · exact this
            · have := ih e'.on (by omega) (by omega) x z'
              omega
        have := aux (e.on + 1) e.on (by omega) h2 r z
        omega
    refine wpOp_mono (fun a' w' => ?_) (step i hi L iv a w hLi hs hb hbs hps hf (fun r hr => ⟨(hlt' r hr).2, (hΦ r (hlt' r hr).1 (hlt' r hr).2).2⟩) hΦ hra hdi)
    rintro ⟨v, rfl, hP, hw⟩
    rw [ho] at hP ⊢
    simp only [Option.bind_some] at hP ⊢
    -- a temporary that another operation speaks of is not written
    have keep : ∀ j, j < ops.size → L j = true → ∀ t ∈ T j, o.dst ≠ some t := by
      intro j hj hLj t ht e
      rcases (tab_T tab ho e).2 j hj ht with rfl | z
      · rw [hLi] at hLj; cases hLj
      · rw [(hΦ j hj hLj).1 i z] at hLi; cases hLi
    have hEnv : ∀ j, j < ops.size → L j = true → ∀ t ∈ T j, env (a.put o.dst v) t = env a t := fun j hj hLj t ht => env_put_ne (keep j hj hLj t ht)
    have old : ∀ j, j < ops.size → L j = true → Φ j (iv j).1 (iv j).2 (env (a.put o.dst v)) w' := by
      intro j hj hLj
      refine supp j hj _ _ _ _ w' (hEnv j hj hLj) ?_
      rcases hw with k | ⟨g, -, -, k, -⟩
      · exact stab j hj _ _ _ _ _ (hra j hj hLj).2.2 (hΦ j hj hLj).2 k
      · exact k j hj hLj (hΦ j hj hLj).2
    have hb' : Below nb B w' := by
      rcases hw with k | ⟨g, hg, k, -⟩
      · exact hb.trans (k.mono (Nat.le_trans hnb hbs))
      · exact k.below hb hg hnb
    have hps' : (∀ j ∈ D, (j == i || L j) = false) → Ψ w' := by
      intro h
      have h' : ∀ j ∈ D, L j = false := fun j hj => by have := h j hj; rw [Bool.or_eq_false_iff] at this; exact this.2
      rcases hw with k | ⟨g, hg, k, -, k2⟩
      · exact sΨ _ _ (hps h') k
      · exact k2 (fun hi' => by have := h i hi'; simp at this) (hps h')
    have hsz : w.heap.size ≤ w'.heap.size := by
      rcases hw with k | ⟨g, hg, k, -⟩
      · exact k.size
      · exact k.size
    have ne : ∀ j, L j = true → j ≠ i := fun j h e => by rw [e, hLi] at h; cases h
    have iv_i : (fun j => if j = i then (w.heap.size, w'.heap.size) else iv j) i = (w.heap.size, w'.heap.size) := if_pos rfl
    have iv_j : ∀ j, j ≠ i → (fun j => if j = i then (w.heap.size, w'.heap.size) else iv j) j = iv j := fun j h => if_neg h
    refine ⟨⟨(Act.size_put _ _ _).trans hs, (Act.defers_put' _ _ _).trans hd, fun t ht => ?_, hb', Nat.le_trans hbs hsz, hps'⟩, fun j => if j = i then (w.heap.size, w'.heap.size) else iv j, fun j hj hLj => ?_, fun j hj hLj => ?_, ?_⟩
    · have hne' : o.dst ≠ some t := fun e => by
        have := ht i o ho e
        simp at this
      rw [env_put_ne hne']
      exact hf t (fun k o' ho' e => by
        have := ht k o' ho' e
        rw [Bool.or_eq_false_iff] at this
        exact this.2)
    · by_cases e : j = i
      · subst e
        rw [iv_i]
        exact ⟨fun r hr => by simp [(hlt' r hr).2], hP⟩
      · have hLj' : L j = true := by simpa [e] using hLj
        rw [iv_j j e]
        exact ⟨fun r hr => by simp [(hΦ j hj hLj').1 r hr], old j hj hLj'⟩
    · by_cases e : j = i
      · subst e
        rw [iv_i]
        exact ⟨hbs, hsz, Nat.le_refl _⟩
      · have hLj' : L j = true := by simpa [e] using hLj
        rw [iv_j j e]
        obtain ⟨k1, k2, k3⟩ := hra j hj hLj'
        exact ⟨k1, k2, Nat.le_trans k3 hsz⟩
    · intro j k hj hk hjk hLj hLk
      by_cases e : j = i
      · subst e
        have hLk' : L k = true := by simpa [Ne.symm hjk] using hLk
        rw [iv_i, iv_j k (Ne.symm hjk)]
        exact .inr (hra k hk hLk').2.2
      · have hLj' : L j = true := by simpa [e] using hLj
        rw [iv_j j e]
        by_cases e' : k = i
        · subst e'
          rw [iv_i]
          exact .inl (hra j hj hLj').2.2
        · have hLk' : L k = true := by simpa [e'] using hLk
          rw [iv_j k e']
          exact hdi j k hj hk hjk hLj' hLk'
  · rintro L a w ⟨⟨hs, hd, hf, hb, hbs, hps⟩, iv, hΦ, hra, hdi⟩ hall
    have hf' : ∀ t, t ∉ DS → env a t = env a0 t := fun t ht => hf t (fun k o ho e => absurd (tab_T tab ho e).1 ht)
    have k := fin (env a) iv w hb hbs (fun j hj => (hΦ j hj (hall j hj)).2) (fun j hj => hra j hj (hall j hj)) (fun j k hj hk hjk => hdi j k hj hk hjk (hall j hj) (hall k hk)) hf'
    rw [puts_all hs hd hf' hlt]
    exact k

/-- What an operation may do where all that was there before the region stays. -/
def Does (ops : Array Oper) (B : World) (Φ : Nat → Nat → Nat → (Nat → Value) → World → Prop) (L : Nat → Bool) (iv : Nat → Nat × Nat) (i : Nat) (a : Act) (w : World) (a' : Act) (w' : World) : Prop :=
  ∃ v, a' = a.put (ops[i]?.bind (·.dst)) v ∧ Φ i w.heap.size w'.heap.size (env a') w' ∧
    (Below w.heap.size w w' ∨ ∃ g, B.heap.size ≤ g ∧ Only w w' g ∧ ∀ j, j < ops.size → L j = true → Φ j (iv j).1 (iv j).2 (env a) w → Φ j (iv j).1 (iv j).2 (env a) w')
theorem wp_region_rg {id : Nat} {B : World} {a0 : Act} (Φ : Nat → Nat → Nat → (Nat → Value) → World → Prop) (DS : List Nat) (R T : Nat → List Nat)
    (hm : P.follows .mixedOrders = true) (dep : ∀ (i : Nat) (o : Oper), ops[i]? = some o → ∀ e ∈ o.after, Region.binds .any e = true → e.on < i)
    (tab : tabB ops DS R T = true) (hlt : ∀ d ∈ DS, d < a0.tmps.size)
    (supp : ∀ i, i < ops.size → ∀ (s t : Nat) (ρ ρ' : Nat → Value) w, (∀ x ∈ T i, ρ' x = ρ x) → Φ i s t ρ w → Φ i s t ρ' w)
    (stab : ∀ i, i < ops.size → ∀ (s t : Nat) (ρ : Nat → Value) w w', t ≤ w.heap.size → Φ i s t ρ w → Below w.heap.size w w' → Φ i s t ρ w')
    (step : ∀ i, i < ops.size → ∀ (L : Nat → Bool) (iv : Nat → Nat × Nat) (a : Act) (w : World), L i = false → a.tmps.size = a0.tmps.size → Below B.heap.size B w → (∀ t, (∀ k o, ops[k]? = some o → o.dst = some t → L k = false) → env a t = env a0 t) →
      (∀ r ∈ R i, L r = true ∧ Φ r (iv r).1 (iv r).2 (env a) w) → (∀ j, j < ops.size → L j = true → (∀ r ∈ R j, L r = true) ∧ Φ j (iv j).1 (iv j).2 (env a) w) →
      (∀ j, j < ops.size → L j = true → B.heap.size ≤ (iv j).1 ∧ (iv j).1 ≤ (iv j).2 ∧ (iv j).2 ≤ w.heap.size) → (∀ j k, j < ops.size → k < ops.size → j ≠ k → L j = true → L k = true → (iv j).2 ≤ (iv k).1 ∨ (iv k).2 ≤ (iv j).1) →
      wpOp P ops Q i (Does ops B Φ L iv i a w) a w)
    (fin : ∀ (u : Nat → Value) (iv : Nat → Nat × Nat) w', Below B.heap.size B w' → (∀ j, j < ops.size → Φ j (iv j).1 (iv j).2 u w') → (∀ j, j < ops.size → B.heap.size ≤ (iv j).1 ∧ (iv j).1 ≤ (iv j).2 ∧ (iv j).2 ≤ w'.heap.size) →
      (∀ j k, j < ops.size → k < ops.size → j ≠ k → (iv j).2 ≤ (iv k).1 ∨ (iv k).2 ≤ (iv j).1) → (∀ t, t ∉ DS → u t = env a0 t) → Q .normal (puts a0 DS u) w') :
    (Code.region id ops true).wp P Q a0 B :=
  wp_region_rgD B.heap.size (Nat.le_refl _) [] (fun _ => True) trivial (fun _ _ _ _ => trivial) Φ DS R T hm dep tab hlt supp stab
    (fun i hi L iv a w h1 h2 h3 _ _ h6 h7 h8 h9 h10 => wpOp_mono (fun a' w' => by
      rintro ⟨v, e, k1, k2⟩
      refine ⟨v, e, k1, ?_⟩
      rcases k2 with k | ⟨g, q1, q2, q3⟩
      · exact .inl k
      · exact .inr ⟨g, q1, q2, q3, fun _ _ => trivial⟩) (step i hi L iv a w h1 h2 h3 h6 h7 h8 h9 h10))
    (fun u iv w' h1 _ h3 h4 h5 h6 => fin u iv w' h1 h3 h4 h5 h6)

/-- So many cells stored, one after the other. -/
def fillC (w : World) (g : Nat) : Nat → List Value → World
  | _, [] => w
  | i, v :: r => fillC (w.setCell ⟨g, i, none⟩ v) g (i + 1) r
theorem fill_only (g : Nat) : ∀ (vs : List Value) (i : Nat) (w : World), Only w (fillC w g i vs) g
  | [], _, w => ⟨rfl, rfl, rfl, Nat.le_refl _, fun _ _ _ => rfl⟩
  | v :: r, i, w => (Only.set w ⟨g, i, none⟩ v).trans (fill_only g r (i + 1) _)
theorem cells_set {w : World} {g : Nat} {t : TypeId} {cs : Array Value} (h : Cells w g t cs) (i : Nat) (v : Value) : Cells (w.setCell ⟨g, i, none⟩ v) g t (cs.setIfInBounds i v) := by
  unfold Cells at h ⊢
  simp [World.setCell, Array.getElem?_modify, h]
def fillA (cs : Array Value) : Nat → List Value → Array Value
  | _, [] => cs
  | i, v :: r => fillA (cs.setIfInBounds i v) (i + 1) r
theorem fill_cells {g : Nat} {t : TypeId} : ∀ (vs : List Value) (i : Nat) (w : World) (cs : Array Value), Cells w g t cs → Cells (fillC w g i vs) g t (fillA cs i vs)
  | [], _, _, _, h => h
  | v :: r, i, w, cs, h => fill_cells r (i + 1) _ _ (cells_set h i v)
theorem fillA_size : ∀ (vs : List Value) (i : Nat) (cs : Array Value), (fillA cs i vs).size = cs.size
  | [], _, _ => rfl
  | v :: r, i, cs => (fillA_size r (i + 1) _).trans (by simp)
theorem fillA_get : ∀ (vs : List Value) (i : Nat) (cs : Array Value) (j : Nat), i + vs.length ≤ cs.size → (fillA cs i vs)[j]? = if i ≤ j ∧ j < i + vs.length then vs[j - i]? else cs[j]?
  | [], i, cs, j, _ => by simp [fillA]; intro h1 h2; omega
  | v :: r, i, cs, j, h => by
    unfold fillA
    rw [List.length_cons] at h
    rw [fillA_get r (i + 1) _ j (by simp; omega), List.length_cons]
    by_cases c : i + 1 ≤ j ∧ j < i + 1 + r.length
    · rw [if_pos c, if_pos (by omega), show j - i = (j - (i + 1)) + 1 by omega, List.getElem?_cons_succ]
    · rw [if_neg c]
      by_cases e : j = i
      · subst e
        rw [if_pos (by omega), Nat.sub_self]
        simp [show j < cs.size by omega]
      · rw [if_neg (by omega), Array.getElem?_setIfInBounds_ne (Ne.symm e)]
theorem fill_all {w : World} {g : Nat} {t : TypeId} {cs : Array Value} {vs : List Value} (h : Cells w g t cs) (hl : cs.size = vs.length) : Cells (fillC w g 0 vs) g t vs.toArray := by
  have e : fillA cs 0 vs = vs.toArray := by
    refine Array.ext_getElem? (fun j => ?_)
    rw [fillA_get vs 0 cs j (by omega)]
    by_cases c : j < vs.length
    · rw [if_pos (by omega)]; simp
    · rw [if_neg (by omega), Array.getElem?_eq_none (by omega), Array.getElem?_eq_none (by simp; omega)]
  rw [← e]
  exact fill_cells vs 0 w cs h
theorem cells_some {w : World} {g : Nat} {t : TypeId} {cs : Array Value} (h : Cells w g t cs) (i : Nat) (hi : i < cs.size) : w.cell? ⟨g, i, none⟩ = .some cs[i] := h.c i (Array.getElem?_eq_getElem hi)

/-- Whoever writes t has i among what comes ahead of it. -/
def wrB (ops : Array Oper) (R : Nat → List Nat) (t i : Nat) : Bool := (List.range ops.size).all fun k => match ops[k]? with | none => true | some o => o.dst != some t || k == i || (R k).contains i
theorem wr_of {ops : Array Oper} {R : Nat → List Nat} {t i : Nat} (h : wrB ops R t i = true) {k : Nat} {o : Oper} (ho : ops[k]? = some o) (hd : o.dst = some t) : k < ops.size ∧ (k = i ∨ i ∈ R k) := by
  have hlt : k < ops.size := (Array.getElem?_eq_some_iff.1 ho).1
  have := (List.all_eq_true.1 h) k (List.mem_range.2 hlt)
  rw [ho] at this
  dsimp only at this
  rw [hd] at this
  simp at this
  exact ⟨hlt, this⟩
/-- An operation whose guard lets it. -/
theorem wpOp_g {ops : Array Oper} {Q : Exit → Act → World → Prop} {P : Program} {i : Nat} {o : Oper} {K : Act → World → Prop} {a : Act} {w : World} {k : Nat} {b : Bool} (ho : ops[i]? = some o) (hg : o.guard = some (k, b)) (hy : yielded ops a.tmps k = some b) (h : o.wp P a w K Q) : wpOp P ops Q i K a w := by
  have hw : Region.wanted o (yielded ops a.tmps) = true := by simp [Region.wanted, hg, hy]
  unfold wpOp
  rw [ho]
  simp only [hw, if_true]
  exact .inl h
theorem yields_of {ops : Array Oper} {a : Act} {k d : Nat} {o : Oper} {b : Bool} (ho : ops[k]? = some o) (hd : o.dst = some d) (he : env a d = .bool b) (hl : d < a.tmps.size) : yielded ops a.tmps k = some b := by
  unfold yielded
  rw [ho]
  have e : a.tmps[d]? = some (.bool b) := by
    rw [Array.getElem?_eq_getElem hl]
    have := he
    simp [env, Act.eval, Array.getD, hl] at this
    rw [this]
  simp [hd, e]

/-! ### Operations -/
variable {o : Oper} {a : Act} {w : World} {K : Act → World → Prop}
theorem wp_val {v : Value} {w' : World} (h : (execOp a.eval o).run P w = .ok (.value v) w') (k : K (a.put o.dst v) w') : o.wp P a w K Q := by
  unfold Oper.wp
  rw [h]
  exact k
theorem wp_skip {w' : World} (h : (execOp a.eval o).run P w = .ok .skip w') (k : K (a.put o.dst undef) w') : o.wp P a w K Q := by
  unfold Oper.wp
  rw [h]
  exact k
theorem wp_enter {f : FuncId} {xs : Array Value} {w' : World} (h : (execOp a.eval o).run P w = .ok (.enter f xs) w') (k : Calls P f xs w' fun e w'' => ∃ v, e = .returned v ∧ K (a.put o.dst v) w'') : o.wp P a w K Q := by
  unfold Oper.wp
  rw [h]
  refine Calls.mono k ?_
  rintro e w'' ⟨v, rfl, hk⟩
  exact hk
end
/-- Blocks of different content are different. -/
theorem cells_ne {w : World} {g k : Nat} {t t' : TypeId} {cs cs' : Array Value} (h : Cells w g t cs) (h' : Cells w k t' cs') (hne : t ≠ t' ∨ cs.size ≠ cs'.size) : g ≠ k := by
  rintro rfl
  have e : some (Obj.cells cs t (0, 0)) = some (Obj.cells cs' t' (0, 0)) := (h.symm.trans h')
  injection e with e
  injection e with e1 e2
  subst e1
  subst e2
  rcases hne with z | z <;> exact z rfl
theorem own_cells {w : World} {base : Nat} {e : TypeId} {c : Nat} {v : Value} {n : Nat} {xs : List Value} (h : w.ownsRow base e c v n xs) {g : Nat} (hg : v.ownBlock = some g) : ∃ cs, Cells w g e cs := by
  rcases h.2 with ⟨rfl, _⟩ | ⟨k, cap, cur, rfl, _, hk, _⟩
  · cases hg
  · obtain rfl : k = g := by simpa [Value.ownBlock] using hg
    exact ⟨cur, hk⟩
/-- An own row is kept by a store into a block of another type. -/
theorem own_only {w w' : World} {base : Nat} {e : TypeId} {c : Nat} {v : Value} {n : Nat} {xs : List Value} (h : w.ownsRow base e c v n xs) {g : Nat} (o : Only w w' g) {t : TypeId} {cs : Array Value} (hg : Cells w g t cs) (hne : e ≠ t) : w'.ownsRow base e c v n xs := by
  rcases h.2 with h2 | ⟨k, cap, cur, rfl, hb, hk, hr⟩
  · exact ⟨h.1, .inl h2⟩
  · exact ⟨h.1, .inr ⟨k, cap, cur, rfl, hb, o.cells (hk : Cells w k e cur) (cells_ne hk hg (.inl hne)), hr⟩⟩
/-- append([]T{}, l...). -/
theorem app_empty {P : Program} {w : World} {e S ty : TypeId} {c bytes base g : Nat} (I : Inf P e S c bytes) (hg : Cells w g e #[]) (hb : base ≤ g)
    (A : Option Addr) (len cap : Nat) (xs : List Value) (B : Nat) (hr : RowG c B w A len xs) (hnil : A = none → cap = 0) (h1 : ∀ u ∈ xs, u.oneCell' = true) (hl : len ≤ 1000000) (hby : bytes ≤ 10000000) :
    ∃ v' w', (Builtin.append_ #[S, S] ty #[.slice (some ⟨g, 0, none⟩) 0 0, .slice A len cap]).run P w = .ok v' w' ∧ w'.ownsRow base e c v' len xs ∧ Below w.heap.size w w' := by
  have hgl := hg.lt
  obtain ⟨v', w', hrun, own', gr, -⟩ := run_app (ty := ty) I (own_emptyG (base := base) (c := c) hg hb) A len cap xs B hr hnil h1 (by omega) hby (by omega)
  refine ⟨v', w', hrun, by simpa using own', ?_⟩
  obtain ⟨z, hS, hin, hz, hc⟩ := I
  obtain ⟨i0, hi, hi0, hi1, hi2⟩ := info_parts hin
  refine ⟨gr.os, gr.tape, gr.output, gr.size, fun k hk => ?_⟩
  by_cases hkg : k = g
  · subst hkg
    cases A with
    | none =>
      obtain rfl : cap = 0 := hnil rfl
      have h0 : len = 0 := by
        rcases Nat.eq_zero_or_pos len with h0 | h0
        · exact h0
        · obtain ⟨p, e, _⟩ := hr.2 h0; cases e
      subst h0
      have q := run_append_owned_none (P := P) (w := w) base S ty e i0 c hS hi _ _ _ (own_emptyG (base := base) (c := c) hg hb)
      rw [q] at hrun
      injection hrun with _ hw
      rw [hw]
    | some p =>
      rcases Nat.eq_zero_or_pos len with h0 | h0
      · subst h0
        obtain rfl : xs = [] := List.length_eq_zero_iff.1 (by rw [hr.1]; simp)
        have q := run_append_room (P := P) w S ty e i0 hS hi k 0 0 #[] hg p 0 cap [] (by simp) (by simp) (by simp) (by simp) (by simp)
        rw [q] at hrun
        injection hrun with _ hw
        rw [← hw, setRow_heap w k #[] _ e (0, 0) hg]
        simpa using hg.symm
      · obtain ⟨p', ep, _, hcl⟩ := hr.2 h0
        injection ep with ep
        subst ep
        have q := run_append_grow (P := P) w S ty e i0 z hS hi hi0 ⟨k, 0, none⟩ 0 0 [] (by simp) (by simp) p len cap xs (by rw [hi1]; exact hr.1) hcl (by omega) (by omega) (by rw [hi2]; exact growslice_fits (by omega) (by have : (0 + len) * bytes ≤ 1000000 * 10000000 := Nat.mul_le_mul (by omega) hby; omega))
        rw [q] at hrun
        injection hrun with _ hw
        rw [← hw]
        exact (below_alloc w.drew _).block k hk
  · exact gr.block k hk (by simpa [Value.ownBlock] using hkg)
end Go.Proofs.Ytmfbnajaocaikaa
