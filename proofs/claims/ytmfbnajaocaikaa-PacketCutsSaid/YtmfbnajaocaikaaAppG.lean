/- Appends to a slice that the call owns, of elements of any type of so many cells (wip/lib): append([]T{}, l...) and append(.., v), also in a drawn region. No program in it. -/
import Derived.Deep.RegionHeld3
import Derived.Laws.OwnMore
import Derived.Laws.AppendOwn
import Derived.Test.YtmfbnajaocaikaaBase
namespace Go.Proofs.Ytmfbnajaocaikaa
open Go.RowKit Go
set_option linter.unusedVariables false
set_option linter.unusedSimpArgs false

/-- A slice holds these cells, c to each element. -/
def RowG (c B : Nat) (w : World) (A : Option Addr) (len : Nat) (xs : List Value) : Prop :=
  xs.length = len * c ∧ (0 < len → ∃ p : Addr, A = some p ∧ p.block < B ∧ ∀ j u, xs[j]? = some u → w.cell? (p.add j) = some u)
theorem RowG.below {c B : Nat} {w w' : World} {A : Option Addr} {len : Nat} {xs : List Value} (h : RowG c B w A len xs) (hb : Below B w w') : RowG c B w' A len xs :=
  ⟨h.1, fun hn => by
    obtain ⟨p, e, hp, hc⟩ := h.2 hn
    exact ⟨p, e, hp, fun j u hj => (hb.cell (by rw [block_of_add]; exact hp)).trans (hc j u hj)⟩⟩
theorem RowG.more {c B B' : Nat} {w : World} {A : Option Addr} {len : Nat} {xs : List Value} (h : RowG c B w A len xs) (hb : B ≤ B') : RowG c B' w A len xs :=
  ⟨h.1, fun hn => by
    obtain ⟨p, e, hp, hc⟩ := h.2 hn
    exact ⟨p, e, Nat.lt_of_lt_of_le hp hb, hc⟩⟩
/-- Of the type e: c cells, so many bytes; S is the slice of it. -/
def Inf (P : Program) (e S : TypeId) (c bytes : Nat) : Prop := ∃ z : Value, P.underlying S = some (.slice e) ∧ (P.info? e).map (fun i => (i.zero, i.size, i.bytes)) = some (some z, c, bytes) ∧ z.cells.size = c ∧ 0 < c
theorem own_emptyG {w : World} {g base c : Nat} {e : TypeId} (h : w.heap[g]? = some (.cells #[] e (0, 0))) (hb : base ≤ g) : w.ownsRow base e c (.slice (some ⟨g, 0, none⟩) 0 0) 0 [] :=
  ⟨by simp, .inr ⟨g, 0, #[], rfl, hb, h, Nat.le_refl _, by unfold maxLen; omega, by simp, by simp⟩⟩
theorem addr_add (g j : Nat) : (⟨g, 0, none⟩ : Addr).add j = ⟨g, j, none⟩ := by simp [Addr.add]; omega

/-- Where the row lies behind an append: where it lay, or in a new block. -/
theorem app_where {P : Program} {w w' : World} {e S ty : TypeId} {c bytes base : Nat} (I : Inf P e S c bytes) {v v' : Value} {n : Nat} {ys : List Value} (hown : w.ownsRow base e c v n ys)
    (A : Option Addr) (len cap : Nat) (xs : List Value) (B : Nat) (hr : RowG c B w A len xs) (hnil : A = none → cap = 0) (h1 : ∀ u ∈ xs, u.oneCell' = true) (hl : n + len ≤ 1000000) (hby : bytes ≤ 10000000) (hbase : base ≤ w.heap.size)
    (hrun : (Builtin.append_ #[S, S] ty #[v, .slice A len cap]).run P w = .ok v' w') : v'.ownBlock = v.ownBlock ∨ v'.ownBlock = some w.heap.size := by
  obtain ⟨z, hS, hin, hz, hc⟩ := I
  obtain ⟨i0, hi, hi0, hi1, hi2⟩ := info_parts hin
  have hb : (n + len) * bytes ≤ 140737488355328 := by
    have : (n + len) * bytes ≤ 1000000 * 10000000 := Nat.mul_le_mul hl hby
    omega
  have hcell : ∃ p : Option Addr, p = A ∧ (len = 0 ∨ ∃ q, p = some q ∧ ∀ j u, xs[j]? = some u → w.cell? (q.add j) = some u) := by
    rcases Nat.eq_zero_or_pos len with h0 | h0
    · exact ⟨A, rfl, .inl h0⟩
    · obtain ⟨p, e, _, h⟩ := hr.2 h0
      exact ⟨A, rfl, .inr ⟨p, e, h⟩⟩
  cases A with
  | none =>
    obtain rfl : cap = 0 := hnil rfl
    have h0 : len = 0 := by
      rcases Nat.eq_zero_or_pos len with h0 | h0
      · exact h0
      · obtain ⟨p, e, _⟩ := hr.2 h0; cases e
    subst h0
    have k := run_append_owned_none (P := P) (w := w) base S ty e i0 c hS hi _ _ _ hown
    rw [k] at hrun
    injection hrun with h _
    exact .inl (by rw [h])
  | some p =>
    have hcl : ∀ j u, xs[j]? = some u → w.cell? (p.add j) = some u := by
      obtain ⟨_, rfl, h | ⟨q, e, h⟩⟩ := hcell
      · subst h
        obtain rfl : xs = [] := List.length_eq_zero_iff.1 (by rw [hr.1]; simp)
        intro j u hj
        simp at hj
      · injection e with e
        subst e
        exact h
    rcases hown.2 with ⟨rfl, rfl⟩ | ⟨g, cp, cur, rfl, _, hg, hnc, hcm, hcs, _⟩
    · rcases Nat.eq_zero_or_pos len with h0 | h0
      · subst h0
        obtain rfl : xs = [] := List.length_eq_zero_iff.1 (by rw [hr.1]; simp)
        obtain ⟨v1, w1, k, hk, _, h4⟩ := run_append_own (P := P) w base S ty e i0 z c bytes hS hi hi0 hi1 hi2 hz hc _ _ _ hown p 0 cap [] (by simp) (by simp) (by simp) (by unfold maxLen; omega) (by simp) hbase
        rw [k] at hrun
        injection hrun with h _
        rw [← h, h4.2 ⟨rfl, rfl⟩]
        exact .inl rfl
      · have k := run_append_nil (P := P) w S ty e i0 z hS hi hi0 p len cap xs (by rw [hi1]; exact hr.1) hcl (by omega) (by omega) (by rw [hi2]; simp at hb; omega)
        rw [k] at hrun
        injection hrun with h _
        rw [← h]
        exact .inr rfl
    · by_cases hroom : n + len ≤ cp
      · have k := run_append_room (P := P) w S ty e i0 hS hi g n cp cur hg p len cap xs (by rw [hi1]; exact hr.1) hcl h1 hroom (by rw [hi1, hr.1, hcs, ← Nat.add_mul]; exact Nat.mul_le_mul_right _ hroom)
        rw [k] at hrun
        injection hrun with h _
        rw [← h]
        exact .inl rfl
      · have k := run_append_grow (P := P) w S ty e i0 z hS hi hi0 ⟨g, 0, none⟩ n cp ys (by rw [hi1]; exact hown.1) (hown.cells (g := g) rfl) p len cap xs (by rw [hi1]; exact hr.1) hcl (by omega) (by omega) (by rw [hi2]; exact growslice_fits (by omega) hb)
        rw [k] at hrun
        injection hrun with h _
        rw [← h]
        exact .inr rfl
theorem run_app {P : Program} {w : World} {e S ty : TypeId} {c bytes base : Nat} (I : Inf P e S c bytes) {v : Value} {n : Nat} {ys : List Value} (hown : w.ownsRow base e c v n ys)
    (A : Option Addr) (len cap : Nat) (xs : List Value) (B : Nat) (hr : RowG c B w A len xs) (hnil : A = none → cap = 0) (h1 : ∀ u ∈ xs, u.oneCell' = true) (hl : n + len ≤ 1000000) (hby : bytes ≤ 10000000) (hbase : base ≤ w.heap.size) :
    ∃ v' w', (Builtin.append_ #[S, S] ty #[v, .slice A len cap]).run P w = .ok v' w' ∧ w'.ownsRow base e c v' (n + len) (ys ++ xs) ∧ w.grownBy w' v.ownBlock ∧ (v'.ownBlock = v.ownBlock ∨ v'.ownBlock = some w.heap.size) := by
  have I' := I
  obtain ⟨z, hS, hin, hz, hc⟩ := I
  obtain ⟨i0, hi, hi0, hi1, hi2⟩ := info_parts hin
  cases A with
  | none =>
    obtain rfl : cap = 0 := hnil rfl
    have h0 : len = 0 := by
      rcases Nat.eq_zero_or_pos len with h0 | h0
      · exact h0
      · obtain ⟨p, e, _⟩ := hr.2 h0; cases e
    subst h0
    obtain rfl : xs = [] := List.length_eq_zero_iff.1 (by rw [hr.1]; simp)
    exact ⟨v, w, run_append_owned_none (P := P) (w := w) base S ty e i0 c hS hi _ _ _ hown, by rw [List.append_nil]; exact hown, ⟨rfl, rfl, rfl, Nat.le_refl _, fun _ _ _ => rfl⟩, .inl rfl⟩
  | some p =>
    have hb : (n + len) * bytes ≤ 140737488355328 := by
      have : (n + len) * bytes ≤ 1000000 * 10000000 := Nat.mul_le_mul hl hby
      omega
    have hcl : ∀ j u, xs[j]? = some u → w.cell? (p.add j) = some u := by
      rcases Nat.eq_zero_or_pos len with h0 | h0
      · subst h0
        obtain rfl : xs = [] := List.length_eq_zero_iff.1 (by rw [hr.1]; simp)
        intro j u hj
        simp at hj
      · obtain ⟨p', ep, _, h⟩ := hr.2 h0
        injection ep with ep
        subst ep
        exact h
    obtain ⟨v', w', k, h2, h3, _⟩ := run_append_own (P := P) w base S ty e i0 z c bytes hS hi hi0 hi1 hi2 hz hc v n ys hown p len cap xs hr.1 hcl h1 (by unfold maxLen; omega) hb hbase
    exact ⟨v', w', k, h2, h3, app_where I' hown (some p) len cap xs B hr hnil h1 hl hby hbase k⟩
section
variable {P : Program} {ops : Array Oper} {o : Oper} {a : Act} {K : Act → World → Prop} {Q : Exit → Act → World → Prop} {E : Prop} {w : World} {e S : TypeId} {c bytes : Nat}
theorem wp_app_list (I : Inf P e S c bytes) (s x : Operand) (ho : o.op = .call { callee := .builtin .append, args := #[s, x], argTypes := #[S, S] })
    (base : Nat) (v : Value) (n : Nat) (ys : List Value) (hs : a.eval s = v) (hown : w.ownsRow base e c v n ys)
    (A : Option Addr) (len cap : Nat) (xs : List Value) (hx : a.eval x = .slice A len cap) (B : Nat) (hr : RowG c B w A len xs) (hnil : A = none → cap = 0) (h1 : ∀ u ∈ xs, u.oneCell' = true)
    (hl : n + len ≤ 1000000) (hby : bytes ≤ 10000000) (hbase : base ≤ w.heap.size)
    (h : ∀ v' w', w'.ownsRow base e c v' (n + len) (ys ++ xs) → w.grownBy w' v.ownBlock → (v'.ownBlock = v.ownBlock ∨ v'.ownBlock = some w.heap.size) → K (a.put o.dst v') w') : o.wp P a w K Q := by
  obtain ⟨v', w', hr, h2, h3, h4⟩ := run_app (ty := o.type) I hown A len cap xs B hr hnil h1 hl hby hbase
  unfold Oper.wp execOp
  simp only [ho, resolve, invoke, builtin, Sem.run_bind, Sem.run_pure, Result.andThen_ok, List.map_toArray, List.map_cons, List.map_nil, hs, hx, hr]
  exact h v' w' h2 h3 h4
/-- append(.., l...) where the operations of a drawn region are guarded. -/
theorem step_appG (I : Inf P e S c bytes) (hgd : o.guard = none) (s x : Operand) (ho : o.op = .call { callee := .builtin .append, args := #[s, x], argTypes := #[S, S] })
    (base : Nat) (v : Value) (n : Nat) (ys : List Value) (hs : a.eval s = v) (hown : w.ownsRow base e c v n ys)
    (A : Option Addr) (len cap : Nat) (xs : List Value) (hx : a.eval x = .slice A len cap) (B : Nat) (hr : RowG c B w A len xs) (hnil : A = none → cap = 0) (h1 : ∀ u ∈ xs, u.oneCell' = true)
    (hl : n + len ≤ 1000000) (hby : bytes ≤ 10000000) (hbase : base ≤ w.heap.size)
    (h : ∀ v' w', w'.ownsRow base e c v' (n + len) (ys ++ xs) → w.grownBy w' v.ownBlock → (v'.ownBlock = v.ownBlock ∨ v'.ownBlock = some w.heap.size) → K (a.put o.dst v') w') :
    if Region.wanted o (yielded ops a.tmps) = true then Oper.wp P o a w K Q else E := by
  have hw : Region.wanted o (yielded ops a.tmps) = true := by simp [Region.wanted, hgd]
  rw [if_pos hw]
  exact wp_app_list I s x ho base v n ys hs hown A len cap xs hx B hr hnil h1 hl hby hbase h
end
/-- A block that holds just these cells is such a row. -/
theorem rowG_new {w : World} {g : Nat} {e : TypeId} {c n : Nat} {xs : List Value} (h : w.heap[g]? = some (.cells xs.toArray e (0, 0))) (hl : xs.length = n * c) : RowG c w.heap.size w (some ⟨g, 0, none⟩) n xs :=
  ⟨hl, fun _ => ⟨_, rfl, Cells.lt (cs := xs.toArray) h, fun j u hj => by
    rw [addr_add, cell_of_row _ _ j _ e (0, 0) h]
    simpa using hj⟩⟩
theorem rowG_own {w : World} {base : Nat} {e : TypeId} {c : Nat} {v : Value} {n : Nat} {xs : List Value} (h : w.ownsRow base e c v n xs) :
    ∃ A cap, v = .slice A n cap ∧ n ≤ cap ∧ cap ≤ 9223372036854775807 ∧ (A = none → cap = 0) ∧ RowG c w.heap.size w A n xs := by
  rcases h.2 with ⟨rfl, h0⟩ | ⟨g, cap, cur, rfl, _, hg, hn, hm, _⟩
  · subst h0
    exact ⟨none, 0, rfl, Nat.le_refl _, by omega, fun _ => rfl, h.1, fun hn => absurd hn (by omega)⟩
  · refine ⟨_, cap, rfl, hn, by unfold maxLen at hm; omega, (by simp), h.1, fun hn => ⟨_, rfl, Cells.lt (cs := cur) hg, fun j u hj => ?_⟩⟩
    have hlt : j < n * c := by rw [← h.1]; exact (List.getElem?_eq_some_iff.1 hj).1
    rw [addr_add, h.cellAt j hlt]
    exact hj
end Go.Proofs.Ytmfbnajaocaikaa
