/- Layer 4: append of a slice of bytes (or of integers) behind what the call owns. -/
import Derived.Deep.RegionLaw
import Derived.Test.YtmfbnajaocaikaaCRef
namespace Go.Proofs.Ytmfbnajaocaikaa
open Go.RowKit Go.Sort Go
set_option linter.unusedVariables false

theorem Row8.news {B : Nat} {w : World} {p : Addr} {m : Nat} {cs : List UInt8} (h : Row8 B w (some p) m cs) : ∀ j u, (Lib.byteCells cs)[j]? = some u → w.cell? (p.add j) = some u := by
  intro j u hj
  have hl : j < cs.length := by
    have := (List.getElem?_eq_some_iff.1 hj).1
    rwa [Lib.byteCells_length] at this
  obtain ⟨q, e, _, hc⟩ := h.2 (by have := h.1; omega)
  injection e with e
  subst e
  rw [hc j (by have := h.1; omega), ← hj]
  simp [Lib.byteCells, List.getD, hl]

theorem intCells_length (zs : List Int) : (intCells zs).length = zs.length := by simp [intCells]
theorem intCells_one (zs : List Int) : ∀ u ∈ intCells zs, u.oneCell' = true := by
  intro u hu
  simp only [intCells, List.mem_map] at hu
  obtain ⟨b, _, rfl⟩ := hu
  rfl
theorem intCells_append (a b : List Int) : intCells (a ++ b) = intCells a ++ intCells b := by simp [intCells]

theorem RowI.news {B : Nat} {w : World} {p : Addr} {m : Nat} {cs : List Int} (h : RowI B w (some p) m cs) : ∀ j u, (intCells cs)[j]? = some u → w.cell? (p.add j) = some u := by
  intro j u hj
  have hl : j < cs.length := by
    have := (List.getElem?_eq_some_iff.1 hj).1
    rwa [intCells_length] at this
  obtain ⟨q, e, _, hc⟩ := h.2.1 (by have := h.1; omega)
  injection e with e
  subst e
  rw [hc j (by have := h.1; omega), ← hj]
  simp [intCells, List.getD, hl]

section
variable {ops : Array Oper} {rest : List Oper} {o : Oper} {a : Act} {Q : Exit → Act → World → Prop} {w : World} {K : Act → World → Prop} {E : Prop}

theorem wp_app8 (s x : Operand) (ho : o.op = .call { callee := .builtin .append, args := #[s, x], argTypes := #[31, 31] })
    (B : Nat) (v : Value) (bs : List UInt8) (hs : a.eval s = v) (hown : Own B w v bs) (A : Option Addr) (m cap R : Nat) (cs : List UInt8) (hx : a.eval x = .slice A m cap) (hnil : A = none → cap = 0) (hrow : Row8 R w A m cs)
    (hlen : bs.length + m ≤ 1000000000) (hB : B ≤ w.heap.size)
    (h : ∀ v' w', Own B w' v' (bs ++ cs) → w.grownBy w' v.ownBlock → K (a.put o.dst v') w') : Oper.wp Try.prog o a w K Q := by
  obtain ⟨i0, hi, hz0, hz1, hz2⟩ := info_parts info_u8
  cases A with
  | none =>
    obtain rfl : cap = 0 := hnil rfl
    have h0 : m = 0 := by
      rcases Nat.eq_zero_or_pos m with h0 | h0
      · exact h0
      · obtain ⟨p, e, _⟩ := hrow.2 h0; cases e
    subst h0
    obtain rfl : cs = [] := List.length_eq_zero_iff.1 hrow.1
    have hrun := run_append_owned_none (P := Try.prog) (w := w) B 31 o.type 5 i0 1 Try.underlying31 hi _ _ _ hown
    unfold Oper.wp
    simp [execOp, ho, resolve, invoke, builtin, hs, hx, hrun, Result.andThen]
    exact h _ _ (by rw [List.append_nil]; exact hown) ⟨rfl, rfl, rfl, Nat.le_refl _, fun _ _ _ => rfl⟩
  | some p =>
    refine wp_append_own w s x 31 ho B 5 i0 (.int .u8 0) 1 1 Try.underlying31 hi hz0 hz1 hz2 rfl (by decide) v bs.length (Lib.byteCells bs) hs hown p m cap (Lib.byteCells cs) hx (by rw [Lib.byteCells_length, hrow.1, Nat.mul_one]) hrow.news (byteCells_one' _) (by unfold maxLen; omega) (by omega) hB ?_
    intro v' w' h1 h2 _
    refine h v' w' ?_ h2
    unfold Own
    rw [Lib.byteCells_append, List.length_append, hrow.1]
    exact h1

theorem wpList_app8 (hgd : o.guard = none) (s x : Operand) (ho : o.op = .call { callee := .builtin .append, args := #[s, x], argTypes := #[31, 31] })
    (B : Nat) (v : Value) (bs : List UInt8) (hs : a.eval s = v) (hown : Own B w v bs) (A : Option Addr) (m cap R : Nat) (cs : List UInt8) (hx : a.eval x = .slice A m cap) (hnil : A = none → cap = 0) (hrow : Row8 R w A m cs)
    (hlen : bs.length + m ≤ 1000000000) (hB : B ≤ w.heap.size)
    (h : ∀ v' w', Own B w' v' (bs ++ cs) → w.grownBy w' v.ownBlock → wpList Try.prog ops Q rest (a.put o.dst v') w') : wpList Try.prog ops Q (o :: rest) a w :=
  wpList_plain hgd fun _ hK => wp_app8 s x ho B v bs hs hown A m cap R cs hx hnil hrow hlen hB fun v' w' h1 h2 => hK _ _ (h v' w' h1 h2)

/-- The same where the operation is guarded, and wanted. -/
theorem wpList_app8w (s x : Operand) (ho : o.op = .call { callee := .builtin .append, args := #[s, x], argTypes := #[31, 31] })
    (hw : Region.wanted o (yielded ops a.tmps) = true)
    (B : Nat) (v : Value) (bs : List UInt8) (hs : a.eval s = v) (hown : Own B w v bs) (A : Option Addr) (m cap R : Nat) (cs : List UInt8) (hx : a.eval x = .slice A m cap) (hnil : A = none → cap = 0) (hrow : Row8 R w A m cs)
    (hlen : bs.length + m ≤ 1000000000) (hB : B ≤ w.heap.size)
    (h : ∀ v' w', Own B w' v' (bs ++ cs) → w.grownBy w' v.ownBlock → wpList Try.prog ops Q rest (a.put o.dst v') w') : wpList Try.prog ops Q (o :: rest) a w :=
  wpList_step fun K hK => by
    rw [if_pos hw]
    exact wp_app8 s x ho B v bs hs hown A m cap R cs hx hnil hrow hlen hB fun v' w' h1 h2 => hK _ _ (h v' w' h1 h2)

theorem step_app8 (hgd : o.guard = none) (s x : Operand) (ho : o.op = .call { callee := .builtin .append, args := #[s, x], argTypes := #[31, 31] })
    (B : Nat) (v : Value) (bs : List UInt8) (hs : a.eval s = v) (hown : Own B w v bs) (A : Option Addr) (m cap R : Nat) (cs : List UInt8) (hx : a.eval x = .slice A m cap) (hnil : A = none → cap = 0) (hrow : Row8 R w A m cs)
    (hlen : bs.length + m ≤ 1000000000) (hB : B ≤ w.heap.size)
    (h : ∀ v' w', Own B w' v' (bs ++ cs) → w.grownBy w' v.ownBlock → K (a.put o.dst v') w') :
    if Region.wanted o (yielded ops a.tmps) = true then Oper.wp Try.prog o a w K Q else E := by
  have hw : Region.wanted o (yielded ops a.tmps) = true := by simp [Region.wanted, hgd]
  rw [if_pos hw]
  exact wp_app8 s x ho B v bs hs hown A m cap R cs hx hnil hrow hlen hB h

theorem wp_appI (s x : Operand) (ho : o.op = .call { callee := .builtin .append, args := #[s, x], argTypes := #[62, 62] })
    (B : Nat) (v : Value) (bs : List Int) (hs : a.eval s = v) (hown : OwnI B w v bs) (A : Option Addr) (m cap R : Nat) (cs : List Int) (hx : a.eval x = .slice A m cap) (hnil : A = none → cap = 0) (hrow : RowI R w A m cs)
    (hlen : bs.length + m ≤ 1000000000) (hB : B ≤ w.heap.size)
    (h : ∀ v' w', OwnI B w' v' (bs ++ cs) → w.grownBy w' v.ownBlock → K (a.put o.dst v') w') : Oper.wp Try.prog o a w K Q := by
  obtain ⟨i0, hi, hz0, hz1, hz2⟩ := info_parts info_int
  cases A with
  | none =>
    obtain rfl : cap = 0 := hnil rfl
    have h0 : m = 0 := by
      rcases Nat.eq_zero_or_pos m with h0 | h0
      · exact h0
      · obtain ⟨p, e, _⟩ := hrow.2.1 h0; cases e
    subst h0
    obtain rfl : cs = [] := List.length_eq_zero_iff.1 hrow.1
    have hrun := run_append_owned_none (P := Try.prog) (w := w) B 62 o.type 3 i0 1 Try.underlying62 hi _ _ _ hown
    unfold Oper.wp
    simp [execOp, ho, resolve, invoke, builtin, hs, hx, hrun, Result.andThen]
    exact h _ _ (by rw [List.append_nil]; exact hown) ⟨rfl, rfl, rfl, Nat.le_refl _, fun _ _ _ => rfl⟩
  | some p =>
    refine wp_append_own w s x 62 ho B 3 i0 (.int .i64 0) 1 8 Try.underlying62 hi hz0 hz1 hz2 rfl (by decide) v bs.length (intCells bs) hs hown p m cap (intCells cs) hx (by rw [intCells_length, hrow.1, Nat.mul_one]) hrow.news (intCells_one _) (by unfold maxLen; omega) (by omega) hB ?_
    intro v' w' h1 h2 _
    refine h v' w' ?_ h2
    unfold OwnI
    rw [intCells_append, List.length_append, hrow.1]
    exact h1

theorem wpList_appI (hgd : o.guard = none) (s x : Operand) (ho : o.op = .call { callee := .builtin .append, args := #[s, x], argTypes := #[62, 62] })
    (B : Nat) (v : Value) (bs : List Int) (hs : a.eval s = v) (hown : OwnI B w v bs) (A : Option Addr) (m cap R : Nat) (cs : List Int) (hx : a.eval x = .slice A m cap) (hnil : A = none → cap = 0) (hrow : RowI R w A m cs)
    (hlen : bs.length + m ≤ 1000000000) (hB : B ≤ w.heap.size)
    (h : ∀ v' w', OwnI B w' v' (bs ++ cs) → w.grownBy w' v.ownBlock → wpList Try.prog ops Q rest (a.put o.dst v') w') : wpList Try.prog ops Q (o :: rest) a w :=
  wpList_plain hgd fun _ hK => wp_appI s x ho B v bs hs hown A m cap R cs hx hnil hrow hlen hB fun v' w' h1 h2 => hK _ _ (h v' w' h1 h2)

/-- The same where the operation is guarded, and wanted. -/
theorem wpList_appIw (s x : Operand) (ho : o.op = .call { callee := .builtin .append, args := #[s, x], argTypes := #[62, 62] })
    (hw : Region.wanted o (yielded ops a.tmps) = true)
    (B : Nat) (v : Value) (bs : List Int) (hs : a.eval s = v) (hown : OwnI B w v bs) (A : Option Addr) (m cap R : Nat) (cs : List Int) (hx : a.eval x = .slice A m cap) (hnil : A = none → cap = 0) (hrow : RowI R w A m cs)
    (hlen : bs.length + m ≤ 1000000000) (hB : B ≤ w.heap.size)
    (h : ∀ v' w', OwnI B w' v' (bs ++ cs) → w.grownBy w' v.ownBlock → wpList Try.prog ops Q rest (a.put o.dst v') w') : wpList Try.prog ops Q (o :: rest) a w :=
  wpList_step fun K hK => by
    rw [if_pos hw]
    exact wp_appI s x ho B v bs hs hown A m cap R cs hx hnil hrow hlen hB fun v' w' h1 h2 => hK _ _ (h v' w' h1 h2)

theorem step_appI (hgd : o.guard = none) (s x : Operand) (ho : o.op = .call { callee := .builtin .append, args := #[s, x], argTypes := #[62, 62] })
    (B : Nat) (v : Value) (bs : List Int) (hs : a.eval s = v) (hown : OwnI B w v bs) (A : Option Addr) (m cap R : Nat) (cs : List Int) (hx : a.eval x = .slice A m cap) (hnil : A = none → cap = 0) (hrow : RowI R w A m cs)
    (hlen : bs.length + m ≤ 1000000000) (hB : B ≤ w.heap.size)
    (h : ∀ v' w', OwnI B w' v' (bs ++ cs) → w.grownBy w' v.ownBlock → K (a.put o.dst v') w') :
    if Region.wanted o (yielded ops a.tmps) = true then Oper.wp Try.prog o a w K Q else E := by
  have hw : Region.wanted o (yielded ops a.tmps) = true := by simp [Region.wanted, hgd]
  rw [if_pos hw]
  exact wp_appI s x ho B v bs hs hown A m cap R cs hx hnil hrow hlen hB h
end

theorem own_grown {w w' : World} {B : Nat} {v : Value} {bs : List UInt8} (h : Own B w v bs) : ∀ k, v.ownBlock = some k → B ≤ k := fun k ek => (World.ownsRow.lt h k ek).1
theorem ownI_grown {w w' : World} {B : Nat} {v : Value} {bs : List Int} (h : OwnI B w v bs) : ∀ k, v.ownBlock = some k → B ≤ k := fun k ek => (World.ownsRow.lt h k ek).1

end Go.Proofs.Ytmfbnajaocaikaa
