/- A region that draws its order, by what holds between its operations (wip/lib): J says of the operations that have come up, the frame and the world what is so; each operation that may come up keeps it. No program in it. -/
import Derived.Orders
import Derived.OrdersHeld
import Derived.Great.Frames
import Derived.Test.YtmfbnajaocaikaaAppG
namespace Go.Proofs.Ytmfbnajaocaikaa
open Go.RowKit Go
set_option linter.unusedVariables false
set_option linter.unusedSimpArgs false

def cntF (L : Nat → Bool) : Nat → Nat
  | 0 => 0
  | n + 1 => cntF L n + (if L n then 0 else 1)
theorem cntF_congr {L M : Nat → Bool} : ∀ n, (∀ j, j < n → L j = M j) → cntF L n = cntF M n
  | 0, _ => rfl
  | n + 1, h => by
    unfold cntF
    rw [cntF_congr n (fun j hj => h j (by omega)), h n (by omega)]
theorem cntF_set {L : Nat → Bool} {i : Nat} (hi : L i = false) : ∀ n, i < n → cntF (fun j => j == i || L j) n + 1 = cntF L n
  | 0, h => by omega
  | n + 1, h => by
    unfold cntF
    rcases Nat.lt_or_ge i n with g | g
    · have := cntF_set hi n g
      have e : (n == i) = false := by simp; omega
      simp only [e, Bool.false_or]
      omega
    · obtain rfl : i = n := by omega
      rw [cntF_congr (L := fun j => j == i || L j) (M := L) i (fun j hj => by
        have e : (j == i) = false := by simp; omega
        simp only [e, Bool.false_or])]
      simp [hi]
theorem cntF_zero {L : Nat → Bool} : ∀ n, cntF L n = 0 → ∀ j, j < n → L j = true
  | 0, _, j, h => by omega
  | n + 1, h0, j, h => by
    unfold cntF at h0
    have hn : L n = true := by
      cases hL : L n with
      | true => rfl
      | false => rw [hL] at h0; simp at h0
    rcases Nat.lt_or_ge j n with g | g
    · exact cntF_zero n (by omega) j g
    · obtain rfl : j = n := by omega
      exact hn
theorem cntF_all : ∀ n, cntF (fun _ => false) n = n
  | 0 => rfl
  | n + 1 => by unfold cntF; rw [cntF_all n]; simp

section
variable {P : Program} {ops : Array Oper} {Q : Exit → Act → World → Prop} {J : (Nat → Bool) → Act → World → Prop}
theorem wpAny_inv (dep : ∀ (i : Nat) (o : Oper), ops[i]? = some o → ∀ e ∈ o.after, Region.binds .any e = true → e.on < i)
    (step : ∀ L a w (i : Nat) (o : Oper), J L a w → ops[i]? = some o → L i = false → (∀ e ∈ o.after, Region.binds .any e = true → L e.on = true) → wpOp P ops Q i (J fun j => j == i || L j) a w)
    (fin : ∀ L a w, J L a w → (∀ i, i < ops.size → L i = true) → Q .normal a w) :
    ∀ (fuel : Nat) (listed : Array Bool) (a : Act) (w : World), listed.size = ops.size → J (fun j => listed.getD j false) a w → cntF (fun j => listed.getD j false) ops.size ≤ fuel → wpAny P .any ops Q fuel listed a w := by
  intro fuel
  induction fuel with
  | zero =>
    intro listed a w hs hJ hc
    have all := cntF_zero ops.size (by omega : cntF (fun j => listed.getD j false) ops.size = 0)
    refine ⟨?_, fin _ a w hJ all⟩
    rw [List.eq_nil_iff_forall_not_mem]
    intro j hj
    obtain ⟨h1, o, ho, _⟩ := mem_ready.1 hj
    have hlt : j < ops.size := (Array.getElem?_eq_some_iff.1 ho).1
    have := all j hlt
    simp [Array.getD, hs, hlt] at h1 this
    rw [h1] at this
    cases this
  | succ fuel ih =>
    intro listed a w hs hJ hc
    refine ⟨fun hr => ?_, fun i hi => ?_⟩
    · refine fin _ a w hJ (fun i => ?_)
      induction i using Nat.strongRecOn with
      | ind i ihi =>
        intro hlt
        cases hL : listed.getD i false with
        | true => rfl
        | false =>
          exfalso
          obtain ⟨o, ho⟩ : ∃ o, ops[i]? = some o := ⟨ops[i], Array.getElem?_eq_getElem hlt⟩
          have : i ∈ Region.ready .any ops listed := mem_ready.2 ⟨by simp [Array.getD, hs, hlt] at hL ⊢; exact hL, o, ho, fun e he hb => ihi e.on (dep i o ho e he hb) (Nat.lt_trans (dep i o ho e he hb) hlt)⟩
          rw [hr] at this
          cases this
    · obtain ⟨h1, o, ho, hall⟩ := mem_ready.1 hi
      have hlt : i < ops.size := (Array.getElem?_eq_some_iff.1 ho).1
      have hL : listed.getD i false = false := by simp [Array.getD, hs, hlt] at h1 ⊢; exact h1
      have e : (fun j => (listed.setIfInBounds i true).getD j false) = fun j => j == i || listed.getD j false := by
        funext j
        by_cases hj : j = i
        · subst hj
          simp [Array.getD, hs, hlt]
        · have hb : (j == i) = false := by simp [hj]
          rw [hb, Bool.false_or]
          simp only [Array.getD_eq_getD_getElem?]
          rw [Array.getElem?_setIfInBounds_ne (Ne.symm hj)]
      refine wpOp_mono (fun a' w' h => ih _ a' w' (by simp [hs]) (by rw [e]; exact h) ?_) (step _ a w i o hJ ho hL hall)
      rw [e]
      have := cntF_set (L := fun j => listed.getD j false) hL ops.size hlt
      omega
theorem wp_region_inv {id : Nat} {a : Act} {w : World} (hm : P.follows .mixedOrders = true) (dep : ∀ (i : Nat) (o : Oper), ops[i]? = some o → ∀ e ∈ o.after, Region.binds .any e = true → e.on < i)
    (h0 : J (fun _ => false) a w.drew)
    (step : ∀ L a w (i : Nat) (o : Oper), J L a w → ops[i]? = some o → L i = false → (∀ e ∈ o.after, Region.binds .any e = true → L e.on = true) → wpOp P ops Q i (J fun j => j == i || L j) a w)
    (fin : ∀ L a w, J L a w → (∀ i, i < ops.size → L i = true) → Q .normal a w) : (Code.region id ops true).wp P Q a w := by
  have e : (fun j => (Array.replicate ops.size false).getD j false) = fun _ => false := by
    funext j
    simp only [Array.getD_eq_getD_getElem?, Array.getElem?_replicate]
    split <;> rfl
  refine wp_region_any hm (wpAny_inv dep step fin ops.size _ a _ (by simp) (by rw [e]; exact h0) ?_)
  rw [e, cntF_all]
  exact Nat.le_refl _
/-- An operation with no guard. -/
theorem wpOp_of {i : Nat} {o : Oper} {K : Act → World → Prop} {a : Act} {w : World} (ho : ops[i]? = some o) (hg : o.guard = none) (h : o.wp P a w K Q) : wpOp P ops Q i K a w := by
  have hw : Region.wanted o (yielded ops a.tmps) = true := by simp [Region.wanted, hg]
  unfold wpOp
  rw [ho]
  simp only [hw, if_true]
  exact .inl h
end
theorem dep_of {ops : Array Oper} (h : ((List.range ops.size).all fun i => match ops[i]? with | some o => o.after.all (fun e => !Region.binds .any e || decide (e.on < i)) | none => true) = true) :
    ∀ (i : Nat) (o : Oper), ops[i]? = some o → ∀ e ∈ o.after, Region.binds .any e = true → e.on < i := by
  intro i o ho e he hb
  have hlt : i < ops.size := (Array.getElem?_eq_some_iff.1 ho).1
  have := (List.all_eq_true.1 h) i (List.mem_range.2 hlt)
  rw [ho] at this
  have k := (Array.all_eq_true_iff_forall_mem.1 this) e he
  simpa [hb] using k
end Go.Proofs.Ytmfbnajaocaikaa
