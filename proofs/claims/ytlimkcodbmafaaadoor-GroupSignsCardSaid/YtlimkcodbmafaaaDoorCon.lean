/- Layer 6: what package group's functions are to return, as one bundle: the laws are walked over it. What the reference returns, in the same words. -/
import Derived.Test.YtlimkcodbmafaaaDoorRVer
namespace Go.Proofs.YtlimkcodbmafaaaDoor
open Go.RowKit Go.Sort Go
set_option linter.unusedVariables false
set_option linter.unusedSimpArgs false

/-- An integer of 64 bits. -/
def I64 (x : Int) : Prop := -9223372036854775808 ≤ x ∧ x ≤ 9223372036854775807

structure Grp : Prop where
  mem : ∀ (a : Int) (q : Bool), (q = true ↔ ElI a) → I64 a → ∀ w, Calls Tryd.prog 13 #[.int .i64 a] w (Gives (.bool q) w)
  mul : ∀ a b : Int, I64 a → I64 b → ∀ w, Calls Tryd.prog 11 #[.int .i64 a, .int .i64 b] w (Gives (.tuple #[.int .i64 (mulR a b).1, .int .i64 (mulR a b).2]) w)
  exp : ∀ a x : Int, I64 a → I64 x → ∀ w, Calls Tryd.prog 15 #[.int .i64 a, .int .i64 x] w (Gives (.tuple #[.int .i64 (expR a x).1, .int .i64 (expR a x).2]) w)
  sign : ∀ k o : Int, I64 k → I64 o → ∀ (A : Option Addr) (n cap : Nat) (zs : List Int) (w : World), RowI w.heap.size w A n zs → n ≤ 100 → (A = none → cap = 0) → Tab w →
    Calls Tryd.prog 17 #[.int .i64 k, .int .i64 o, .slice A n cap] w (Gives (.tuple #[sgV (signR k o zs).1 (signR k o zs).2.1, .int .i64 (signR k o zs).2.2]) w)
  ver : ∀ p c s : Int, I64 p → I64 c → I64 s → ∀ (A : Option Addr) (n cap : Nat) (zs : List Int) (w : World), RowI w.heap.size w A n zs → n ≤ 100 → (A = none → cap = 0) → Tab w →
    Calls Tryd.prog 19 #[.int .i64 p, sgV c s, .slice A n cap] w (Gives (.tuple #[.bool (verR p c s zs).1, .int .i64 (verR p c s zs).2]) w)

theorem rsign_any (k o : Int) (hk : I64 k) (ho : I64 o) (A : Option Addr) (n cap : Nat) (zs : List Int) (w : World) (hr : RowI w.heap.size w A n zs) (hl : n ≤ 100) (hn : A = none → cap = 0) :
    Calls Tryd.prog 18 #[.int .i64 k, .int .i64 o, .slice A n cap] w (Gives (.tuple #[sgV (signR k o zs).1 (signR k o zs).2.1, .int .i64 (signR k o zs).2.2]) w) := by
  by_cases h : SeI k ∧ SeI o
  · have e : signR k o zs = ((sigC k o zs : Int), (sigS k o zs : Int), 0) := if_pos h
    rw [e]
    obtain ⟨⟨a1, a2⟩, b1, b2⟩ := h
    obtain ⟨k', rfl⟩ : ∃ k' : Nat, k = (k' : Int) := ⟨k.toNat, by omega⟩
    obtain ⟨o', rfl⟩ : ∃ o' : Nat, o = (o' : Int) := ⟨o.toNat, by omega⟩
    exact rsign_yes k' o' (by omega) (by omega) (by omega) (by omega) A n cap zs w hr hl hn
  · have e : signR k o zs = (0, 0, 1) := if_neg h
    rw [e]
    refine rsign_no (decide (SeI k)) (decide (SeI o)) ?_ k o A n cap w (rkey_any k _ (by simp) hk.1 hk.2) (rkey_any o _ (by simp) ho.1 ho.2)
    by_cases q : SeI k
    · exact .inr (by simp; exact fun x => h ⟨q, x⟩)
    · exact .inl (by simp [q])

theorem rver_any (p c s : Int) (hp : I64 p) (hc : I64 c) (hs : I64 s) (A : Option Addr) (n cap : Nat) (zs : List Int) (w : World) (hr : RowI w.heap.size w A n zs) (hl : n ≤ 100) (hn : A = none → cap = 0) :
    Calls Tryd.prog 20 #[.int .i64 p, sgV c s, .slice A n cap] w (Gives (.tuple #[.bool (verR p c s zs).1, .int .i64 (verR p c s zs).2]) w) := by
  by_cases h : ElI p ∧ ExI c ∧ ExI s
  · have e : verR p c s zs = (rightB p.toNat c.toNat s.toNat zs, 0) := if_pos h
    rw [e]
    obtain ⟨a, ⟨b1, b2⟩, d1, d2⟩ := h
    obtain ⟨p', rfl, hp'⟩ := a.nat
    obtain ⟨c', rfl⟩ : ∃ c' : Nat, c = (c' : Int) := ⟨c.toNat, by omega⟩
    obtain ⟨s', rfl⟩ : ∃ s' : Nat, s = (s' : Int) := ⟨s.toNat, by omega⟩
    rw [Int.toNat_natCast, Int.toNat_natCast, Int.toNat_natCast]
    exact rver_yes p' c' s' hp' (by omega) (by omega) A n cap zs w hr hl hn
  · have e : verR p c s zs = (false, 1) := if_neg h
    rw [e]
    refine rver_no (decide (ElI p)) (decide (ExI c)) (decide (ExI s)) ?_ p c s A n cap w (rmember_any p _ (by simp) hp.1 hp.2) (rexponent_any c _ (by simp) hc.1 hc.2) (rexponent_any s _ (by simp) hs.1 hs.2)
    by_cases q : ElI p
    · by_cases r : ExI c
      · exact .inr (.inr (by simp; exact fun x => h ⟨q, r, x⟩))
      · exact .inr (.inl (by simp [r]))
    · exact .inl (by simp [q])

/-! ### What is known of them -/

theorem signR_yes {k o : Int} (hk : SeI k) (ho : SeI o) (zs : List Int) : signR k o zs = ((sigC k o zs : Int), (sigS k o zs : Int), 0) := if_pos ⟨hk, ho⟩
theorem sigC_lt (k o : Int) (zs : List Int) : sigC k o zs < 1073741789 := chal_lt _ _ _
theorem sigS_lt (k o : Int) (zs : List Int) : sigS k o zs < 1073741789 := Nat.mod_lt _ (by omega)
theorem verR_yes {p c s : Nat} (hp : El p) (hc : c < 1073741789) (hs : s < 1073741789) (zs : List Int) : verR p c s zs = (rightB p c s zs, 0) := by
  rw [verR, if_pos ⟨elI_nat hp, by unfold ExI; omega, by unfold ExI; omega⟩, Int.toNat_natCast, Int.toNat_natCast, Int.toNat_natCast]
/-- G ^ S * pub ^ (Q - C) of a signature is what it began with. -/
theorem back_sign (k o : Nat) (zs : List Int) : backN (pw 2147483579 4 k) (sigC k o zs) (sigS k o zs) = pw 2147483579 4 o := by
  have h := back_signed el_four o k (sigC k o zs) (sigC_lt _ _ _)
  unfold backN sigS
  rw [Int.toNat_natCast, Int.toNat_natCast]
  exact h
theorem right_sign (k o : Nat) (one two : List Int) : rightB (pw 2147483579 4 k) (sigC k o one) (sigS k o one) two = decide (chalN (pw 2147483579 4 o : Int) (pw 2147483579 4 k : Int) two = sigC k o one) := by
  unfold rightB; rw [back_sign]
theorem sigC_nat (k o : Nat) (zs : List Int) : sigC k o zs = chalN (pw 2147483579 4 o : Int) (pw 2147483579 4 k : Int) zs := by
  unfold sigC; rw [Int.toNat_natCast, Int.toNat_natCast]
end Go.Proofs.YtlimkcodbmafaaaDoor
