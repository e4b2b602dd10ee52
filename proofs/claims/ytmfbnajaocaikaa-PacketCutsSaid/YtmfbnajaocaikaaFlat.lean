/- What is known of an argument, of whatever type: structs and arrays laid flat into their cells, ints within their kinds (wip/lib). No program in it. -/
import Derived.WalkKit
import Derived.ProofKit
import Derived.OpenShut
import Derived.ShutString
import Derived.ChangeOld
import Derived.ChangeSame
import Derived.Below
import Derived.Deep.Matrix
import Derived.Deep.Slices
import Derived.Lib.SmallJoins
import Derived.Test.YtmfbnajaocaikaaBase
namespace Go.Proofs.Ytmfbnajaocaikaa
open Go.ChangeShapes Go.WideShapes Go.ChangeAt Go.RowKit Go.Joins Go.Deep
set_option linter.unusedVariables false
set_option linter.unusedSimpArgs false

/-- A cell's kind: an integer, a Boolean, or another one-cell type of which the reader's own fact is kept. -/
inductive FK where
  | int (k : IntKind)
  | bool
  | raw (t : TypeId)
def FK.ok (R : TypeId → Value → Prop) : FK → Value → Prop
  | .int k, v => ∃ x, v = .int k x ∧ (Lit.int k x).wf = true
  | .bool, v => ∃ b, v = .bool b
  | .raw t, v => R t v
def Fits (R : TypeId → Value → Prop) : List FK → List Value → Prop
  | [], [] => True
  | k :: ks, v :: vs => k.ok R v ∧ Fits R ks vs
  | _, _ => False
theorem Fits.app {R : TypeId → Value → Prop} : ∀ {ks ls : List FK} {vs us : List Value}, Fits R ks vs → Fits R ls us → Fits R (ks ++ ls) (vs ++ us)
  | [], _, [], _, _, h => h
  | _ :: _, _, _ :: _, _, h, g => ⟨h.1, Fits.app h.2 g⟩
def flatF (P : Program) (g : TypeId → Option (List FK)) : List Field → Nat → Option (List FK)
  | [], _ => some []
  | f :: r, off =>
    if f.offset = off then
      match g f.type with
      | some ks => if P.cellsOf f.type = ks.length then (match flatF P g r (off + ks.length) with | some qs => some (ks ++ qs) | none => none) else none
      | none => none
    else none
def flat (P : Program) : Nat → TypeId → Option (List FK)
  | 0, _ => none
  | n + 1, t =>
    match P.underlying t with
    | some .bool => some [.bool]
    | some (.int k) => some [.int k]
    | some (.struct fs) => flatF P (flat P n) fs.toList 0
    | some (.array m e) =>
      match flat P n e with
      | some ks => if P.cellsOf e = ks.length then some (List.replicate m ks).flatten else none
      | none => none
    | _ => some [.raw t]

section
variable {H : Type} {enc : TypeId × Value → H} {P : Program} {w : World} {base : Nat} {spare : Nat → Bool} {held : Bool}
/-- The reader's fact of a one-cell value. -/
def RawAt (enc : TypeId × Value → H) (P : Program) (w : World) (base : Nat) (spare : Nat → Bool) (held : Bool) (t : TypeId) (v : Value) : Prop := ∃ m y, DataW.trod enc P w base spare held m t [v] = some y

theorem fits_fields (g : TypeId → Option (List FK)) (m : Nat) (cs : List Value)
    (hg : ∀ t ks vs y, g t = some ks → vs.length = ks.length → DataW.trod enc P w base spare held m t vs = some y → Fits (RawAt enc P w base spare held) ks vs) :
    ∀ (l : List Field) (off : Nat) (qs : List FK), flatF P g l off = some qs → cs.length = off + qs.length →
      (∀ f ∈ l, ∃ y, DataW.trod enc P w base spare held m f.type ((cs.drop f.offset).take (P.cellsOf f.type)) = some y) → Fits (RawAt enc P w base spare held) qs (cs.drop off)
  | [], off, qs, h, hl, _ => by
    simp only [flatF, Option.some.injEq] at h
    subst h
    rw [List.drop_eq_nil_of_le (by simp at hl; omega)]
    trivial
  | f :: r, off, qs, h, hl, hf => by
    unfold flatF at h
    split at h
    · rename_i ho
      subst ho
      split at h
      · rename_i ks hk
        split at h
        · rename_i hc
          split at h
          · rename_i ps hp
            simp only [Option.some.injEq] at h
            subst h
            rw [List.length_append] at hl
            obtain ⟨y, hy⟩ := hf f (by simp)
            rw [hc] at hy
            have h1 := hg _ _ _ _ hk (by rw [List.length_take, List.length_drop]; omega) hy
            have h2 := fits_fields g m cs hg r (f.offset + ks.length) ps hp (by omega) (fun f' hf' => hf f' (by simp [hf']))
            have e : cs.drop f.offset = (cs.drop f.offset).take ks.length ++ cs.drop (f.offset + ks.length) := by
              rw [← List.drop_drop, List.take_append_drop]
            rw [e]
            exact h1.app h2
          · cases h
        · cases h
      · cases h
    · cases h
theorem fits_array (ks : List FK) (cs : List Value) (c : Nat) (hc : c = ks.length) : ∀ (n : Nat) (off : Nat), cs.length = off + n * c → (∀ i, i < n → Fits (RawAt enc P w base spare held) ks ((cs.drop (off + i * c)).take c)) →
    Fits (RawAt enc P w base spare held) (List.replicate n ks).flatten (cs.drop off)
  | 0, off, hl, _ => by
    rw [List.drop_eq_nil_of_le (by omega)]
    trivial
  | n + 1, off, hl, h => by
    have h0 := h 0 (by omega)
    rw [Nat.zero_mul, Nat.add_zero] at h0
    have h1 := fits_array ks cs c hc n (off + c) (by rw [hl, Nat.add_mul]; omega) (fun i hi => by
      have := h (i + 1) (by omega)
      rwa [Nat.add_mul, Nat.one_mul, show off + (i * c + c) = off + c + i * c by omega] at this)
    have e : cs.drop off = (cs.drop off).take c ++ cs.drop (off + c) := by rw [← List.drop_drop, List.take_append_drop]
    rw [e, List.replicate_succ, List.flatten_cons]
    exact h0.app h1
theorem fits_of : ∀ (n : Nat) (t : TypeId) (ks : List FK) (m : Nat) (cs : List Value) (y : DataW H × List MemPlace), flat P n t = some ks → cs.length = ks.length → DataW.trod enc P w base spare held m t cs = some y →
    Fits (RawAt enc P w base spare held) ks cs := by
  intro n
  induction n with
  | zero => intro t ks m cs y h; cases h
  | succ n ih =>
    intro t ks m cs y h hl ht
    unfold flat at h
    split at h
    · rename_i hu
      simp only [Option.some.injEq] at h
      subst h
      obtain ⟨b, rfl, _⟩ := DataW.trod_bool hu ht
      exact ⟨⟨b, rfl⟩, trivial⟩
    · rename_i k hu
      simp only [Option.some.injEq] at h
      subst h
      obtain ⟨x, rfl, _, hx⟩ := DataW.trod_int hu ht
      exact ⟨⟨x, rfl, hx⟩, trivial⟩
    · rename_i fs hu
      obtain ⟨xs, j, _, _, hlen, hx, hf⟩ := DataW.trod_struct hu ht
      have := fits_fields (enc := enc) (w := w) (base := base) (spare := spare) (held := held) (flat P n) j cs (fun t ks vs y h1 h2 h3 => ih t ks j vs y h1 h2 h3) fs.toList 0 ks h (by omega) (fun f hfm => by
        obtain ⟨i, hi, e⟩ := List.mem_iff_getElem.1 hfm
        have hi' : i < fs.size := by simpa using hi
        have k1 := hf i f (by rw [Array.getElem?_eq_getElem hi']; simpa using e)
        have hix : i < xs.length := by omega
        exact ⟨xs[i], by rw [k1, List.getElem?_eq_getElem hix]⟩)
      rwa [List.drop_zero] at this
    · rename_i q e hu
      split at h
      · rename_i ks' hk
        split at h
        · rename_i hc
          simp only [Option.some.injEq] at h
          subst h
          obtain ⟨xs, j, _, _, hlen, hx, hf⟩ := DataW.trod_array hu ht
          have hlf : (List.replicate q ks').flatten.length = q * ks'.length := by simp
          have := fits_array (enc := enc) (P := P) (w := w) (base := base) (spare := spare) (held := held) ks' cs (P.cellsOf e) hc q 0 (by rw [hl, hlf, hc]; omega) (fun i hi => by
            have k1 := hf i hi
            have hix : i < xs.length := by omega
            rw [List.getElem?_eq_getElem hix] at k1
            rw [Nat.zero_add]
            refine ih e ks' j _ _ hk ?_ k1
            rw [List.length_take, List.length_drop, hl, hlf, hc]
            have : (i + 1) * ks'.length ≤ q * ks'.length := Nat.mul_le_mul_right _ hi
            rw [Nat.add_mul, Nat.one_mul] at this
            omega)
          rwa [List.drop_zero] at this
        · cases h
      · cases h
    · simp only [Option.some.injEq] at h
      subst h
      match cs, hl with
      | [v], _ => exact ⟨⟨m, y, ht⟩, trivial⟩
theorem Fits.cons_inv {R : TypeId → Value → Prop} {k : FK} {ks : List FK} {vs : List Value} (h : Fits R (k :: ks) vs) : ∃ v us, vs = v :: us ∧ k.ok R v ∧ Fits R ks us := by
  cases vs with
  | nil => exact h.elim
  | cons v us => exact ⟨v, us, rfl, h.1, h.2⟩
theorem Fits.nil_inv {R : TypeId → Value → Prop} {vs : List Value} (h : Fits R [] vs) : vs = [] := by
  cases vs with
  | nil => rfl
  | cons v us => exact h.elim
/-- An argument that is a struct or an array, by value. -/
theorem open_flat {r : Reach} {b0 : Nat} {t : TypeId} {v : Value} {d : DataW H} {p : List MemPlace} {ks : List FK} (n : Nat) (hk : flat P n t = some ks) (hc : P.cellsOf t = ks.length)
    (hs : (match P.underlying t with | some (.struct _) => true | some (.array _ _) => true | _ => false) = true) (hv : Value.okWide P w r b0 t v) (h : DataW.Trod enc P w base spare held t v d p) :
    ∃ cs, v = .agg cs ∧ Fits (RawAt enc P w base spare held) ks cs.toList := by
  obtain ⟨fuel, hf⟩ := h
  cases hu : P.underlying t with
  | none => rw [hu] at hs; cases hs
  | some u =>
    rw [hu] at hs
    cases u <;> simp at hs
    · rename_i q e
      simp only [Value.okWide, hu] at hv
      obtain ⟨cs, rfl, hsz, _⟩ := hv
      exact ⟨cs, rfl, fits_of n t ks fuel cs.toList _ hk (by simp [hsz, hc]) hf⟩
    · rename_i fs
      obtain ⟨cs, rfl, hsz⟩ := okWide_struct hu hv
      exact ⟨cs, rfl, fits_of n t ks fuel cs.toList _ hk (by simp [hsz, hc]) hf⟩
/-- A slice of such: each element's cells. -/
theorem open_flatS {r : Reach} {b0 : Nat} {t e : TypeId} {v : Value} {d : DataW H} {p : List MemPlace} {ks : List FK} (n : Nat) (ht : P.underlying t = some (.slice e)) (hk : flat P n e = some ks) (hc : P.cellsOf e = ks.length)
    (hv : Value.okWide P w r b0 t v) (h : DataW.Trod enc P w base (fun _ => true) held t v d p) :
    ∃ (A : Option Addr) (len cap : Nat), v = .slice A len cap ∧ len ≤ cap ∧ cap ≤ 9223372036854775807 ∧ (A = none → cap = 0) ∧
      (0 < len → ∃ a, A = some a ∧ ∀ i, i < len → ∃ cs, cs.length = ks.length ∧ (∀ j, j < ks.length → w.cell? ((a.add (i * ks.length)).add j) = cs[j]?) ∧ Fits (RawAt enc P w base (fun _ => true) held) ks cs) := by
  obtain ⟨A, len, cap, rfl⟩ := okWide_slice ht hv
  obtain ⟨fuel, hf⟩ := h
  rcases open_slice ht hf with ⟨hcs, _⟩ | ⟨a, l, c, m, n', D, Pl, hcs, _, hl, hm, hmm, _, hx⟩
  · simp [Value.cells] at hcs
    obtain ⟨rfl, rfl, rfl⟩ := hcs
    exact ⟨none, 0, 0, rfl, Nat.le_refl _, by omega, fun _ => rfl, fun h => absurd h (by omega)⟩
  · simp [Value.cells] at hcs
    obtain ⟨rfl, rfl, rfl⟩ := hcs
    simp only [if_true] at hmm
    rw [hc, hmm] at hx
    refine ⟨some a, len, cap, rfl, hl, by unfold maxLen at hm; omega, by simp, fun _ => ⟨a, rfl, fun i hi => ?_⟩⟩
    obtain ⟨cs', h1, h2⟩ := hx i (by omega)
    obtain ⟨_, hlen, hcell⟩ := World.cells?_some h1
    exact ⟨cs', hlen, hcell, fits_of n e ks n' cs' _ hk hlen h2⟩
end
end Go.Proofs.Ytmfbnajaocaikaa
