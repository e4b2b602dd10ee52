/- Layer 4: what is known of an argument that is a slice of slices of integers; the two statements over such a slice. -/
import Derived.Deep.Matrix
import Derived.Test.YtdambggcaimndaaOpen
import Derived.Test.YtdambggcaimndaaCuts
namespace Go.Proofs.Ytdambggcaimndaa
open Go.ChangeShapes Go.WideShapes Go.ChangeAt Go.RowKit Go.Deep
set_option linter.unusedVariables false

theorem cells_ints : Try.prog.cellsOf 22 = 1 := by kernel_rfl

theorem bulk_one {H : Type} (d : DataW H) : 1 ≤ Rows.uptoBulk d := by
  cases d with
  | lit l => cases l <;> simp [Rows.uptoBulk]
  | _ => simp [Rows.uptoBulk]
theorem bulk_len {H : Type} : ∀ l : List (DataW H), l.length ≤ Rows.uptoBulkAll l := by
  intro l
  induction l with
  | nil => simp [Rows.uptoBulkAll]
  | cons x r ih => have := bulk_one x; simp only [Rows.uptoBulkAll, List.length_cons]; omega
theorem bulk_row {H : Type} (k : IntKind) (A : Option Addr) (L C : Nat) (zs : List Int) (hl : zs.length = C) (hLC : L ≤ C) (hA : A = none → C = 0) : L + 1 ≤ Rows.uptoBulk (intRow (H := H) k A L zs) := by
  cases A with
  | none =>
    have := hA rfl
    show L + 1 ≤ Rows.uptoBulk (DataW.nil (H := H))
    simp [Rows.uptoBulk]; omega
  | some a =>
    show L + 1 ≤ Rows.uptoBulk (DataW.slice (lits (H := H) k (zs.take L)) (lits k (zs.drop L)))
    have h := bulk_len (lits (H := H) k (zs.take L))
    rw [show (lits (H := H) k (zs.take L)).length = L by simp [lits, hl, hLC]] at h
    simp only [Rows.uptoBulk]; omega
theorem bulk_rows {H : Type} (D : Nat → DataW H) (Z : Nat → List Int) : ∀ l : List Nat, (∀ r ∈ l, (Z r).length + 1 ≤ Rows.uptoBulk (D r)) → l.length + ints (l.map Z) ≤ Rows.uptoBulkAll (l.map D) := by
  intro l
  induction l with
  | nil => intro _; simp [ints, Rows.uptoBulkAll]
  | cons x r ih =>
    intro h
    have h1 := h x (by simp)
    have h2 := ih (fun y hy => h y (by simp [hy]))
    have e : ints ((x :: r).map Z) = (Z x).length + ints (r.map Z) := by simp [ints]
    rw [e]
    simp only [List.map_cons, Rows.uptoBulkAll, List.length_cons]
    omega
theorem bulk_first {H : Type} {d : DataW H} {r : List (DataW H)} {n : Nat} (hk : Rows.uptoSmall H (d :: r) = true) (h : n ≤ Rows.uptoBulk d) : n ≤ 1048576 := by
  have h1 : Rows.uptoBulkAll (d :: r) ≤ 1048576 := of_decide_eq_true hk
  simp only [Rows.uptoBulkAll] at h1
  omega

section
variable {H : Type} {enc : TypeId × Value → H} {w : World} {base b0 : Nat} {held : Bool} {r : Reach}

theorem open_bl {v : Value} {d : DataW H} {p : List MemPlace} (hv : Value.okWide Try.prog w r b0 33 v) (h : DataW.Trod enc Try.prog w base (fun _ => true) held 33 v d p) :
    ∃ (A : Option Addr) (len cap : Nat) (ls : List (List Int)), v = .slice A len cap ∧ RowL w.heap.size w A len ls ∧ len ≤ cap ∧ cap ≤ 9223372036854775807 ∧ (A = none → cap = 0) ∧ len + ints ls ≤ Rows.uptoBulk d := by
  obtain ⟨A, len, cap, rfl⟩ := okWide_slice Try.underlying33 hv
  obtain ⟨fuel, hf⟩ := h
  rcases open_int_rows Try.underlying33 Try.underlying22 Try.underlying3 cells_ints cells_int hf with ⟨hcs, _⟩ | ⟨a, l, c, A, L, C, Z, hcs, _, hl, hm, hx, hr⟩
  · simp [Value.cells] at hcs
    obtain ⟨rfl, rfl, rfl⟩ := hcs
    exact ⟨none, 0, 0, [], rfl, ⟨rfl, fun _ => undef, fun h => absurd h (by omega), fun i hi => absurd hi (by omega)⟩, by omega, by omega, fun _ => rfl, by simp [ints]⟩
  · simp [Value.cells] at hcs
    obtain ⟨rfl, rfl, rfl⟩ := hcs
    simp only [Prod.mk.injEq] at hx
    obtain ⟨rfl, _⟩ := hx
    have hgd : ∀ i, i < len → ((List.range len).map fun r => (Z r).take (L r)).getD i [] = (Z i).take (L i) := fun i hi => by simp [List.getD, hi]
    refine ⟨some a, len, cap, (List.range len).map fun r => (Z r).take (L r), rfl, ⟨by simp, fun r => .slice (A r) (L r) (C r), fun hn => ⟨a, rfl, block_lt' (hr 0 (by omega)).1, fun i hi => (hr i (by omega)).1⟩, fun i hi => ?_⟩, hl, by unfold maxLen at hm; omega, (fun h => by cases h), ?_⟩
    · obtain ⟨h1, h2, h3, h4, h5, h6, h7⟩ := hr i (by omega)
      refine ⟨A i, L i, C i, rfl, by unfold maxLen at h3; omega, ?_⟩
      rw [hgd i hi]
      refine ⟨by rw [List.length_take]; omega, fun hn => ?_, fun x hx => i64_wf (h5 x (List.mem_of_mem_take hx))⟩
      cases hA : A i with
      | none => have := h6 hA; omega
      | some a' =>
        obtain ⟨_, h8⟩ := h7 a' hA
        refine ⟨a', rfl, block_lt' (h8 0 (by omega)), fun j hj => ?_⟩
        rw [h8 j (by omega)]
        simp [List.getD, hj]
    · have h := bulk_rows (fun r => intRow (H := H) .i64 (A r) (L r) (Z r)) (fun r => (Z r).take (L r)) (List.range len) (fun r hr' => by
        have hlt : r < cap := by have := List.mem_range.1 hr'; omega
        obtain ⟨h1, h2, h3, h4, h5, h6, h7⟩ := hr r hlt
        rw [show ((Z r).take (L r)).length = L r by rw [List.length_take]; omega]
        exact bulk_row .i64 (A r) (L r) (C r) (Z r) h4 h2 h6)
      rw [List.length_range] at h
      simp only [Rows.uptoBulk]
      omega
end

theorem cuts_law (A0 : Option Addr) (len0 cap0 : Nat) (z0 : List (List Int)) (x1 : Int) (w : World)
    (r0 : RowL w.heap.size w A0 len0 z0) (l0 : len0 ≤ cap0) (m0 : cap0 ≤ 9223372036854775807) (n0 : A0 = none → cap0 = 0) (s0 : len0 + ints z0 ≤ 1048576) (w1 : (Lit.int .i64 x1).wf = true) :
    Calls Try.prog 6 #[.slice A0 len0 cap0, .int .i64 x1] w (Gives (.bool true) w) := by
  by_cases h : len0 + ints z0 ≤ 200
  · exact cuts_small A0 len0 cap0 z0 x1 w r0 l0 h
  · exact cuts_big A0 len0 cap0 z0 x1 w r0 (by omega) h

theorem behind_law (A0 : Option Addr) (len0 cap0 : Nat) (z0 : List (List Int)) (A1 : Option Addr) (len1 cap1 : Nat) (z1 : List UInt8) (w : World)
    (r0 : RowL w.heap.size w A0 len0 z0) (l0 : len0 ≤ cap0) (m0 : cap0 ≤ 9223372036854775807) (n0 : A0 = none → cap0 = 0) (s0 : len0 + ints z0 ≤ 1048576)
    (r1 : Row8 w.heap.size w A1 len1 z1) (l1 : len1 ≤ cap1) (m1 : cap1 ≤ 9223372036854775807) (n1 : A1 = none → cap1 = 0) :
    Calls Try.prog 7 #[.slice A0 len0 cap0, .slice A1 len1 cap1] w (Gives (.bool true) w) := by
  by_cases h : len0 + ints z0 ≤ 200
  · exact behind_small A0 len0 cap0 z0 A1 len1 cap1 z1 w r0 h r1 l1 m1 n1
  · exact behind_big A0 len0 cap0 z0 A1 len1 cap1 w r0 (by omega) h l1 m1
end Go.Proofs.Ytdambggcaimndaa
