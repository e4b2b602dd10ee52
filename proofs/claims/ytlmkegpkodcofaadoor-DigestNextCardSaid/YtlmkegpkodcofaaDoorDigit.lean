/- Layer 3: what the law's digit returns. -/
import Derived.Test.YtlmkegpkodcofaaDoorOne
import Derived.Test.YtlmkegpkodcofaaDoorBehind
namespace Go.Proofs.YtlmkegpkodcofaaDoor
open Go.RowKit Go.Sort Go
set_option linter.unusedVariables false

/-- No other list; or the list with another last digit in one of its integers. -/
def Digit (zs : List Int) (S : Value) (q : Bool) (w' : World) : Prop :=
  q = false ∨
  ∃ (A : Option Addr) (n cap k : Nat) (d : Int), q = true ∧ S = .slice A n cap ∧ RowI w'.heap.size w' A n (zs.set k (zs.getD k 0 - zs.getD k 0 % 10 + d)) ∧ n = zs.length ∧ k < zs.length ∧ 0 ≤ zs.getD k 0 ∧ 0 ≤ d ∧ d < 10 ∧ zs.getD k 0 % 10 ≠ d

def DigitPost (zs : List Int) (w : World) (e : Ending) (w' : World) : Prop := ∃ S q, e = .returned (.tuple #[S, .bool q]) ∧ Digit zs S q w' ∧ Below w.heap.size w w'

theorem ownI_some {w : World} {B : Nat} {v : Value} {bs : List Int} (h : OwnI B w v bs) (n : Nat) (hn : bs.length = n) (h0 : 0 < n) : ∃ g cap, v = .slice (some ⟨g, 0, none⟩) n cap ∧ B ≤ g ∧ n ≤ cap ∧ g < w.heap.size := by
  subst hn
  rcases h.2 with ⟨_, hz⟩ | ⟨g, cap, cur, e, hb, hg, hc, _⟩
  · omega
  · exact ⟨g, cap, e, hb, hc, (Array.getElem?_eq_some_iff.1 hg).1⟩

theorem intCells_set (bs : List Int) (k : Nat) (d : Int) : (intCells bs).set k (.int .i64 d) = intCells (bs.set k d) := by
  simp [intCells, List.map_set]

theorem getD_set_mem {zs : List Int} {k : Nat} {d y : Int} (h : y ∈ zs.set k d) : y = d ∨ y ∈ zs := by
  rcases List.mem_or_eq_of_mem_set h with h | h
  · exact Or.inr h
  · exact Or.inl h

set_option maxHeartbeats 4000000 in
theorem digit_any (A : Option Addr) (n cap : Nat) (zs : List Int) (at_ : Int) (by_ : Nat) (hby : by_ < 256) (w : World) (r : RowI w.heap.size w A n zs) (e : A = none → cap = 0) (h100 : n ≤ 100) :
    Calls Tryd.prog 19 #[.slice A n cap, .int .i64 at_, .int .u8 by_] w (DigitPost zs w) := by
  by_cases h0 : n = 0
  · subst h0
    go_enter Tryd.func19, Tryd.ntmps19
    go_wp2_with fail
    go_ret2
    exact ⟨_, _, rfl, Or.inl rfl, Below.refl _ _⟩
  have hn0 : 0 < n := by omega
  obtain ⟨p, rfl, hp, hc⟩ := r.2.1 hn0
  obtain ⟨k, hk, hK⟩ := mod_len at_ n hn0
  have hK1 := mod_len_wrap at_ n hn0 (by omega)
  have hkl : k < zs.length := by rw [r.1]; exact hk
  have hx : w.cell? (p.add k) = some (.int .i64 (zs.getD k 0)) := hc k hk
  have hmem : zs.getD k 0 ∈ zs := by simp [List.getD, hkl]
  obtain ⟨lo, up⟩ := r.2.2 _ hmem
  have hq0 : ((n : Int) == 0) = false := by rw [beq_eq_false_iff_ne]; omega
  have hk0 : (0 : Int) ≤ (k : Int) := by omega
  have hk1 : (k : Int) < (n : Int) := by omega
  have hd10 : (by_ : Int) % 10 < 10 := Int.emod_lt_of_pos _ (by omega)
  have hd0 : 0 ≤ (by_ : Int) % 10 := Int.emod_nonneg _ (by omega)
  have HR := Lib.hid r
  have HE := Lib.hid e
  obtain ⟨v, hv⟩ : ∃ v, zs.getD k 0 = v := ⟨_, rfl⟩
  obtain ⟨d, hd⟩ : ∃ d, (by_ : Int) % 10 = d := ⟨_, rfl⟩
  have HV := Lib.hid hv
  have HKL := Lib.hid hkl
  rw [hv] at hx lo up
  rw [hd] at hd10 hd0
  clear hc hp r e hmem hv hkl
  by_cases c1 : v < 0
  · go_enter Tryd.func19, Tryd.ntmps19
    go_wp2_with fail
    go_ret2
    exact ⟨_, _, rfl, Or.inl rfl, Below.refl _ _⟩
  have b1 : 0 ≤ v := by omega
  by_cases c2 : 4611686018427387904 < v
  · go_enter Tryd.func19, Tryd.ntmps19
    go_wp2_with fail
    go_ret2
    exact ⟨_, _, rfl, Or.inl rfl, Below.refl _ _⟩
  obtain ⟨u, hu⟩ : ∃ u, v % 10 = u := ⟨_, rfl⟩
  have hu2 : Int.tmod v 10 = u := by rw [Int.tmod_eq_emod_of_nonneg b1]; exact hu
  have hu3 : 0 ≤ u ∧ u ≤ v ∧ u < 10 := by omega
  obtain ⟨u1, u2, u3⟩ := hu3
  have W1 : wrap64 (v - u) = v - u := by unfold wrap64; omega
  have W2 : wrap64 (v - u + d) = v - u + d := by unfold wrap64; omega
  have HU := Lib.hid hu
  by_cases c3 : u = d
  · subst c3
    clear W1 W2
    go_enter Tryd.func19, Tryd.ntmps19
    go_wp2_with fail
    go_ret2
    exact ⟨_, _, rfl, Or.inl rfl, Below.refl _ _⟩
  have c4 : ((u : Int) == d) = false := by rw [beq_eq_false_iff_ne]; exact c3
  have C3 := Lib.hid c3
  have C1 := Lib.hid b1
  have D1 := Lib.hid hd0
  have D2 := Lib.hid hd10
  obtain ⟨Wc, hWc⟩ : ∃ W, w.alloc (.cells #[] 3) = W := ⟨_, rfl⟩
  have HOc : Hid (OwnI w.heap.size Wc (.slice (some ⟨w.heap.size, 0, none⟩) 0 0) []) := by rw [← hWc]; exact ownI_new w [] w.heap.size (Nat.le_refl _) (by simp [maxLen])
  have BWc : Hid (Below w.heap.size w Wc) := by rw [← hWc]; exact below_alloc _ _
  have RAc := Lib.hid (HR.out.step BWc.out)
  have LAc := Lib.hid (show ([] : List Int).length + n ≤ 1000000000 by simp; omega)
  clear c3
  go_enter Tryd.func19, Tryd.ntmps19
  go_wp2_with (at_builtin; refine wpList_appI rfl _ _ rfl w.heap.size (.slice (some ⟨w.heap.size, 0, none⟩) 0 0) [] rfl HOc.out (some p) n cap _ zs rfl HE.out RAc.out LAc.out BWc.out.size ?_; refine Hid.out ?_)
  refine Lib.hid ?_
  intro vc wc hoc hgc
  clear hWc
  have bxc : Below w.heap.size w wc := BWc.out.grown hgc BWc.out.size (ownI_grown (w' := w) HOc.out)
  have HOc := Lib.hid (show OwnI w.heap.size wc vc zs from hoc)
  obtain ⟨g, capc, rfl, hgB, hcc, hgl⟩ := ownI_some HOc.out n HR.out.1 hn0
  have BLc := Lib.hid bxc
  have hOc : wc.ownsRow w.heap.size 3 1 (.slice (some ⟨g, 0, none⟩) n capc) n (intCells zs) := by
    have := HOc.out
    unfold OwnI at this
    rw [HR.out.1] at this
    exact this
  have hcell : wc.cell? ⟨g, k, none⟩ = some (.int .i64 v) := by
    rw [hOc.cellAt k (by omega), ← HV.out]
    have := HKL.out
    simp [intCells, List.getD, this]
  have hfro := hOc.frozenAt k
  obtain ⟨W5, hW5⟩ : ∃ W, wc.setCell ⟨g, k, none⟩ (.int .i64 (v - u + d)) = W := ⟨_, rfl⟩
  obtain ⟨ho5, hg5⟩ := hOc.stored k (.int .i64 (v - u + d))
  rw [intCells_set, hW5] at ho5
  rw [hW5] at hg5
  have b5 : Below w.heap.size w W5 := BLc.out.grown hg5 BLc.out.size (fun k ek => by cases ek; exact hgB)
  have o5 : OwnI w.heap.size W5 (.slice (some ⟨g, 0, none⟩) n capc) (zs.set k (v - u + d)) := by
    unfold OwnI
    rw [List.length_set, HR.out.1]
    exact ho5
  have hz5 : ∀ y ∈ zs.set k (v - u + d), -9223372036854775808 ≤ y ∧ y ≤ 9223372036854775807 := by
    intro y hy
    rcases getD_set_mem hy with rfl | h
    · omega
    · exact HR.out.2.2 y h
  have r5 : RowI W5.heap.size W5 (some ⟨g, 0, none⟩) n (zs.set k (v - u + d)) := by
    obtain ⟨A, n', c, e, _, _, _, r⟩ := o5.row hz5
    cases e
    exact r
  have R5 := Lib.hid r5
  have B5 := Lib.hid b5
  clear hOc ho5 hg5 b5 o5 r5 hz5 hoc hgc bxc hgB hgl hcc
  go_wp2_with fail
  go_ret2
  refine ⟨_, _, rfl, Or.inr ⟨some ⟨g, 0, none⟩, n, capc, k, d, rfl, rfl, ?_, HR.out.1.symm, HKL.out, ?_, D1.out, D2.out, ?_⟩, B5.out⟩
  · rw [HV.out, HU.out]; exact R5.out
  · rw [HV.out]; exact C1.out
  · rw [HV.out, HU.out]; exact C3.out
end Go.Proofs.YtlmkegpkodcofaaDoor
