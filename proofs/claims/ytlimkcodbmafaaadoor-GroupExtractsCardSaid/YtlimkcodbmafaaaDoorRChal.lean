/- Layer 6: the reference's Challenge. -/
import Derived.Test.YtlimkcodbmafaaaDoorRSmall
namespace Go.Proofs.YtlimkcodbmafaaaDoor
open Go.RowKit Go.Sort Go
set_option linter.unusedVariables false
set_option linter.unusedSimpArgs false

theorem below_alloc (w : World) (o : Obj) : Below w.heap.size w (w.alloc o) := (Below.refl _ _).alloc (Nat.le_refl _) _
theorem ownI_new (w : World) (zs : List Int) (B : Nat) (hB : B ≤ w.heap.size) (hn : zs.length ≤ maxLen) : OwnI B (w.alloc (.cells (intCells zs).toArray 3)) (.slice (some ⟨w.heap.size, 0, none⟩) zs.length zs.length) zs := by
  exact World.ownsRow_lit (base := B) (e := 3) (size := 1) w (intCells zs).toArray zs.length hB hn (by simp [intCells])
theorem in_app {a b : List Int} (ha : ∀ x ∈ a, -9223372036854775808 ≤ x ∧ x ≤ 9223372036854775807) (hb : ∀ x ∈ b, -9223372036854775808 ≤ x ∧ x ≤ 9223372036854775807) : ∀ x ∈ a ++ b, -9223372036854775808 ≤ x ∧ x ≤ 9223372036854775807 := by
  intro x hx
  rcases List.mem_append.1 hx with h | h
  · exact ha x h
  · exact hb x h

/-- The challenge of integers. -/
def chalN (a b : Int) (zs : List Int) : Nat := fnv fnv0 (textOf (a :: b :: zs)) % 1073741789
theorem chal_lt (a b : Int) (zs : List Int) : chalN a b zs < 1073741789 := Nat.mod_lt _ (by omega)

set_option maxHeartbeats 2000000 in
theorem rchal_any (a b : Int) (ha : -9223372036854775808 ≤ a ∧ a ≤ 9223372036854775807) (hb : -9223372036854775808 ≤ b ∧ b ≤ 9223372036854775807) (A : Option Addr) (n cap : Nat) (zs : List Int) (w : World) (hr : RowI w.heap.size w A n zs) (hl : n ≤ 100) (hn : A = none → cap = 0) :
    Calls Tryd.prog 25 #[.int .i64 a, .int .i64 b, .slice A n cap] w (Gives (.int .i64 (chalN a b zs : Int)) w) := by
  have HN := Lib.hid hn
  have IN := Lib.hid (in_app (a := [a, b]) (b := zs) (by intro x hx; simp at hx; rcases hx with rfl | rfl <;> assumption) hr.2.2)
  obtain ⟨f, hf⟩ : ∃ f, fnv fnv0 (textOf (a :: b :: zs)) = f := ⟨_, rfl⟩
  obtain ⟨c, hc⟩ : ∃ c, f % 1073741789 = c := ⟨_, rfl⟩
  have hch : chalN a b zs = c := by unfold chalN; rw [hf, hc]
  rw [hch]
  have flt : f < 18446744073709551616 := by rw [← hf]; exact fnv_lt _ _ fnv0_lt
  have clt : c < 1073741789 := by rw [← hc]; exact Nat.mod_lt _ (by omega)
  have e1 : Int.tmod (f : Int) 1073741789 = (c : Int) := by rw [Int.tmod_eq_emod_of_nonneg (by omega)]; omega
  have HF := Lib.hid hf
  clear hf hc hch
  obtain ⟨W, hW⟩ : ∃ W, w.alloc (.cells #[.int .i64 a, .int .i64 b] 3) = W := ⟨_, rfl⟩
  have HO : Hid (OwnI w.heap.size W (.slice (some ⟨w.heap.size, 0, none⟩) 2 2) [a, b]) := by rw [← hW]; exact ownI_new w [a, b] w.heap.size (Nat.le_refl _) (by simp [maxLen])
  have BW : Hid (Below w.heap.size w W) := by rw [← hW]; exact below_alloc _ _
  have RA := Lib.hid (hr.step BW.out)
  have LA := Lib.hid (show ([a, b] : List Int).length + n ≤ 1000000000 by simp; omega)
  have LZ := Lib.hid hr.1
  clear hr hn
  go_enter Tryd.func25, Tryd.ntmps25
  go_wp2_with (at_builtin; refine wpList_appI rfl _ _ rfl w.heap.size (.slice (some ⟨w.heap.size, 0, none⟩) 2 2) [a, b] rfl HO.out A n cap _ zs rfl HN.out RA.out LA.out BW.out.size ?_; refine Hid.out ?_)
  refine Lib.hid ?_
  intro v w1 ho hg
  have bb : Below w.heap.size w w1 := BW.out.grown hg BW.out.size (ownI_grown (w' := w) HO.out)
  obtain ⟨A1, n1, cap1, rfl, _, _, _, r1⟩ := ho.row IN.out
  have hn1 := r1.1
  have L1 := LZ.out
  have RI := Lib.hid (rints_any A1 n1 cap1 _ w1 r1 (by simp at hn1; omega))
  rw [HF.out] at RI
  have BB := Lib.hid bb
  clear ho hg bb r1 hn1 L1 hW
  go_wp2_with (go_at_call 36; refine RI.out.mono ?_; rintro e w2 ⟨rfl, b2⟩)
  go_ret
  exact ⟨rfl, below_more BB.out b2⟩
end Go.Proofs.YtlimkcodbmafaaaDoor
