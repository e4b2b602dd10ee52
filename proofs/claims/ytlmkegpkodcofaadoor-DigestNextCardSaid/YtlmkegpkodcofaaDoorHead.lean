/- Layer 3: the fixed examples that each statement begins with. -/
import Derived.Lib.SlBytesConst
import Derived.Test.YtlmkegpkodcofaaDoorRPair
namespace Go.Proofs.YtlmkegpkodcofaaDoor
open Go.RowKit Go.Sort Go
set_option linter.unusedVariables false

theorem below_alloc (w : World) (o : Obj) : Below w.heap.size w (w.alloc o) := (Below.refl _ _).alloc (Nat.le_refl _) _

theorem row8_new (w : World) (bs : List UInt8) (fr : Nat × Nat) (n : Nat) (hn : n = bs.length) : Row8 (w.alloc (.cells (Lib.byteCells bs).toArray 5 fr)).heap.size (w.alloc (.cells (Lib.byteCells bs).toArray 5 fr)) (some ⟨w.heap.size, 0, none⟩) n bs := by
  subst hn
  refine ⟨rfl, fun _ => ⟨_, rfl, (by simp), fun i hi => ?_⟩⟩
  rw [Lib.add_plain, Nat.zero_add, cell_of_row _ w.heap.size i _ 5 fr (heap_alloc_new w _)]
  simp [Lib.byteCells, List.getD, hi]

theorem sum_lit (bs : List UInt8) (N : Nat) (hN : fnv fnv0 bs = N) (cs : Array Value) (hc : cs = (Lib.byteCells bs).toArray) (n : Nat) (hn : n = bs.length) (hl : n ≤ 1000) (fr : Nat × Nat) (W : World) :
    Calls Tryd.prog 10 #[.slice (some ⟨W.heap.size, 0, none⟩) n n] (W.alloc (.cells cs 5 fr)) fun e w' => e = .returned (.int .u64 (N : Int)) ∧ W.alloc (.cells cs 5 fr) = w' := by
  subst hc hN
  exact sum_any _ n n bs _ (row8_new W bs fr n hn) (by omega)

theorem rowI_new (w : World) (zs : List Int) (hz : ∀ x ∈ zs, -9223372036854775808 ≤ x ∧ x ≤ 9223372036854775807) : RowI (w.alloc (.cells (intCells zs).toArray 3)).heap.size (w.alloc (.cells (intCells zs).toArray 3)) (some ⟨w.heap.size, 0, none⟩) zs.length zs := by
  refine ⟨rfl, fun _ => ⟨_, rfl, (by simp), fun i hi => ?_⟩, hz⟩
  rw [(inRow_new w 3 (intCells zs)).cell i (by rw [intCells_length]; exact hi)]
  simp [intCells, List.getD, hi]

theorem text_12 : textOf [12, -3] = [49, 50, 32, 45, 51, 32] := by
  have e1 : Lib.itoa 12 = [49, 50] := by
    rw [show (12 : Int) = ((12 : Nat) : Int) from rfl, Lib.itoa_nonneg, Lib.decDigits_two (by decide) (by decide)]; rfl
  have e2 : Lib.itoa (-3) = [45, 51] := by
    rw [show (-3 : Int) = -((3 : Nat) : Int) from rfl, Lib.itoa_neg 3 (by decide), Lib.decDigits_one (by decide)]; rfl
  simp only [textOf, e1, e2]; rfl
theorem text_5 : textOf [5] = [53, 32] := by
  have e1 : Lib.itoa 5 = [53] := by
    rw [show (5 : Int) = ((5 : Nat) : Int) from rfl, Lib.itoa_nonneg, Lib.decDigits_one (by decide)]; rfl
  simp only [textOf, e1]; rfl

theorem ints_lit (W : World) (ht : Tab W) : Calls Tryd.prog 12 #[.slice (some ⟨W.heap.size, 0, none⟩) 2 2] (W.alloc (.cells #[.int .i64 12, .int .i64 (-3)] 3)) (Gives (.int .u64 11494595827349723658) (W.alloc (.cells #[.int .i64 12, .int .i64 (-3)] 3))) := by
  have h := ints_any (some ⟨W.heap.size, 0, none⟩) 2 2 [12, -3] (W.alloc (.cells #[.int .i64 12, .int .i64 (-3)] 3)) (rowI_new W [12, -3] (by simp)) (by omega) (ht.step (below_alloc W _))
  rw [text_12, show fnv fnv0 [49, 50, 32, 45, 51, 32] = 11494595827349723658 by decide +kernel] at h
  exact h

theorem next_lit (W : World) (ht : Tab W) : Calls Tryd.prog 14 #[.int .u64 97, .slice (some ⟨W.heap.size, 0, none⟩) 1 1] (W.alloc (.cells #[.int .i64 5] 3)) (Gives (.int .u64 8486658344072931327) (W.alloc (.cells #[.int .i64 5] 3))) := by
  have h := next_any 97 (by decide) (some ⟨W.heap.size, 0, none⟩) 1 1 [5] (W.alloc (.cells #[.int .i64 5] 3)) (rowI_new W [5] (by simp)) (by omega) (ht.step (below_alloc W _))
  rw [text_5, show fnv fnv0 (eight 97 ++ [53, 32]) = 8486658344072931327 by decide +kernel] at h
  exact h

theorem pair_lit (W : World) : Calls Tryd.prog 16 #[.int .u64 1, .int .u64 256] W (Gives (.int .u64 10559243913916806166) W) := by
  have h := pair_any 1 256 (by decide) (by decide) W
  rw [show fnv fnv0 (1 :: (eight 1 ++ eight 256)) = 10559243913916806166 by decide +kernel] at h
  exact h

set_option maxRecDepth 100000 in
set_option maxHeartbeats 4000000 in
theorem head_true (w : World) (htab : Tab w) : Calls Tryd.prog 9 #[] w (Gives (.bool true) w) := by
  have S0 : Hid (∀ W : World, Calls Tryd.prog 10 #[.slice none 0 0] W fun e w' => e = .returned (.int .u64 14695981039346656037) ∧ W = w') := fun W => by
    have h := sum_any none 0 0 [] W ⟨rfl, fun h => absurd h (by omega)⟩ (by omega)
    rw [fnv_nil] at h
    exact h
  have SA := Lib.hid (sum_lit [97] 12638187200555641996 (by decide +kernel) #[.int .u8 97] (by rfl) 1 rfl (by omega))
  have SF := Lib.hid (sum_lit [102, 111, 111, 98, 97, 114] 9625390261332436968 (by decide +kernel) #[.int .u8 102, .int .u8 111, .int .u8 111, .int .u8 98, .int .u8 97, .int .u8 114] (by rfl) 6 rfl (by omega))
  have ST := Lib.hid (sum_lit [49, 50, 32, 45, 51, 32] 11494595827349723658 (by decide +kernel) #[.int .u8 49, .int .u8 50, .int .u8 32, .int .u8 45, .int .u8 51, .int .u8 32] (by rfl) 6 rfl (by omega))
  have SN := Lib.hid (sum_lit [0, 0, 0, 0, 0, 0, 0, 97, 53, 32] 8486658344072931327 (by decide +kernel) #[.int .u8 0, .int .u8 0, .int .u8 0, .int .u8 0, .int .u8 0, .int .u8 0, .int .u8 0, .int .u8 97, .int .u8 53, .int .u8 32] (by rfl) 10 rfl (by omega))
  have SP := Lib.hid (sum_lit [1, 0, 0, 0, 0, 0, 0, 0, 1, 0, 0, 0, 0, 0, 0, 1, 0] 10559243913916806166 (by decide +kernel) #[.int .u8 1, .int .u8 0, .int .u8 0, .int .u8 0, .int .u8 0, .int .u8 0, .int .u8 0, .int .u8 0, .int .u8 1, .int .u8 0, .int .u8 0, .int .u8 0, .int .u8 0, .int .u8 0, .int .u8 0, .int .u8 1, .int .u8 0] (by rfl) 17 rfl (by omega))
  have HT := Lib.hid htab
  have HI := Lib.hid ints_lit
  have HN := Lib.hid next_lit
  have HP := Lib.hid pair_lit
  clear htab
  have kc := fun (w : World) (C : Array Value) (n c : Nat) => Lib.run_convert_bytes_const (P := Tryd.prog) w 22 5 C n c Tryd.underlying22 Tryd.underlying5
  go_enter Tryd.func9, Tryd.ntmps9
  go_wp2_with fail
  refine (S0.out _).mono ?_
  rintro e w1 ⟨rfl, rfl⟩
  go_wp2_with fail
  refine (SA.out (1, 2) _).mono ?_
  rintro e w' ⟨rfl, rfl⟩
  have B := Lib.hid (below_alloc w (.cells #[.int .u8 97] 5 (1, 2)))
  generalize w.alloc (.cells #[.int .u8 97] 5 (1, 2)) = w1 at B ⊢
  go_wp2_with fail
  refine (SF.out (6, 7) _).mono ?_
  rintro e w' ⟨rfl, rfl⟩
  have B := Lib.hid (below_more B.out (below_alloc w1 (.cells #[.int .u8 102, .int .u8 111, .int .u8 111, .int .u8 98, .int .u8 97, .int .u8 114] 5 (6, 7))))
  generalize w1.alloc (.cells #[.int .u8 102, .int .u8 111, .int .u8 111, .int .u8 98, .int .u8 97, .int .u8 114] 5 (6, 7)) = w2 at B ⊢
  go_wp2_with fail
  have BX := B
  have B := Lib.hid (below_more B.out (below_alloc w2 (.cells #[.int .i64 12, .int .i64 (-3)] 3)))
  refine (HI.out _ (HT.out.step BX.out)).mono ?_
  rintro e w3 ⟨rfl, bb⟩
  have B := Lib.hid (below_more B.out bb)
  clear bb
  go_wp2_with fail
  refine (ST.out (6, 7) _).mono ?_
  rintro e w' ⟨rfl, rfl⟩
  have B := Lib.hid (below_more B.out (below_alloc w3 (.cells #[.int .u8 49, .int .u8 50, .int .u8 32, .int .u8 45, .int .u8 51, .int .u8 32] 5 (6, 7))))
  generalize w3.alloc (.cells #[.int .u8 49, .int .u8 50, .int .u8 32, .int .u8 45, .int .u8 51, .int .u8 32] 5 (6, 7)) = w4 at B ⊢
  go_wp2_with fail
  have BX := B
  have B := Lib.hid (below_more B.out (below_alloc w4 (.cells #[.int .i64 5] 3)))
  refine (HN.out _ (HT.out.step BX.out)).mono ?_
  rintro e w5 ⟨rfl, bb⟩
  have B := Lib.hid (below_more B.out bb)
  clear bb
  go_wp2_with fail
  refine (SN.out (0, 0) _).mono ?_
  rintro e w' ⟨rfl, rfl⟩
  have B := Lib.hid (below_more B.out (below_alloc w5 (.cells #[.int .u8 0, .int .u8 0, .int .u8 0, .int .u8 0, .int .u8 0, .int .u8 0, .int .u8 0, .int .u8 97, .int .u8 53, .int .u8 32] 5)))
  generalize w5.alloc (.cells #[.int .u8 0, .int .u8 0, .int .u8 0, .int .u8 0, .int .u8 0, .int .u8 0, .int .u8 0, .int .u8 97, .int .u8 53, .int .u8 32] 5) = w6 at B ⊢
  go_wp2_with fail
  refine (HP.out _).mono ?_
  rintro e w7 ⟨rfl, bb⟩
  have B := Lib.hid (below_more B.out bb)
  clear bb
  go_wp2_with fail
  refine (SP.out (0, 0) _).mono ?_
  rintro e w' ⟨rfl, rfl⟩
  have B := Lib.hid (below_more B.out (below_alloc w7 (.cells #[.int .u8 1, .int .u8 0, .int .u8 0, .int .u8 0, .int .u8 0, .int .u8 0, .int .u8 0, .int .u8 0, .int .u8 1, .int .u8 0, .int .u8 0, .int .u8 0, .int .u8 0, .int .u8 0, .int .u8 0, .int .u8 1, .int .u8 0] 5)))
  generalize w7.alloc (.cells #[.int .u8 1, .int .u8 0, .int .u8 0, .int .u8 0, .int .u8 0, .int .u8 0, .int .u8 0, .int .u8 0, .int .u8 1, .int .u8 0, .int .u8 0, .int .u8 0, .int .u8 0, .int .u8 0, .int .u8 0, .int .u8 1, .int .u8 0] 5) = w8 at B ⊢
  go_wp2_with fail
  go_ret
  exact ⟨rfl, B.out⟩
end Go.Proofs.YtlmkegpkodcofaaDoor
