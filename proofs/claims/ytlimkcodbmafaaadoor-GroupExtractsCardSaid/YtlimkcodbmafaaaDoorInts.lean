/- Layer 3: what foldInts, Ints, bytesOf, Next and Pair of package digest return; nothing that was in memory is changed. -/
import Derived.Test.YtlimkcodbmafaaaDoorApp
namespace Go.Proofs.YtlimkcodbmafaaaDoor
open Go.RowKit Go.Sort Go
set_option linter.unusedVariables false

/-- The table of powers of ten lies as it was laid. -/
def Tab (w : World) : Prop := Lib.TabIs Tryd.prog w "internal/strconv.uint64pow10" .u64 Lib.pow10Tab
theorem Tab.step {w w' : World} (h : Tab w) (b : Below w.heap.size w w') : Tab w' := Lib.tabBelow_of_tabIs h w' b
theorem Tab.from {w wr : World} (h : Tab w) (b : Below w.heap.size w wr) : Lib.TabBelow Tryd.prog w.heap.size wr "internal/strconv.uint64pow10" .u64 Lib.pow10Tab := fun w' b' => Lib.tabBelow_of_tabIs h w' (b.trans b')

/-- An array (or a row) whose first cells are bytes is a slice of these bytes. -/
theorem InRow.row8 {w : World} {g T N n : Nat} {bs : List UInt8} (h : InRow w g T N (Lib.byteCells bs)) (hn : n = bs.length) : Row8 w.heap.size w (some ⟨g, 0, none⟩) n bs := by
  subst hn
  refine ⟨rfl, fun _ => ⟨_, rfl, h.lt, fun i hi => ?_⟩⟩
  rw [h.cell i (by rw [Lib.byteCells_length]; exact hi)]
  simp [Lib.byteCells, List.getD, hi]

theorem byteCells_snoc' (bs : List UInt8) : Lib.byteCells bs ++ [Value.int .u8 32] = Lib.byteCells (bs ++ [32]) := by
  simp [Lib.byteCells]

set_option maxHeartbeats 2000000 in
theorem foldInts_any (h : Nat) (hh : h < 18446744073709551616) (A : Option Addr) (len cap : Nat) (zs : List Int) (w : World) (hr : RowI w.heap.size w A len zs) (hl : len ≤ 9223372036854775807) (htab : Tab w) :
    Calls Tryd.prog 44 #[.int .u64 h, .slice A len cap] w (Gives (.int .u64 (fnv h (textOf zs) : Int)) w) := by
  have HR := Lib.hid hr
  have HH := Lib.hid hh
  have HT := Lib.hid htab
  clear hr hh htab
  obtain ⟨i0, hi, hz0, hz1, hz2⟩ := info_parts info_u8
  go_enter Tryd.func44, Tryd.ntmps44
  go_wp2_with fail
  obtain ⟨W, hW⟩ : ∃ W, w.alloc (.cells #[.int .u8 0, .int .u8 0, .int .u8 0, .int .u8 0, .int .u8 0, .int .u8 0, .int .u8 0, .int .u8 0, .int .u8 0, .int .u8 0, .int .u8 0, .int .u8 0, .int .u8 0, .int .u8 0, .int .u8 0, .int .u8 0, .int .u8 0, .int .u8 0, .int .u8 0, .int .u8 0, .int .u8 0] 61) = W := ⟨_, rfl⟩
  rw [hW]
  have HI : Hid (InRow W w.heap.size 61 21 []) := by
    rw [← hW]
    exact ⟨_, heap_alloc_new w _, rfl, rfl⟩
  have HB : Hid (Below w.heap.size w W) := by
    rw [← hW]
    exact (Below.refl _ _).alloc (Nat.le_refl _) _
  clear hW
  go_loopw [0, 10] (fun s i wr => ∃ k : Nat, k ≤ len ∧ i = .int .i64 k ∧ s = .int .u64 (fnv h (textOf (zs.take k)) : Int) ∧ Hid (InRow wr w.heap.size 61 21 []) ∧ Hid (Below w.heap.size w wr)) (fun _ i _ => len - (intOf i).toNat)
  case atStart => exact ⟨0, Nat.zero_le _, rfl, by rw [List.take_zero, textOf, fnv_nil], HI, HB⟩
  case round =>
    obtain ⟨k, hk, rfl, rfl, HIr, HBr⟩ := hrel
    by_cases hlt : k < len
    · obtain ⟨p, rfl, hp, hc⟩ := (HR.out.2.1.below HBr.out) (by omega)
      have hx : wr.cell? (p.add k) = some (.int .i64 (zs.getD k 0)) := hc k hlt
      clear hc hp
      have hmem : zs.getD k 0 ∈ zs := by
        have : k < zs.length := by rw [HR.out.1]; exact hlt
        simp [List.getD, this]
      obtain ⟨lo, up⟩ := HR.out.2.2 _ hmem
      have hS := take_snoc zs 0 k (by rw [HR.out.1]; exact hlt)
      have hF : fnv h (textOf (zs.take (k + 1))) = fnv (fnv h (textOf (zs.take k))) (Lib.itoa (zs.getD k 0) ++ [32]) := by
        rw [hS, textOf_snoc, List.append_assoc, fnv_append]
      have hlt2 := fnv_lt (textOf (zs.take k)) h HH.out
      clear hmem hS
      generalize fnv h (textOf (zs.take k)) = s at hF hlt2 ⊢
      generalize zs.getD k 0 = x at hx hF lo up
      have HF := Lib.hid hF
      have HS := Lib.hid hlt2
      have hlen := itoa_len20 x lo up
      have HA := Lib.hid (appi_any x lo up w.heap.size 61 21 [] wr HIr.out (by simp; omega) (HT.out.from HBr.out))
      simp only [List.nil_append, List.length_nil, Nat.zero_add] at HA
      generalize hL : Lib.itoa x = bs at HF hlen HA
      rw [show bs.length = (Lib.byteCells bs).length from (Lib.byteCells_length bs).symm] at HA
      clear hF hlt2 hL
      have hw48 : w.heap.size < wr.heap.size := HIr.out.lt
      have wx : IntKind.i64.wrap x = x := by rw [IntKind.wrap_i64]; omega
      go_wp2_with (go_at_call 47; refine HA.out.mono ?_; rintro e w1 ⟨rfl, hin1, hb1⟩; refine Hid.out ?_)
      refine Lib.hid ?_
      have HB1 := Lib.hid (HBr.out.trans hb1)
      have HI1 := Lib.hid hin1
      clear hin1 hb1
      have hba := HB1.out.alloc (HB1.out.size) (.cells #[Value.int .u8 32] 5)
      have HBA := Lib.hid hba
      clear hba
      go_wp2_with (first
        | (at_builtin; refine wpList_append_in _ rfl _ _ 55 rfl 5 i0 Tryd.underlying55 hi hz1 w.heap.size 61 21 (Lib.byteCells bs) rfl (HI1.out.alloc _) ⟨w1.heap.size, 0, none⟩ 1 1 [Value.int .u8 32] rfl rfl (by intro j u' hj; match j, hj with | 0, hj => simp at hj; subst hj; simp [Addr.add]) (by simp [Value.oneCell']) (by rw [Lib.byteCells_length]; omega) ?_; refine Hid.out ?_))
      refine Lib.hid ?_
      intro w2 hin2 hgrow
      have hb2 : Below w.heap.size w w2 := HBA.out.grown hgrow HBA.out.size (fun k hk => by cases hk; exact Nat.le_refl _)
      rw [byteCells_snoc'] at hin2
      have hrow : Row8 w2.heap.size w2 (some ⟨w.heap.size, 0, none⟩) ((Lib.byteCells bs).length + 1) (bs ++ [32]) := hin2.row8 (by rw [Lib.byteCells_length, List.length_append]; rfl)
      have HFO := Lib.hid (fold_any s HS.out _ _ 21 _ w2 hrow (by rw [Lib.byteCells_length]; omega))
      rw [← HF.out] at HFO
      have HI2 := Lib.hid hin2.empty
      have HB2 := Lib.hid hb2
      clear hin2 hgrow hb2 hrow
      go_wp2_with (go_at_call 46; refine HFO.out.mono ?_; rintro e w3 ⟨rfl, rfl⟩)
      go_roundw
      case rel => exact ⟨k + 1, by omega, by go_num, rfl, HI2, HB2⟩
      case measure => simp [intOf]; omega
    · obtain rfl : k = len := by omega
      have hE : zs.take k = zs := by rw [← HR.out.1]; exact List.take_length
      rw [hE]
      clear hE
      go_wp2_with fail
      go_ret
      exact ⟨rfl, HBr.out⟩
end Go.Proofs.YtlimkcodbmafaaaDoor
