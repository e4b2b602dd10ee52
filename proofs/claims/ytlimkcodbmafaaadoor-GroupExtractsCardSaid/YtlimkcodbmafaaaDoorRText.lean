/- Layer 3: the reference's Text: the text of integers. -/
import Derived.Test.YtlimkcodbmafaaaDoorRDec2
namespace Go.Proofs.YtlimkcodbmafaaaDoor
open Go.RowKit Go.Sort Go
set_option linter.unusedVariables false

theorem textOf_length (zs : List Int) (h : ∀ x ∈ zs, -9223372036854775808 ≤ x ∧ x ≤ 9223372036854775807) : (textOf zs).length ≤ 21 * zs.length := by
  induction zs with
  | nil => simp [textOf]
  | cons x l ih =>
    have h1 := itoa_len20 x (h x (by simp)).1 (h x (by simp)).2
    have h2 := ih (fun y hy => h y (by simp [hy]))
    simp only [textOf, List.length_append, List.length_cons]
    omega

theorem own_below {w w' : World} {B : Nat} {e : TypeId} {s : Nat} {v : Value} {n : Nat} {xs : List Value} (h : w.ownsRow B e s v n xs) (hb : Below w.heap.size w w') : w'.ownsRow B e s v n xs :=
  h.kept (row := none) ⟨hb.os, hb.tape, hb.output, hb.size, fun k hk _ => hb.block k hk⟩ (by cases hv : v.ownBlock <;> simp)

set_option maxHeartbeats 4000000 in
theorem rtext_any (A : Option Addr) (len cap : Nat) (zs : List Int) (w : World) (hr : RowI w.heap.size w A len zs) (hl : len ≤ 1000000) :
    Calls Tryd.prog 41 #[.slice A len cap] w fun e w' => ∃ v, e = .returned v ∧ Own w.heap.size w' v (textOf zs) ∧ Below w.heap.size w w' := by
  obtain ⟨i0, hi, hz0, hz1, hz2⟩ := info_parts info_u8
  have HR := Lib.hid hr
  clear hr
  go_enter Tryd.func41, Tryd.ntmps41
  go_wp2_with fail
  go_loopw [3, 4] (fun s i wr => ∃ k : Nat, k ≤ len ∧ i = .int .i64 (k : Int) ∧ Hid (Own w.heap.size wr s (textOf (zs.take k))) ∧ Hid (Below w.heap.size w wr)) (fun _ i _ => len - (intOf i).toNat)
  case atStart => exact ⟨0, by omega, rfl, World.ownsRow_nil _ _ _ _, Below.refl _ _⟩
  case round =>
    obtain ⟨k, hk, rfl, HO, HB⟩ := hrel
    have hsz := HB.out.size
    by_cases hlt : k < len
    · obtain ⟨p, rfl, hp, hc⟩ := (HR.out.2.1.below HB.out) (by omega)
      have hx : wr.cell? (p.add k) = some (.int .i64 (zs.getD k 0)) := hc k hlt
      clear hc hp
      have hmem : zs.getD k 0 ∈ zs := by
        have : k < zs.length := by rw [HR.out.1]; exact hlt
        simp [List.getD, this]
      obtain ⟨lo, up⟩ := HR.out.2.2 _ hmem
      have hS := take_snoc zs 0 k (by rw [HR.out.1]; exact hlt)
      have hF : textOf (zs.take (k + 1)) = textOf (zs.take k) ++ Lib.itoa (zs.getD k 0) ++ [32] := by
        rw [hS, textOf_snoc]
      have hTl : (textOf (zs.take k)).length ≤ 21000000 := by
        have h1 := textOf_length (zs.take k) (fun x hx => HR.out.2.2 x (List.mem_of_mem_take hx))
        have h2 : (zs.take k).length ≤ k := by simp; omega
        omega
      generalize textOf (zs.take k) = T at hF HO hTl
      generalize zs.getD k 0 = x at hx hF lo up
      have HF := Lib.hid hF
      have hlen := itoa_len20 x lo up
      have HA := Lib.hid (rdec_any x lo up)
      have hsize := size_list (Lib.itoa x)
      generalize Lib.itoa x = L at HF hlen HA hsize
      clear hF hmem hS lo up
      go_wp2_with (go_at_call 45; refine (HA.out wr).mono ?_; rintro e w1 ⟨rfl, hb1⟩; refine Hid.out ?_)
      refine Lib.hid ?_
      have HO1 := Lib.hid (own_below HO.out hb1)
      have HB1 := Lib.hid (below_more HB.out hb1)
      have hsz1 := HB1.out.size
      clear hb1
      go_wp2_with (at_builtin; refine Lib.wpList_append_own_string _ rfl _ _ 55 9 rfl w.heap.size 5 i0 Tryd.underlying55 Tryd.underlying9 hi hz0 hz1 hz2 _ _ _ rfl HO1.out ⟨L.toArray⟩ rfl (by rw [hsize]; unfold maxLen; omega) (by rw [hsize]; omega) hsz1 ?_; refine Hid.out ?_)
      refine Lib.hid ?_
      intro v' w2 hown' hgrow _
      have hb2 : Below w.heap.size w w2 := HB1.out.grown hgrow hsz1 (fun k ek => (World.ownsRow.lt HO1.out k ek).1)
      have HO2 : Hid (w2.ownsRow w.heap.size 5 1 v' (T.length + L.length) (Lib.byteCells (T ++ L))) := by
        show w2.ownsRow _ _ _ _ _ _
        rw [Lib.byteCells_append, ← Lib.strCells_toArray L]
        first | exact hown' | (rw [hsize] at hown'; exact hown')
      have HB2 := Lib.hid hb2
      have hsz2 := HB2.out.size
      clear hown' hgrow hb2
      go_wp2_with (at_builtin; refine wpList_append_own _ rfl _ _ 55 rfl w.heap.size 5 i0 (.int .u8 0) 1 1 Tryd.underlying55 hi hz0 hz1 hz2 rfl (by decide) _ _ _ rfl (HO2.out.alloc _) ⟨w2.heap.size, 0, none⟩ 1 1 [Value.int .u8 32] rfl rfl (by intro j u' hj; match j, hj with | 0, hj => simp at hj; subst hj; simp [Addr.add]) (by simp [Value.oneCell']) (by unfold maxLen; omega) (by omega) (by simp; omega) ?_; refine Hid.out ?_)
      refine Lib.hid ?_
      intro v3 w3 hown' hgrow _
      have hb3 : Below w.heap.size w w3 := (HB2.out.alloc hsz2 _).grown hgrow (by simp; omega) (fun k ek => (World.ownsRow.lt HO2.out k ek).1)
      have HO3 : Hid (Own w.heap.size w3 v3 (textOf (zs.take (k + 1)))) := by
        show w3.ownsRow _ _ _ _ _ _
        rw [HF.out, List.length_append, List.length_append, ← byteCells_snoc']
        exact hown'
      have HB3 := Lib.hid hb3
      clear hown' hgrow hb3
      go_wp2_with fail
      go_roundw
      case rel => exact ⟨k + 1, by omega, by go_num, HO3, HB3⟩
      case measure => simp [intOf]; omega
    · obtain rfl : k = len := by omega
      have hE : zs.take k = zs := by rw [← HR.out.1]; exact List.take_length
      rw [hE] at HO
      clear hE
      go_wp2_with fail
      go_ret
      exact ⟨_, rfl, HO.out, HB.out⟩
end Go.Proofs.YtlimkcodbmafaaaDoor
