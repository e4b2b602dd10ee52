/- Layer 4: appendNumber: the bytes of a number behind what the call owns. -/
import Derived.OwnWalk
import Derived.Test.YtdambggcaimndaaApps
import Derived.Test.YtdambggcaimndaaList
namespace Go.Proofs.Ytdambggcaimndaa
open Go.RowKit Go.Sort Go
set_option linter.unusedVariables false

def numB (s d : Nat) : List UInt8 := (List.range s).map fun i => byteAt d (s - 1 - i)
theorem numB_three (d : Nat) : numB 3 d = three d := rfl
theorem numB_eight (d : Nat) : numB 8 d = eight d := rfl
theorem numB_take (s d k : Nat) (h : k < s) : (numB s d).take (k + 1) = (numB s d).take k ++ [byteAt d (s - 1 - k)] := by
  have hl : k < (numB s d).length := by simp [numB, h]
  rw [List.take_succ_eq_append_getElem hl]
  simp [numB]
theorem numB_all (s d : Nat) : (numB s d).take s = numB s d := List.take_of_length_le (by simp [numB])
theorem numB_len (s d : Nat) : (numB s d).length = s := by simp [numB]

theorem one_u8 (W : World) (x : Int) : ∀ j u, ([Value.int .u8 x] : List Value)[j]? = some u → (W.alloc (.cells #[.int .u8 x] 5)).cell? ((⟨W.heap.size, 0, none⟩ : Addr).add j) = some u := by
  intro j u' hj
  match j, hj with
  | 0, hj => simp at hj; subst hj; simp [Addr.add]
  | j + 1, hj => simp at hj

set_option maxHeartbeats 2000000 in
theorem app_num (B0 : Nat) (v : Value) (bs : List UInt8) (d s : Nat) (w : World) (hd : d < 18446744073709551616) (hs : s ≤ 8) (hown : Own B0 w v bs) (hB : B0 ≤ w.heap.size) (hl : bs.length ≤ 1000000) :
    Calls Try.prog 27 #[v, .int .u64 d, .int .i64 s] w fun e w' => ∃ v', e = .returned v' ∧ Own B0 w' v' (bs ++ numB s d) ∧ Below B0 w w' := by
  obtain ⟨i0, hi, hz0, hz1, hz2⟩ := info_parts info_u8
  have HO := Lib.hid hown
  clear hown
  go_enter Try.func27, Try.ntmps27
  go_wp2_with fail
  go_loopw [0, 9] (fun x i wr => ∃ k : Nat, k ≤ s ∧ i = .int .i64 k ∧ Hid (Own B0 wr x (bs ++ (numB s d).take k)) ∧ Below B0 w wr) (fun _ i _ => s - (intOf i).toNat)
  case atStart => exact ⟨0, Nat.zero_le _, rfl, by show Own _ _ _ _; rw [List.take_zero, List.append_nil]; exact HO.out, Below.refl _ _⟩
  case round =>
    obtain ⟨k, hk, rfl, HX, hb⟩ := hrel
    by_cases hlt : k < s
    · have f1 : decide ((k : Int) < (s : Int)) = true := by rw [decide_eq_true_eq]; omega
      have e1 : IntKind.i64.wrap ((s : Int) - 1) = (s : Int) - 1 := IntWalk.i64_in _ (by omega)
      have e2 : IntKind.i64.wrap ((s : Int) - 1 - (k : Int)) = (s : Int) - 1 - (k : Int) := IntWalk.i64_in _ (by omega)
      obtain ⟨m, hm⟩ : ∃ m, m = 8 * (s - 1 - k) := ⟨_, rfl⟩
      have e3 : IntKind.i64.wrap (8 * ((s : Int) - 1 - (k : Int))) = (m : Int) := by rw [IntWalk.i64_in _ (by omega)]; omega
      have ec : Hid ((d : Int) / 2 ^ (8 * (s - 1 - k)) % 256 = ((byteAt d (s - 1 - k)).toNat : Int)) := by
        show _ = _
        rw [byteAt_toNat]; simp
      have HT := Lib.hid (numB_take s d k hlt)
      have hnl : (bs ++ (numB s d).take k).length ≤ 1000008 := by
        have := numB_len s d
        rw [List.length_append, List.length_take]; omega
      have hsz := hb.size
      go_wp2_with (at_builtin; rw [ec.out]; refine wpList_append_own _ rfl _ _ 23 rfl B0 5 i0 (.int .u8 0) 1 1 Try.underlying23 hi hz0 hz1 hz2 rfl (by decide) _ _ _ rfl (World.ownsRow.alloc HX.out _) ⟨wr.heap.size, 0, none⟩ 1 1 [Value.int .u8 ((byteAt d (s - 1 - k)).toNat : Int)] rfl rfl (one_u8 wr _) (by simp [Value.oneCell']) (by unfold maxLen; omega) (by omega) (by simp; omega) ?_; refine Hid.out ?_)
      refine Lib.hid ?_
      intro v' w4 own4 gr4 _
      have hB4 : Below B0 w w4 := by
        have h1 : Below B0 w (wr.alloc (.cells #[.int .u8 ((byteAt d (s - 1 - k)).toNat : Int)] 5)) := hb.alloc (by omega) _
        exact h1.grown gr4 (by simp; omega) (fun j ej => (World.ownsRow.lt HX.out j ej).1)
      have HO4 : Hid (Own B0 w4 v' (bs ++ (numB s d).take (k + 1))) := by
        show w4.ownsRow _ _ _ _ _ _
        rw [HT.out, ← List.append_assoc, Lib.byteCells_append, List.length_append, List.length_append, List.length_take]
        exact own4
      clear own4 gr4 hb
      go_wp2_with fail
      go_roundw
      case rel => exact ⟨k + 1, by omega, by go_num, HO4, hB4⟩
      case measure => simp [intOf]; omega
    · obtain rfl : k = s := by omega
      have f1 : decide ((k : Int) < (k : Int)) = false := by simp
      have HE := Lib.hid (numB_all k d)
      go_wp2_with fail
      go_ret
      refine ⟨_, rfl, ?_, hb⟩
      have h := HX.out
      rwa [HE.out] at h
end Go.Proofs.Ytdambggcaimndaa
