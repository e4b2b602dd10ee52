/- Layer 4's own functions (gen/from_s04g.py): Put. -/
import Derived.Test.YtmfbnajaocaikaaGApp
namespace Go.Proofs.Ytmfbnajaocaikaa
open Go.RowKit Go.Sort Go
set_option linter.unusedVariables false
set_option linter.unusedSimpArgs false
set_option maxHeartbeats 2000000 in
theorem put_any (A : Option Addr) (len cap : Nat) (l : List Int) (w : World) (hr : RowI w.heap.size w A len l) (hl : len ≤ 9223372036854775807) :
    Calls Try.prog 40 #[.slice A len cap] w (PutEnd l (listB l) w) := by
  have hll := hr.1
  have HR := Lib.hid hr
  clear hr
  by_cases hbig : 1000 < len
  · have f1 : decide ((1000 : Int) < (len : Int)) = true := by rw [decide_eq_true_eq]; omega
    go_enter Try.func40, Try.ntmps40
    go_wp2_with fail
    go_ret2
    exact ⟨Below.refl _ _, .inr ⟨by omega, rfl⟩⟩
  · have f1 : decide ((1000 : Int) < (len : Int)) = false := by rw [decide_eq_false_iff_not]; omega
    have h0 := app_int w.heap.size (.slice none 0 0) [] (len : Int) w (by unfold InI; omega) (World.ownsRow_nil _ _ _ _) (Nat.le_refl _) (by simp)
    rw [List.nil_append] at h0
    have H0 := Lib.hid h0
    clear h0
    go_enter Try.func40, Try.ntmps40
    go_wp2_with (go_at_call 50; refine H0.out.mono ?_; rintro e w1 ⟨v1, rfl, o1, b1⟩; have O1 := Lib.hid o1; have B1 := Lib.hid b1; clear o1 b1)
    go_loopw [4, 15] (fun x i wr => ∃ k : Nat, k ≤ len ∧ i = .int .i64 k ∧ Hid (Own w.heap.size wr x (intB len ++ (l.take k).flatMap intB)) ∧ Hid (Below w.heap.size w wr)) (fun _ i _ => len - (intOf i).toNat)
    case atStart => exact ⟨0, Nat.zero_le _, rfl, by show Own _ _ _ _; simpa using O1.out, B1⟩
    case round =>
      obtain ⟨k, hk, rfl, HX, hb⟩ := hrel
      by_cases hlt : k < len
      · have f2 : decide ((k : Int) < (len : Int)) = true := by rw [decide_eq_true_eq]; omega
        have hrow := (HR.out.step hb.out)
        obtain ⟨p, rfl, hp, hc⟩ := hrow.2.1 (by omega)
        have hx : World.cell? _ (p.add k) = some (.int .i64 (l.getD k 0)) := hc k hlt
        have hxi : InI (l.getD k 0) := HR.out.2.2 _ (by rw [List.getD_eq_getElem?_getD, List.getElem?_eq_getElem (by omega)]; simp)
        have hT := flatMap_len _ (take_all l k HR.out.2.2)
        have h10 : (intB (len : Int)).length ≤ 10 := intB_len (by unfold InI; omega)
        have HC := Lib.hid (app_int w.heap.size _ _ (l.getD k 0) _ hxi HX.out hb.out.size (by rw [List.length_append]; rw [List.length_take] at hT; omega))
        have HS := Lib.hid (put_step l k (by omega))
        clear hc hp hrow hT h10
        generalize l.getD k 0 = y at hx hxi HC HS
        go_wp2_with (go_at_call 50; refine HC.out.mono ?_; rintro e w3 ⟨v3, rfl, o3, b3⟩; have O3 := Lib.hid o3; have B3 := Lib.hid b3; clear o3 b3)
        go_roundw
        case rel => exact ⟨k + 1, by omega, by go_num, by show Own _ _ _ _; rw [HS.out, ← List.append_assoc]; exact O3.out, hb.out.trans B3.out⟩
        case measure => simp [intOf]; omega
      · obtain rfl : k = len := by omega
        have f2 : decide ((k : Int) < (k : Int)) = false := by simp
        have HE : Hid (l.take k = l) := by show _ = _; rw [← hll]; exact List.take_length
        go_wp2_with fail
        go_ret2
        refine ⟨hb.out, .inl ⟨by omega, _, rfl, ?_⟩⟩
        have h := HX.out
        rw [HE.out] at h
        rw [listB, hll]
        exact h
end Go.Proofs.Ytmfbnajaocaikaa
