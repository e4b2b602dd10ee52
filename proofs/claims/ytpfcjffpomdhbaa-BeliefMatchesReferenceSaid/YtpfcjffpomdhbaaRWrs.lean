/- Layer 8: the reference's Worst (gen/gen_rest.py writes this). -/
import Derived.Test.YtpfcjffpomdhbaaRAt
namespace Go.Proofs.Ytpfcjffpomdhbaa
open Go.RowKit Go
set_option linter.unusedVariables false
set_option linter.unusedSimpArgs false

theorem rwrs_any (l h s : Int) (hs : I64 s) (w : World) :
    Calls Try.prog 21 #[rgV l h, .int .i64 s] w (Gives (.tuple #[.int .i64 (wrsR l h s).1, .int .i64 (wrsR l h s).2]) w) := by
  have EM : Hid (wrsR l h s = if IvOk l h ∧ TimeOk s then (max (s - l) (h - s), 0) else (0, 1)) := rfl
  generalize wrsR l h s = R at EM ⊢
  have V1 := Lib.hid (fun q hq => rvalid_any l h q hq)
  have V2 := Lib.hid (fun q hq => rtime_any s q hq hs)
  unfold rgV at V1 ⊢
  obtain ⟨W, hW⟩ : ∃ W, w.alloc (.cells #[.int .i64 l, .int .i64 h] 23) = W := ⟨_, rfl⟩
  have T0 : Hid (Two W w.heap.size 23 (.int .i64 l) (.int .i64 h)) := by rw [← hW]; exact Two.new w _ _ _
  have BW : Hid (Below w.heap.size w W) := by rw [← hW]; exact below_alloc w _
  have t0 := T0.out.c0
  have t1 := T0.out.c1
  have t2 := T0.out.lt
  by_cases q1 : IvOk l h
  · have V1 := Lib.hid (V1.out true ⟨fun _ => q1, fun _ => rfl⟩)
    by_cases q2 : TimeOk s
    · have V2 := Lib.hid (V2.out true ⟨fun _ => q2, fun _ => rfl⟩)
      have E := Lib.hid (EM.out.trans (if_pos ⟨q1, q2⟩))
      obtain ⟨z1, z2, z3⟩ := q1
      obtain ⟨z4, z5⟩ := q2
      go_enter Try.func21, Try.ntmps21
      go_wp2_with (first
        | (go_at_call 26; (with_reducible refine (V1.out _).mono ?_); rintro e w1 ⟨rfl, b1⟩; have T1 := Lib.hid (T0.out.below b1 T0.out.lt); have B1 := Lib.hid (below_more BW.out b1); have t0 := T1.out.c0; have t1 := T1.out.c1; have t2 := T1.out.lt; clear b1 V1)
        | (go_at_call 28; (with_reducible refine (V2.out _).mono ?_); rintro e w' ⟨rfl, rfl⟩; clear V2))
      go_ret2
      exact ⟨by rw [E.out]; rfl, B1.out⟩
    · have V2 := Lib.hid (V2.out false ⟨fun h => (by cases h), fun h => absurd h q2⟩)
      have E := Lib.hid (EM.out.trans (if_neg (fun z => q2 z.2)))
      clear q1 q2 EM
      go_enter Try.func21, Try.ntmps21
      go_wp2_with (first
        | (go_at_call 26; (with_reducible refine (V1.out _).mono ?_); rintro e w1 ⟨rfl, b1⟩; have T1 := Lib.hid (T0.out.below b1 T0.out.lt); have B1 := Lib.hid (below_more BW.out b1); have t0 := T1.out.c0; have t1 := T1.out.c1; have t2 := T1.out.lt; clear b1 V1)
        | (go_at_call 28; (with_reducible refine (V2.out _).mono ?_); rintro e w' ⟨rfl, rfl⟩; clear V2))
      go_ret2
      exact ⟨by rw [E.out]; rfl, B1.out⟩
  · have V1 := Lib.hid (V1.out false ⟨fun h => (by cases h), fun h => absurd h q1⟩)
    obtain ⟨q, hq⟩ : ∃ q : Bool, q = true ↔ TimeOk s := ⟨decide (TimeOk s), by simp⟩
    have V2 := Lib.hid (V2.out q hq)
    have E := Lib.hid (EM.out.trans (if_neg (fun z => q1 z.1)))
    clear q1 hq EM
    go_enter Try.func21, Try.ntmps21
    go_wp2_with (first
      | (go_at_call 26; (with_reducible refine (V1.out _).mono ?_); rintro e w1 ⟨rfl, b1⟩; have T1 := Lib.hid (T0.out.below b1 T0.out.lt); have B1 := Lib.hid (below_more BW.out b1); have t0 := T1.out.c0; have t1 := T1.out.c1; have t2 := T1.out.lt; clear b1 V1)
      | (go_at_call 28; (with_reducible refine (V2.out _).mono ?_); rintro e w' ⟨rfl, rfl⟩; clear V2))
    go_ret2
    exact ⟨by rw [E.out]; rfl, B1.out⟩
end Go.Proofs.Ytpfcjffpomdhbaa
