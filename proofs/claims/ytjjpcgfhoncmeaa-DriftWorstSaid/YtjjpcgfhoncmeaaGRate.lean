/- Layer 7: package drift's Rate. -/
import Derived.Test.YtjjpcgfhoncmeaaGValid
import Derived.Test.YtjjpcgfhoncmeaaGBand
namespace Go.Proofs.Ytjjpcgfhoncmeaa
open Go.RowKit Go
set_option linter.unusedVariables false
set_option linter.unusedSimpArgs false

set_option maxHeartbeats 1000000 in
theorem rate_any (T : Tb) (x y : Int) (w : World) (ht : T.At w) :
    Calls Try.prog 11 #[T.val, .int .i64 x, .int .i64 y] w (Gives (.tuple #[.int .i64 (rateR T x y).1, .int .i64 (rateR T x y).2]) w) := by
  obtain ⟨W, hW⟩ : ∃ W, w.alloc (.cells T.cells 25) = W := ⟨_, rfl⟩
  have HT : Hid (Three W w.heap.size 25 (.slice T.A0 T.n0 T.c0) (.slice T.A1 T.n1 T.c1) (.slice T.A2 T.n2 T.c2)) := by rw [← hW]; exact Three.new w _ _ _ _
  have BW : Hid (Below w.heap.size w W) := by rw [← hW]; exact below_alloc w _
  have t0 := HT.out.c0
  have t1 := HT.out.c1
  have t2 := HT.out.c2
  have t3 := HT.out.lt
  have AT := Lib.hid (ht.step BW.out)
  have V := Lib.hid (fun q hq => valid_any T q hq W AT.out)
  by_cases ho : T.Ok
  · have V := Lib.hid (V.out true (by simp [ho]))
    have e1 : rateR T x y = (if cnt T.tm x = 0 ∨ cnt T.ag y = 0 then (0, 3) else (rateAt T.rt (cnt T.tm x - 1) (cnt T.ag y - 1), 0)) := if_pos ho
    have E1 := Lib.hid e1
    clear e1
    have CX := cnt_le T.tm x
    have CY := cnt_le T.ag y
    have CE := Lib.hid (fun q hq W' (b : Below W.heap.size W W') => cellOf_any T ho x y q hq W' (AT.out.step b))
    have HC := Lib.hid (fun W' (b : Below W.heap.size W W') (i k : Nat) (hi : i < T.tm.length) (hk : k < T.ag.length) => (AT.out.step b).cell ho hi hk)
    have l8 := ho.1.2.2
    have l9 := ho.2.1.2.2
    have ln2 := AT.out.2.2.2.2.2
    unfold Tb.val at V CE ⊢
    unfold Tb.cells at hW
    generalize cnt T.tm x = c at CE E1 CX
    generalize cnt T.ag y = d at CE E1 CY
    rcases (by omega : (c = 0 ∨ d = 0) ∨ (1 ≤ c ∧ 1 ≤ d)) with h | ⟨h, h'⟩
    · have CE := Lib.hid (CE.out false ⟨fun h => (by cases h), fun a => by omega⟩)
      have E2 := Lib.hid (E1.out.trans (if_pos h))
      generalize (c : Int) - 1 = c' at CE
      generalize (d : Int) - 1 = d' at CE
      clear h HC E1
      go_enter Try.func11, Try.ntmps11
      go_wp2_with (first
        | (go_at_call 13; (with_reducible refine V.out.mono ?_); rintro e w1 ⟨rfl, b1⟩; have HB := Lib.hid b1; have T1 := HT.out.below b1 t3; have s0 := T1.c0; have s1 := T1.c1; have s2 := T1.c2; have s3 := T1.lt; clear T1 b1 V)
        | (go_at_call 28; (with_reducible refine (CE.out _ HB.out).mono ?_); rintro e w2 ⟨rfl, b2⟩; have HC2 := Lib.hid (below_more HB.out b2); clear b2 CE))
      go_ret2
      exact ⟨by rw [E2.out]; rfl, BW.out.trans (HC2.out.mono BW.out.size)⟩
    · have CE := Lib.hid (CE.out true ⟨fun _ => ⟨h, h'⟩, fun _ => rfl⟩)
      have E2 := Lib.hid (E1.out.trans (if_neg (by omega)))
      obtain ⟨i, hi⟩ : ∃ i, c - 1 = i := ⟨_, rfl⟩
      obtain ⟨k, hk⟩ : ∃ k, d - 1 = k := ⟨_, rfl⟩
      rw [hi, hk] at E2
      rw [show (c : Int) - 1 = (i : Int) by omega, show (d : Int) - 1 = (k : Int) by omega] at CE
      have HK := Lib.hid (fun W' b => HC.out W' b i k (by omega) (by omega))
      have hA : ∃ p, T.A2 = some p := by
        obtain ⟨_, p, _, _, _, e, _⟩ := HC.out W (Below.refl _ _) i k (by omega) (by omega)
        exact ⟨p, e⟩
      obtain ⟨p, hp⟩ := hA
      rw [hp] at HT t2
      have HP := Lib.hid hp
      clear hp
      have gi : i < T.n2 := (HC.out W (Below.refl _ _) i k (by omega) (by omega)).1
      have gk : k < T.ag.length := by omega
      clear hi hk HC E1 h h'
      rw [HP.out] at hW CE V ⊢
      go_enter Try.func11, Try.ntmps11
      go_wp2_with (first
        | (go_at_call 13; (with_reducible refine V.out.mono ?_); rintro e w1 ⟨rfl, b1⟩; have HB := Lib.hid b1; have T1 := HT.out.below b1 t3; have s0 := T1.c0; have s1 := T1.c1; have s2 := T1.c2; have s3 := T1.lt; clear T1 b1 V)
        | (go_at_call 28; (with_reducible refine (CE.out _ HB.out).mono ?_); rintro e w2 ⟨rfl, b2⟩; have HC2 := Lib.hid (below_more HB.out b2); have T2 := HT.out.below HC2.out t3; have u0 := T2.c0; have u1 := T2.c1; have u2 := T2.c2; have u3 := T2.lt; clear T2 b2 CE; obtain ⟨_, p', a, m, cc, e2, e3, e4, e5⟩ := HK.out _ HC2.out; obtain rfl : p = p' := (by have := HP.out.symm.trans e2; injection this); have km : k < m := (by omega); have MM : m ≤ 9223372036854775807 := (by omega); have E4 := Lib.hid e4; clear e4; generalize rateAt T.rt i k = z at E2 e5))
      go_ret2
      exact ⟨by rw [E2.out]; rfl, BW.out.trans (HC2.out.mono BW.out.size)⟩
  · have V := Lib.hid (V.out false (by simp [ho]))
    have E1 := Lib.hid (show rateR T x y = (0, 1) from if_neg ho)
    clear ho
    unfold Tb.val at V ⊢
    unfold Tb.cells at hW
    go_enter Try.func11, Try.ntmps11
    go_wp2_with (go_at_call 13; (with_reducible refine V.out.mono ?_); rintro e w1 ⟨rfl, b1⟩)
    go_ret2
    exact ⟨by rw [E1.out]; rfl, BW.out.trans (b1.mono BW.out.size)⟩
end Go.Proofs.Ytjjpcgfhoncmeaa
