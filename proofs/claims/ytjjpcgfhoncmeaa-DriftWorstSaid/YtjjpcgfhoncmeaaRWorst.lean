/- Layer 7: the reference's Worst. -/
import Derived.Test.YtjjpcgfhoncmeaaRRate
namespace Go.Proofs.Ytjjpcgfhoncmeaa
open Go.RowKit Go
set_option linter.unusedVariables false
set_option linter.unusedSimpArgs false

theorem maxRow_nonneg (l : List Int) (k n : Nat) : 0 ≤ maxRow l k n := by
  induction n with
  | zero => exact Int.le_refl _
  | succ n ih => simp only [maxRow]; omega
theorem maxTab_nonneg (rt : List (List Int)) (i k n m : Nat) : 0 ≤ maxTab rt i k n m := by
  induction m with
  | zero => exact Int.le_refl _
  | succ m ih => simp only [maxTab]; omega
theorem maxRow_le (l : List Int) (k n : Nat) (h : ∀ j, j < n → l.getD (k + j) 0 ≤ 1000000) : maxRow l k n ≤ 1000000 := by
  induction n with
  | zero => simp [maxRow]
  | succ n ih =>
    have a := ih (fun j hj => h j (by omega))
    have b := h n (by omega)
    simp only [maxRow]; omega
theorem maxTab_le (rt : List (List Int)) (i k n m : Nat) (h : ∀ a j, a < m → j < n → (rt.getD (i + a) []).getD (k + j) 0 ≤ 1000000) : maxTab rt i k n m ≤ 1000000 := by
  induction m with
  | zero => simp [maxTab]
  | succ m ih =>
    have a := ih (fun a j ha hj => h a j (by omega) hj)
    have b := maxRow_le (rt.getD (i + m) []) k n (fun j hj => h m j (by omega) hj)
    simp only [maxTab]; omega

def rgV (lo hi : Int) : Value := .agg #[.int .i64 lo, .int .i64 hi]

set_option maxHeartbeats 4000000 in
theorem rworst_yes (T : Tb) (ho : T.Ok) (tl th al ah : Int) (h1 : tl ≤ th) (h2 : al ≤ ah) (w : World) (ht : T.At w) :
    Calls Try.prog 16 #[T.val, rgV tl th, rgV al ah] w (Gives (.tuple #[.int .i64 (worstR T tl th al ah).1, .int .i64 (worstR T tl th al ah).2]) w) := by
  obtain ⟨W, hW⟩ : ∃ W, ((w.alloc (.cells T.cells 25)).alloc (.cells #[.int .i64 tl, .int .i64 th] 27)).alloc (.cells #[.int .i64 al, .int .i64 ah] 27) = W := ⟨_, rfl⟩
  have HT : Hid (Three W w.heap.size 25 (.slice T.A0 T.n0 T.c0) (.slice T.A1 T.n1 T.c1) (.slice T.A2 T.n2 T.c2)) := by rw [← hW]; exact ((Three.new w _ _ _ _).alloc _).alloc _
  have HU : Hid (Two W (w.heap.size + 1) 27 (.int .i64 tl) (.int .i64 th)) := by
    rw [← hW]
    have h := Two.new (w.alloc (.cells T.cells 25)) 27 (.int .i64 tl) (.int .i64 th)
    rw [show (w.alloc (.cells T.cells 25)).heap.size = w.heap.size + 1 by simp] at h
    exact h.alloc _
  have HV : Hid (Two W (w.heap.size + 1 + 1) 27 (.int .i64 al) (.int .i64 ah)) := by
    rw [← hW]
    have h := Two.new ((w.alloc (.cells T.cells 25)).alloc (.cells #[.int .i64 tl, .int .i64 th] 27)) 27 (.int .i64 al) (.int .i64 ah)
    rw [show ((w.alloc (.cells T.cells 25)).alloc (.cells #[.int .i64 tl, .int .i64 th] 27)).heap.size = w.heap.size + 1 + 1 by simp] at h
    exact h
  have BW : Hid (Below w.heap.size w W) := by rw [← hW]; exact (((below_alloc w _).alloc (by simp) _).alloc (by simp; omega) _)
  have t3 := HT.out.lt
  have t0 := HT.out.c0
  have t1 := HT.out.c1
  have t2 := HT.out.c2
  have AT := Lib.hid (ht.step BW.out)
  have V := Lib.hid (rvalid_any T true (by simp [ho]) W AT.out)
  have B0 := Lib.hid (fun W' (b : Below W.heap.size W W') => rband_any T.A0 T.n0 T.c0 T.tm tl ho.1 W' (AT.out.1.step b) AT.out.2.2.2.1)
  have B1 := Lib.hid (fun W' (b : Below W.heap.size W W') => rband_any T.A1 T.n1 T.c1 T.ag al ho.2.1 W' (AT.out.2.1.step b) AT.out.2.2.2.2.1)
  have B2 := Lib.hid (fun W' (b : Below W.heap.size W W') => rband_any T.A0 T.n0 T.c0 T.tm th ho.1 W' (AT.out.1.step b) AT.out.2.2.2.1)
  have B3 := Lib.hid (fun W' (b : Below W.heap.size W W') => rband_any T.A1 T.n1 T.c1 T.ag ah ho.2.1 W' (AT.out.2.1.step b) AT.out.2.2.2.2.1)
  have HC := Lib.hid (fun W' (b : Below W.heap.size W W') (i k : Nat) (hi : i < T.tm.length) (hk : k < T.ag.length) => (AT.out.step b).cell ho hi hk)
  have HRT := Lib.hid (fun i k hi hk => ho.rate (i := i) (k := k) hi hk)
  have e1 : worstR T tl th al ah = (if cnt T.tm tl = 0 ∨ cnt T.ag al = 0 then (0, 3) else (maxTab T.rt (cnt T.tm tl - 1) (cnt T.ag al - 1) (cnt T.ag ah + 1 - cnt T.ag al) (cnt T.tm th + 1 - cnt T.tm tl), 0)) := if_pos ⟨ho, h1, h2⟩
  have E1 := Lib.hid e1
  have C0 := cnt_le T.tm th
  have C1 := cnt_le T.ag ah
  have C2 := cnt_mono ho.1 h1
  have C3 := cnt_mono ho.2.1 h2
  have l8 := ho.1.2.2
  have l9 := ho.2.1.2.2
  have ln2 := AT.out.2.2.2.2.2
  clear e1
  generalize cnt T.tm tl = c at B0 E1 C2
  generalize cnt T.ag al = d at B1 E1 C3
  generalize cnt T.tm th = c' at B2 E1 C2 C0
  generalize cnt T.ag ah = d' at B3 E1 C3 C1
  unfold Tb.val at V ⊢
  unfold Tb.cells at hW
  unfold rgV
  have f1 : decide (th < tl) = false := by simp; omega
  have f2 : decide (ah < al) = false := by simp; omega
  have u0 := HU.out.c0
  have u1 := HU.out.c1
  have u2 := HU.out.lt
  have v0 := HV.out.c0
  have v1 := HV.out.c1
  have v2 := HV.out.lt
  go_enter Try.func16, Try.ntmps16
  go_wp2_with (go_at_call 14; refine V.out.mono ?_; rintro e w1 ⟨rfl, b1⟩; refine Hid.out ?_)
  refine Lib.hid ?_
  have T1 := HT.out.below b1 t3
  have U1 := HU.out.below b1 u2
  have V1 := HV.out.below b1 v2
  have HB := Lib.hid b1
  clear t0 t1 t2 t3 u0 u1 u2 v0 v1 v2 b1 V hW
  have t0 := T1.c0
  have t1 := T1.c1
  have t2 := T1.c2
  have t3 := T1.lt
  have u0 := U1.c0
  have u1 := U1.c1
  have u2 := U1.lt
  have v0 := V1.c0
  have v1 := V1.c1
  have v2 := V1.lt
  have BE : Hid (Below w.heap.size w w1) := BW.out.trans (HB.out.mono BW.out.size)
  have B0 := Lib.hid (B0.out w1 HB.out)
  have B1 := Lib.hid (B1.out w1 HB.out)
  have B2 := Lib.hid (B2.out w1 HB.out)
  have B3 := Lib.hid (B3.out w1 HB.out)
  have HC := Lib.hid (HC.out w1 HB.out)
  clear T1 U1 V1
  rcases (by omega : c = 0 ∨ (1 ≤ c ∧ d = 0) ∨ (1 ≤ c ∧ 1 ≤ d)) with h | ⟨h, h'⟩ | ⟨h, h'⟩
  · subst h
    have E2 := Lib.hid (E1.out.trans (if_pos (.inl rfl)))
    go_wp2_with (first
      | (go_at_call 29; with_reducible refine B0.out.mono ?_; rintro e w' ⟨rfl, rfl⟩; clear B0)
      | (go_at_call 29; with_reducible refine B1.out.mono ?_; rintro e w' ⟨rfl, rfl⟩; clear B1))
    go_ret2
    exact ⟨by rw [E2.out]; rfl, BE.out⟩
  · subst h'
    have E2 := Lib.hid (E1.out.trans (if_pos (.inr rfl)))
    have ec : decide ((c : Int) - 1 < 0) = false := by simp; omega
    go_wp2_with (first
      | (go_at_call 29; with_reducible refine B0.out.mono ?_; rintro e w' ⟨rfl, rfl⟩; clear B0)
      | (go_at_call 29; with_reducible refine B1.out.mono ?_; rintro e w' ⟨rfl, rfl⟩; clear B1))
    all_goals (go_ret2; exact ⟨by rw [E2.out]; rfl, BE.out⟩)
  · have E2 := Lib.hid (E1.out.trans (if_neg (by omega)))
    obtain ⟨i, hi⟩ : ∃ i, c - 1 = i := ⟨_, rfl⟩
    obtain ⟨k, hk⟩ : ∃ k, d - 1 = k := ⟨_, rfl⟩
    obtain ⟨M, hM⟩ : ∃ M, c' + 1 - c = M := ⟨_, rfl⟩
    obtain ⟨N, hN⟩ : ∃ N, d' + 1 - d = N := ⟨_, rfl⟩
    rw [hi, hk, hM, hN] at E2
    obtain ⟨I, hI⟩ : ∃ I : Nat, c' - 1 = I := ⟨_, rfl⟩
    obtain ⟨J, hJ⟩ : ∃ J : Nat, d' - 1 = J := ⟨_, rfl⟩
    rw [show (c : Int) - 1 = (i : Int) by omega] at B0
    rw [show (d : Int) - 1 = (k : Int) by omega] at B1
    rw [show (c' : Int) - 1 = (I : Int) by omega] at B2
    rw [show (d' : Int) - 1 = (J : Int) by omega] at B3
    have g1 := Lib.hid (show i + M = I + 1 by omega)
    have g2 := Lib.hid (show k + N = J + 1 by omega)
    have g3 : I < T.tm.length := by omega
    have g4 : J < T.ag.length := by omega
    have g5 : i ≤ I := by omega
    have g6 : k ≤ J := by omega
    clear hi hk hM hN hI hJ h h' C0 C1 C2 C3 E1
    obtain ⟨p, hp⟩ : ∃ p, T.A2 = some p := by
      obtain ⟨_, p, _, _, _, e, _⟩ := HC.out i k (by omega) (by omega)
      exact ⟨p, e⟩
    rw [hp] at t2
    have HP := Lib.hid hp
    clear hp
    go_wp2_with (first
      | (go_at_call 29; with_reducible refine B0.out.mono ?_; rintro e w' ⟨rfl, rfl⟩; clear B0)
      | (go_at_call 29; with_reducible refine B1.out.mono ?_; rintro e w' ⟨rfl, rfl⟩; clear B1))
    go_loop [11, 12, 13] (fun o a b => ∃ A m : Nat, a = .int .i64 A ∧ o = .int .i64 (maxTab T.rt i k N m) ∧ A ≤ I + 1 ∧ m ≤ M ∧ i ≤ A ∧ Hid (A = i + m)) (fun _ a _ => (I + 1 - intOf a).toNat)
    case atStart => exact ⟨i, 0, rfl, rfl, by omega, by omega, by omega, rfl⟩
    case round =>
      obtain ⟨A, m, rfl, rfl, A1, m1, A2, AM⟩ := hrel
      by_cases hA : A ≤ I
      · generalize hX : maxTab T.rt i k N m = X
        have HX := Lib.hid hX
        clear hX
        go_wp2_with (go_at_call 29; with_reducible refine B2.out.mono ?_; rintro e w' ⟨rfl, rfl⟩)
        go_loop [11, 13] (fun o b => ∃ (B n : Nat) (y : Int), b = .int .i64 B ∧ o = .int .i64 y ∧ B ≤ J + 1 ∧ n ≤ N ∧ k ≤ B ∧ Hid (B = k + n) ∧ Hid (y = max X (maxRow (T.rt.getD (i + m) []) k n))) (fun _ b => (J + 1 - intOf b).toNat)
        case atStart => exact ⟨k, 0, X, rfl, rfl, by omega, by omega, by omega, rfl, by
          unfold Hid
          have := maxTab_nonneg T.rt i k N m
          rw [HX.out] at this
          simp only [maxRow]; omega⟩
        case round =>
          obtain ⟨B, n, y, rfl, rfl, B1, n1, B2', BN, Y⟩ := hrel
          by_cases hB : B ≤ J
          · obtain ⟨i2, p', x, mm, cc, e2, e3, e4, e5⟩ := HC.out A B (by omega) (by omega)
            obtain rfl : p = p' := by
              have := HP.out.symm.trans e2
              injection this
            have ml : B < mm := by omega
            have mh : mm ≤ 9223372036854775807 := by omega
            have ez := Lib.hid (show rateAt T.rt A B = (T.rt.getD (i + m) []).getD (k + n) 0 by unfold rateAt; rw [AM.out, BN.out])
            generalize rateAt T.rt A B = z at e5 ez
            have Y' : Hid (max y z = max X (maxRow (T.rt.getD (i + m) []) k (n + 1))) := by
              unfold Hid
              have := Y.out
              have := ez.out
              simp only [maxRow]
              omega
            have n2 : n + 1 ≤ N := by have := BN.out; have := g2.out; omega
            have BN' : Hid (B + 1 = k + (n + 1)) := by have := BN.out; unfold Hid; omega
            clear e2 e4 ez Y BN
            go_wp2_with (go_at_call 29; with_reducible refine B3.out.mono ?_; rintro e w' ⟨rfl, rfl⟩)
            go_round
            case rel => exact ⟨B + 1, n + 1, max y z, by go_num, rfl, by omega, n2, by omega, BN', Y'⟩
            case measure => simp [intOf]; omega
          · have hn : n = N := by have := BN.out; have := g2.out; omega
            have Y' : Hid (y = maxTab T.rt i k N (m + 1)) := by
              have := Y.out
              rw [hn] at this
              unfold Hid
              simp only [maxTab]
              rw [HX.out]
              exact this
            have m2 : m + 1 ≤ M := by have := AM.out; have := g1.out; omega
            have AM' : Hid (A + 1 = i + (m + 1)) := by have := AM.out; unfold Hid; omega
            clear hn Y AM BN
            go_wp2_with (go_at_call 29; with_reducible refine B3.out.mono ?_; rintro e w' ⟨rfl, rfl⟩)
            go_round
            case rel => exact ⟨A + 1, m + 1, by go_num, by rw [Y'.out], by omega, m2, by omega, AM'⟩
            case measure => simp [intOf]; omega
      · have hm : m = M := by have := AM.out; have := g1.out; omega
        have E3 : Hid (worstR T tl th al ah = (maxTab T.rt i k N m, 0)) := by rw [hm]; exact E2.out
        clear hm E2
        generalize maxTab T.rt i k N m = X at E3 ⊢
        go_wp2_with (go_at_call 29; with_reducible refine B2.out.mono ?_; rintro e w' ⟨rfl, rfl⟩)
        go_ret2
        exact ⟨by rw [E3.out]; rfl, BE.out⟩
end Go.Proofs.Ytjjpcgfhoncmeaa
