/- Layer 7: package drift's worst and Worst. -/
import Derived.Deep.LoopGhost
import Derived.Lib.MinMax
import Derived.Test.YtjjpcgfhoncmeaaGRate
namespace Go.Proofs.Ytjjpcgfhoncmeaa
open Go.RowKit Go
set_option linter.unusedVariables false
set_option linter.unusedSimpArgs false

set_option maxHeartbeats 4000000 in
theorem worstIn_any (T : Tb) (ho : T.Ok) (tl th al ah : Int) (h1 : tl ≤ th) (h2 : al ≤ ah) (w : World) (ht : T.At w) :
    Calls Try.prog 35 #[T.val, rgV tl th, rgV al ah] w (Gives (.tuple #[.int .i64 (worstR T tl th al ah).1, .int .i64 (worstR T tl th al ah).2]) w) := by
  obtain ⟨W, hW⟩ : ∃ W, ((w.alloc (.cells T.cells 25)).alloc (.cells #[.int .i64 tl, .int .i64 th] 27)).alloc (.cells #[.int .i64 al, .int .i64 ah] 27) = W := ⟨_, rfl⟩
  have HT : Hid (Three W w.heap.size 25 (.slice T.A0 T.n0 T.c0) (.slice T.A1 T.n1 T.c1) (.slice T.A2 T.n2 T.c2)) := by rw [← hW]; exact ((Three.new w _ _ _ _).alloc _).alloc _
  have HU : Hid (Two W (w.heap.size + 1) 27 (.int .i64 tl) (.int .i64 th)) := by
    rw [← hW]
    have h := Two.new (w.alloc (.cells T.cells 25)) 27 (.int .i64 tl) (.int .i64 th)
    rw [show (w.alloc (.cells T.cells 25)).heap.size = w.heap.size + 1 by simp] at h
    exact h.alloc _
  have HV : Hid (Two W (w.heap.size + 1 + 1) 27 (.int .i64 al) (.int .i64 ah)) := by
    rw [← hW]
    have h := Two.new ((w.alloc (.cells T.cells 25)).alloc (.cells #[.int .i64 tl, .int .i64 th] 27)) 27 (.int .i64 al) (.int .i64 ah)
    rw [show ((w.alloc (.cells T.cells 25)).alloc (.cells #[.int .i64 tl, .int .i64 th] 27)).heap.size = w.heap.size + 1 + 1 by simp] at h
    exact h
  have BW : Hid (Below w.heap.size w W) := by rw [← hW]; exact (((below_alloc w _).alloc (by simp) _).alloc (by simp; omega) _)
  have t3 := HT.out.lt
  have t0 := HT.out.c0
  have t1 := HT.out.c1
  have t2 := HT.out.c2
  have u0 := HU.out.c0
  have u1 := HU.out.c1
  have u2 := HU.out.lt
  have v0 := HV.out.c0
  have v1 := HV.out.c1
  have v2 := HV.out.lt
  have AT := Lib.hid (ht.step BW.out)
  have CE := Lib.hid (fun q hq => cellOf_any T ho tl al q hq W AT.out)
  have HC := Lib.hid (fun W' (b : Below W.heap.size W W') (i k : Nat) (hi : i < T.tm.length) (hk : k < T.ag.length) => (AT.out.step b).cell ho hi hk)
  have e1 : worstR T tl th al ah = (if cnt T.tm tl = 0 ∨ cnt T.ag al = 0 then (0, 3) else (maxTab T.rt (cnt T.tm tl - 1) (cnt T.ag al - 1) (cnt T.ag ah + 1 - cnt T.ag al) (cnt T.tm th + 1 - cnt T.tm tl), 0)) := if_pos ⟨ho, h1, h2⟩
  have E1 := Lib.hid e1
  have I0 := Lib.hid (fun i hi => cnt_iff ho.1 th i hi)
  have I1 := Lib.hid (fun i hi => cnt_iff ho.2.1 ah i hi)
  have C0 := cnt_le T.tm th
  have C1 := cnt_le T.ag ah
  have C2 := cnt_mono ho.1 h1
  have C3 := cnt_mono ho.2.1 h2
  have l8 := ho.1.2.2
  have l9 := ho.2.1.2.2
  have L0 := AT.out.1.1
  have L1 := AT.out.2.1.1
  have L2 := AT.out.2.2.1.1
  have L3 := ho.2.2.1
  clear e1 ht
  unfold Tb.val at CE ⊢
  unfold Tb.cells at hW
  unfold rgV
  generalize cnt T.tm tl = c at CE E1 C2
  generalize cnt T.ag al = d at CE E1 C3
  generalize cnt T.tm th = c' at I0 E1 C2 C0
  generalize cnt T.ag ah = d' at I1 E1 C3 C1
  rcases (by omega : (c = 0 ∨ d = 0) ∨ (1 ≤ c ∧ 1 ≤ d)) with h | ⟨h, h'⟩
  · have CE := Lib.hid (CE.out false ⟨fun h => (by cases h), fun a => by omega⟩)
    have E2 := Lib.hid (E1.out.trans (if_pos h))
    generalize (c : Int) - 1 = x at CE
    generalize (d : Int) - 1 = y at CE
    clear h HC E1 I0 I1 C0 C1 C2 C3 l8 l9 L0 L1 L2 L3
    go_enter Try.func35, Try.ntmps35
    go_wp2_with (go_at_call 28; (with_reducible refine CE.out.mono ?_); rintro e w1 ⟨rfl, b1⟩; have HB := Lib.hid b1; clear b1 CE)
    go_step3
    go_wp2_with (go_at_call 28; (with_reducible refine CE.out.mono ?_); rintro e w1 ⟨rfl, b1⟩; have HB := Lib.hid b1; clear b1 CE)
    try rw [Exit.noGoto_ret]
    go_ret2
    exact ⟨by rw [E2.out]; rfl, BW.out.trans (HB.out.mono BW.out.size)⟩
  · have CE := Lib.hid (CE.out true ⟨fun _ => ⟨h, h'⟩, fun _ => rfl⟩)
    have E2 := Lib.hid (E1.out.trans (if_neg (by omega)))
    obtain ⟨i, hi⟩ : ∃ i, c - 1 = i := ⟨_, rfl⟩
    obtain ⟨k, hk⟩ : ∃ k, d - 1 = k := ⟨_, rfl⟩
    obtain ⟨M, hM⟩ : ∃ M, c' + 1 - c = M := ⟨_, rfl⟩
    obtain ⟨N, hN⟩ : ∃ N, d' + 1 - d = N := ⟨_, rfl⟩
    rw [hi, hk, hM, hN] at E2
    rw [show (c : Int) - 1 = (i : Int) by omega, show (d : Int) - 1 = (k : Int) by omega] at CE
    have gM : i + M = c' := by omega
    have gN : k + N = d' := by omega
    have g1 : i < T.n0 := by omega
    have g2 : k < T.n1 := by omega
    have g3 : i + M ≤ T.n0 := by omega
    have g4 : k + N ≤ T.n1 := by omega
    have g5 : 1 ≤ M := by omega
    have g6 : 1 ≤ N := by omega
    have g7 : T.n0 ≤ 8 := by omega
    have g8 : T.n1 ≤ 8 := by omega
    have g9 : T.n0 ≤ T.n2 := by omega
    have g10 : T.n2 ≤ 8 := by omega
    have J0 : Hid (∀ A, A < T.n0 → (T.tm.getD A 0 ≤ th ↔ A < i + M)) := fun A hA => by rw [gM]; exact I0.out A (by omega)
    have J1 : Hid (∀ A, A < T.n1 → (T.ag.getD A 0 ≤ ah ↔ A < k + N)) := fun A hA => by rw [gN]; exact I1.out A (by omega)
    obtain ⟨p0, hp0, _⟩ := AT.out.1.at_ i g1
    obtain ⟨p1, hp1, _⟩ := AT.out.2.1.at_ k g2
    obtain ⟨p2, hp2, _⟩ : ∃ p2, T.A2 = some p2 ∧ True := by
      obtain ⟨_, p, _, _, _, e, _⟩ := HC.out W (Below.refl _ _) i k (by omega) (by omega)
      exact ⟨p, e, trivial⟩
    have K0 : Hid (∀ W', Below W.heap.size W W' → ∀ A, A < T.n0 → W'.cell? (p0.add A) = some (.int .i64 (T.tm.getD A 0))) := fun W' b A hA => by
      obtain ⟨p, e, hc, _⟩ := (AT.out.1.step b).at_ A hA
      obtain rfl : p0 = p := by have := hp0.symm.trans e; injection this
      exact hc
    have K1 : Hid (∀ W', Below W.heap.size W W' → ∀ A, A < T.n1 → W'.cell? (p1.add A) = some (.int .i64 (T.ag.getD A 0))) := fun W' b A hA => by
      obtain ⟨p, e, hc, _⟩ := (AT.out.2.1.step b).at_ A hA
      obtain rfl : p1 = p := by have := hp1.symm.trans e; injection this
      exact hc
    have K2 : Hid (∀ W', Below W.heap.size W W' → ∀ A B, A < T.n0 → B < T.n1 → ∃ a m cc, W'.cell? (p2.add A) = some (.slice (some a) m cc) ∧ m = T.n1 ∧ W'.cell? (a.add B) = some (.int .i64 (rateAt T.rt A B))) := fun W' b A B hA hB => by
      obtain ⟨_, p, a, m, cc, e, e3, e4, e5⟩ := HC.out W' b A B (by omega) (by omega)
      obtain rfl : p2 = p := by have := hp2.symm.trans e; injection this
      exact ⟨a, m, cc, e3, by omega, e5⟩
    rw [hp0, hp1, hp2] at hW HT CE ⊢
    rw [hp0] at t0
    rw [hp1] at t1
    rw [hp2] at t2
    clear hp0 hp1 hp2 h h' HC E1 I0 I1 C0 C1 C2 C3 l8 l9 L0 L1 L2 L3 hi hk hM hN gM gN
    go_enter Try.func35, Try.ntmps35
    go_wp2_with (go_at_call 28; (with_reducible refine CE.out.mono ?_); rintro e w1 ⟨rfl, b1⟩; have HB := Lib.hid b1; have T1 := Lib.hid (HT.out.below b1 HT.out.lt); have U1 := Lib.hid (HU.out.below b1 HU.out.lt); have V1 := Lib.hid (HV.out.below b1 HV.out.lt); clear b1 CE)
    go_step3
    go_wp2_with (go_at_call 28; (with_reducible refine CE.out.mono ?_); rintro e w1 ⟨rfl, b1⟩; have HB := Lib.hid b1; have T1 := Lib.hid (HT.out.below b1 HT.out.lt); have U1 := Lib.hid (HU.out.below b1 HU.out.lt); have V1 := Lib.hid (HV.out.below b1 HV.out.lt); clear b1 CE)
    go_step3
    go_wp2_with fail
    have K0 := Lib.hid (K0.out w1 HB.out)
    have K1 := Lib.hid (K1.out w1 HB.out)
    have K2 := Lib.hid (K2.out w1 HB.out)
    have BE := Lib.hid (BW.out.trans (HB.out.mono BW.out.size))
    have t0 := T1.out.c0
    have t1 := T1.out.c1
    have t2 := T1.out.c2
    have t3 := T1.out.lt
    have u1 := U1.out.c1
    have u2 := U1.out.lt
    have v1 := V1.out.c1
    have v2 := V1.out.lt
    clear HT HU HV u0 v0 hW
    go_loopg [11, 12, 13] (T.n0 - i) (fun g o a b wr => ∃ A m : Nat, a = .int .i64 A ∧ o = .int .i64 (maxTab T.rt i k N m) ∧ A + g = T.n0 ∧ i ≤ A ∧ m ≤ M ∧ Hid (A = i + m) ∧ Hid (Drew w1 wr))
    case atStart => exact ⟨i, 0, rfl, rfl, by omega, by omega, by omega, rfl, Drew.refl _⟩
    case round =>
      obtain ⟨A, m, rfl, rfl, hg, hA1, hm, AM, DW⟩ := hrel
      have x0 := DW.out.cell t0
      have x1 := DW.out.cell t1
      have x2 := DW.out.cell t2
      have x3 := DW.out.lt t3
      have y1 := DW.out.cell u1
      have y2 := DW.out.lt u2
      have z1 := DW.out.cell v1
      have z2 := DW.out.lt v2
      have gA : A ≤ i + M := by have := AM.out; omega
      have FIN : Hid (¬ A < i + M → worstR T tl th al ah = (maxTab T.rt i k N m, 0)) := fun q => by
        have hm : m = M := by have := AM.out; omega
        rw [hm]; exact E2.out
      generalize hX : maxTab T.rt i k N m = X at FIN ⊢
      have HX := Lib.hid hX
      clear hX
      by_cases hA : A < T.n0
      · go_wp2_with fail
        go_step3
        go_wp2_with fail
        go_step3
        go_wp2_with fail
        obtain ⟨wo, rfl⟩ : ∃ wo : World, wo = wr := ⟨_, rfl⟩
        go_loopg [11, 13] (T.n1 - k) (fun g2 o b wr => ∃ (B n : Nat) (y : Int), b = .int .i64 B ∧ o = .int .i64 y ∧ B + g2 = T.n1 ∧ k ≤ B ∧ n ≤ N ∧ Hid (B = k + n) ∧ Hid (A < i + M ∨ n = 0) ∧ Hid (y = max X (maxRow (T.rt.getD (i + m) []) k n)) ∧ Hid (Drew w1 wr))
        case atStart => exact ⟨k, 0, X, rfl, rfl, by omega, by omega, by omega, rfl, .inr rfl, by
          unfold Hid
          have := maxTab_nonneg T.rt i k N m
          rw [HX.out] at this
          simp only [maxRow]; omega, DW⟩
        case round =>
          obtain ⟨B, n, y, rfl, rfl, hg2, hB1, hn, BN, AN, Y, DV⟩ := hrel
          have x0 := DV.out.cell t0
          have x1 := DV.out.cell t1
          have x2 := DV.out.cell t2
          have x3 := DV.out.lt t3
          have y1 := DV.out.cell u1
          have y2 := DV.out.lt u2
          have z1 := DV.out.cell v1
          have z2 := DV.out.lt v2
          by_cases hB : B < T.n1
          · have q0 := DV.out.cell (K0.out A hA)
            have q1 := DV.out.cell (K1.out B hB)
            have j0 := J0.out A hA
            have j1 := J1.out B hB
            generalize T.tm.getD A 0 = a0 at q0 j0
            generalize T.ag.getD B 0 = a1 at q1 j1
            by_cases hth : A < i + M
            · have d0 : decide (th < a0) = false := by simp; exact j0.2 hth
              clear j0
              by_cases hah : B < k + N
              · have d1 : decide (ah < a1) = false := by simp; exact j1.2 hah
                clear j1
                obtain ⟨a, mm, cc, e3, e4, e5⟩ := K2.out A B hA hB
                have e3 := DV.out.cell e3
                have e5 := DV.out.cell e5
                have ez := Lib.hid (show rateAt T.rt A B = (T.rt.getD (i + m) []).getD (k + n) 0 by unfold rateAt; rw [AM.out, BN.out])
                generalize rateAt T.rt A B = z at e5 ez
                have Y' : Hid (max y z = max X (maxRow (T.rt.getD (i + m) []) k (n + 1))) := by
                  unfold Hid
                  have := Y.out
                  have := ez.out
                  simp only [maxRow]
                  omega
                have n2 : n + 1 ≤ N := by have := BN.out; omega
                have BN' : Hid (B + 1 = k + (n + 1)) := by have := BN.out; unfold Hid; omega
                have ml : B < mm := by omega
                have mh : mm ≤ 9223372036854775807 := by omega
                clear e4 ez Y BN
                go_wp2_with fail
                go_quiet (fail)
                have D1 := Lib.hid (DV.out.trans (Drew.n _ nq))
                go_wp2_with fail
                go_quiet (fail)
                have e3 := e3
                go_wp2_with fail
                go_roundg (T.n1 - (B + 1))
                case measure => omega
                case rel => exact ⟨B + 1, n + 1, max y z, by go_num, rfl, by omega, by omega, n2, BN', .inl hth, Y', DV.out.trans (Drew.n _ _)⟩
              · have d1 : decide (ah < a1) = true := by
                  have : ¬ a1 ≤ ah := fun q => hah (j1.1 q)
                  simp; omega
                clear j1
                have hn2 : n = N := by have := BN.out; omega
                have Y' : Hid (y = maxTab T.rt i k N (m + 1)) := by
                  have := Y.out
                  rw [hn2] at this
                  unfold Hid
                  simp only [maxTab]
                  rw [HX.out]
                  exact this
                have m2 : m + 1 ≤ M := by have := AM.out; omega
                have AM' : Hid (A + 1 = i + (m + 1)) := by have := AM.out; unfold Hid; omega
                clear hn2 Y AM BN
                go_wp2_with fail
                go_quiet (fail)
                have D1 := Lib.hid (DV.out.trans (Drew.n _ nq))
                go_wp2_with fail
                go_quiet (fail)
                go_wp2_with fail
                rw [Exit.noGoto_normal]
                go_wp2_with fail
                go_roundg (T.n0 - (A + 1))
                case measure => omega
                case rel => exact ⟨A + 1, m + 1, by go_num, by rw [Y'.out], by omega, by omega, m2, AM', DV.out.trans (Drew.n _ _)⟩
            · have d0 : decide (th < a0) = true := by
                have : ¬ a0 ≤ th := fun q => hth (j0.1 q)
                simp; omega
              clear j0
              have FI := Lib.hid (FIN.out hth)
              have hn0 : n = 0 := AN.out.resolve_left hth
              have hy : Hid (y = X) := by
                have := Y.out
                rw [hn0] at this
                simp only [maxRow] at this
                have q := maxTab_nonneg T.rt i k N m
                rw [HX.out] at q
                unfold Hid; omega
              clear hn0 Y AN FIN
              go_wp2_with fail
              go_quiet (fail)
              have D1 := Lib.hid (DV.out.trans (Drew.n _ nq))
              go_wp2_with fail
              rw [Exit.noGoto_exit]
              go_wp2_with fail
              rw [Exit.noGoto_ret]
              go_ret2
              exact ⟨by rw [FI.out, ← hy.out]; rfl, BE.out.trans (D1.out.below _)⟩
          · have hth : A < i + M := by
              rcases AN.out with q | q
              · exact q
              · have := BN.out; omega
            have hn2 : n = N := by have := BN.out; omega
            have Y' : Hid (y = maxTab T.rt i k N (m + 1)) := by
              have := Y.out
              rw [hn2] at this
              unfold Hid
              simp only [maxTab]
              rw [HX.out]
              exact this
            have m2 : m + 1 ≤ M := by have := AM.out; omega
            have AM' : Hid (A + 1 = i + (m + 1)) := by have := AM.out; unfold Hid; omega
            clear hn2 Y AM BN
            go_wp2_with fail
            rw [Exit.noGoto_normal]
            go_wp2_with fail
            go_roundg (T.n0 - (A + 1))
            case measure => omega
            case rel => exact ⟨A + 1, m + 1, by go_num, by rw [Y'.out], by omega, by omega, m2, AM', DV.out⟩
      · have FI := Lib.hid (FIN.out (by omega))
        clear FIN
        go_wp2_with fail
        try rw [Exit.noGoto_ret]
        go_ret2
        exact ⟨by rw [FI.out]; rfl, BE.out.trans (DW.out.below _)⟩

set_option maxHeartbeats 2000000 in
theorem worst_any (T : Tb) (tl th al ah : Int) (w : World) (ht : T.At w) :
    Calls Try.prog 15 #[T.val, rgV tl th, rgV al ah] w (Gives (.tuple #[.int .i64 (worstR T tl th al ah).1, .int .i64 (worstR T tl th al ah).2]) w) := by
  obtain ⟨W, hW⟩ : ∃ W, ((w.alloc (.cells T.cells 25)).alloc (.cells #[.int .i64 tl, .int .i64 th] 27)).alloc (.cells #[.int .i64 al, .int .i64 ah] 27) = W := ⟨_, rfl⟩
  have HT : Hid (Three W w.heap.size 25 (.slice T.A0 T.n0 T.c0) (.slice T.A1 T.n1 T.c1) (.slice T.A2 T.n2 T.c2)) := by rw [← hW]; exact ((Three.new w _ _ _ _).alloc _).alloc _
  have HU : Hid (Two W (w.heap.size + 1) 27 (.int .i64 tl) (.int .i64 th)) := by
    rw [← hW]
    have h := Two.new (w.alloc (.cells T.cells 25)) 27 (.int .i64 tl) (.int .i64 th)
    rw [show (w.alloc (.cells T.cells 25)).heap.size = w.heap.size + 1 by simp] at h
    exact h.alloc _
  have HV : Hid (Two W (w.heap.size + 1 + 1) 27 (.int .i64 al) (.int .i64 ah)) := by
    rw [← hW]
    have h := Two.new ((w.alloc (.cells T.cells 25)).alloc (.cells #[.int .i64 tl, .int .i64 th] 27)) 27 (.int .i64 al) (.int .i64 ah)
    rw [show ((w.alloc (.cells T.cells 25)).alloc (.cells #[.int .i64 tl, .int .i64 th] 27)).heap.size = w.heap.size + 1 + 1 by simp] at h
    exact h
  have BW : Hid (Below w.heap.size w W) := by rw [← hW]; exact (((below_alloc w _).alloc (by simp) _).alloc (by simp; omega) _)
  have t3 := HT.out.lt
  have t0 := HT.out.c0
  have t1 := HT.out.c1
  have t2 := HT.out.c2
  have u0 := HU.out.c0
  have u1 := HU.out.c1
  have u2 := HU.out.lt
  have v0 := HV.out.c0
  have v1 := HV.out.c1
  have v2 := HV.out.lt
  have AT := Lib.hid (ht.step BW.out)
  have V := Lib.hid (fun q hq => valid_any T q hq W AT.out)
  have R0 := Lib.hid (fun q hq => validRange_any tl th q hq)
  have R1 := Lib.hid (fun q hq => validRange_any al ah q hq)
  have IN := Lib.hid (fun (h : T.Ok) (h1 : tl ≤ th) (h2 : al ≤ ah) W' (b : Below W.heap.size W W') => worstIn_any T h tl th al ah h1 h2 W' (AT.out.step b))
  by_cases ho : T.Ok
  · have V := Lib.hid (V.out true (by simp [ho]))
    by_cases h1 : tl ≤ th
    · have R0 := Lib.hid (R0.out true (by simp [h1]))
      by_cases h2 : al ≤ ah
      · have R1 := Lib.hid (R1.out true (by simp [h2]))
        have IN := Lib.hid (IN.out ho h1 h2)
        clear ho ht
        unfold Tb.val at V IN ⊢
        unfold Tb.cells at hW
        unfold rgV at R0 R1 IN ⊢
        generalize worstR T tl th al ah = R at IN ⊢
        obtain ⟨x, e⟩ := R
        go_enter Try.func15, Try.ntmps15
        go_wp2_with (first
          | (go_at_call 13; (with_reducible refine V.out.mono ?_); rintro e w1 ⟨rfl, b1⟩; have B1 := Lib.hid b1; have T1 := HT.out.below B1.out HT.out.lt; have U1 := HU.out.below B1.out HU.out.lt; have V1 := HV.out.below B1.out HV.out.lt; have s0 := T1.c0; have s1 := T1.c1; have s2 := T1.c2; have s3 := T1.lt; have s4 := U1.c0; have s5 := U1.c1; have s6 := U1.lt; have s7 := V1.c0; have s8 := V1.c1; have s9 := V1.lt; clear T1 U1 V1 b1 V)
          | (go_at_call 34; (with_reducible refine (R0.out _).mono ?_); rintro e w2 ⟨rfl, b2⟩; have B2 := Lib.hid (below_more B1.out b2); have T1 := HT.out.below B2.out HT.out.lt; have U1 := HU.out.below B2.out HU.out.lt; have V1 := HV.out.below B2.out HV.out.lt; have p0 := T1.c0; have p1 := T1.c1; have p2 := T1.c2; have p3 := T1.lt; have p4 := U1.c0; have p5 := U1.c1; have p6 := U1.lt; have p7 := V1.c0; have p8 := V1.c1; have p9 := V1.lt; clear T1 U1 V1 b2 R0)
          | (go_at_call 34; (with_reducible refine (R1.out _).mono ?_); rintro e w3 ⟨rfl, b3⟩; have B3 := Lib.hid (below_more B2.out b3); have T1 := HT.out.below B3.out HT.out.lt; have U1 := HU.out.below B3.out HU.out.lt; have V1 := HV.out.below B3.out HV.out.lt; have q0 := T1.c0; have q1 := T1.c1; have q2 := T1.c2; have q3 := T1.lt; have q4 := U1.c0; have q5 := U1.c1; have q6 := U1.lt; have q7 := V1.c0; have q8 := V1.c1; have q9 := V1.lt; clear T1 U1 V1 b3 R1)
          | (go_at_call 35; (with_reducible refine (IN.out _ B3.out).mono ?_); rintro e w4 ⟨rfl, b4⟩; have B4 := Lib.hid (below_more B3.out b4); clear b4 IN))
        go_ret2
        exact ⟨rfl, BW.out.trans (B4.out.mono BW.out.size)⟩
      · have R1 := Lib.hid (R1.out false (by simp [h2]))
        have E1 := Lib.hid (show worstR T tl th al ah = (0, 1) from if_neg (fun h => h2 h.2.2))
        clear ho ht h2 IN
        unfold Tb.val at V ⊢
        unfold Tb.cells at hW
        unfold rgV at R0 R1 ⊢
        go_enter Try.func15, Try.ntmps15
        go_wp2_with (first
          | (go_at_call 13; (with_reducible refine V.out.mono ?_); rintro e w1 ⟨rfl, b1⟩; have B1 := Lib.hid b1; have U1 := HU.out.below B1.out HU.out.lt; have V1 := HV.out.below B1.out HV.out.lt; have s4 := U1.c0; have s5 := U1.c1; have s6 := U1.lt; have s7 := V1.c0; have s8 := V1.c1; have s9 := V1.lt; clear U1 V1 b1 V)
          | (go_at_call 34; (with_reducible refine (R0.out _).mono ?_); rintro e w2 ⟨rfl, b2⟩; have B2 := Lib.hid (below_more B1.out b2); have V1 := HV.out.below B2.out HV.out.lt; have p7 := V1.c0; have p8 := V1.c1; have p9 := V1.lt; clear V1 b2 R0)
          | (go_at_call 34; (with_reducible refine (R1.out _).mono ?_); rintro e w3 ⟨rfl, b3⟩; have B3 := Lib.hid (below_more B2.out b3); clear b3 R1))
        go_ret2
        exact ⟨by rw [E1.out]; rfl, BW.out.trans (B3.out.mono BW.out.size)⟩
    · have R0 := Lib.hid (R0.out false (by simp [h1]))
      have E1 := Lib.hid (show worstR T tl th al ah = (0, 1) from if_neg (fun h => h1 h.2.1))
      clear ho ht h1 IN R1
      unfold Tb.val at V ⊢
      unfold Tb.cells at hW
      unfold rgV at R0 ⊢
      go_enter Try.func15, Try.ntmps15
      go_wp2_with (first
        | (go_at_call 13; (with_reducible refine V.out.mono ?_); rintro e w1 ⟨rfl, b1⟩; have B1 := Lib.hid b1; have U1 := HU.out.below B1.out HU.out.lt; have s4 := U1.c0; have s5 := U1.c1; have s6 := U1.lt; clear U1 b1 V)
        | (go_at_call 34; (with_reducible refine (R0.out _).mono ?_); rintro e w2 ⟨rfl, b2⟩; have B2 := Lib.hid (below_more B1.out b2); clear b2 R0))
      go_ret2
      exact ⟨by rw [E1.out]; rfl, BW.out.trans (B2.out.mono BW.out.size)⟩
  · have V := Lib.hid (V.out false (by simp [ho]))
    have E1 := Lib.hid (show worstR T tl th al ah = (0, 1) from if_neg (fun h => ho h.1))
    clear ho ht IN R0 R1
    unfold Tb.val at V ⊢
    unfold Tb.cells at hW
    unfold rgV
    go_enter Try.func15, Try.ntmps15
    go_wp2_with (go_at_call 13; (with_reducible refine V.out.mono ?_); rintro e w1 ⟨rfl, b1⟩)
    go_ret2
    exact ⟨by rw [E1.out]; rfl, BW.out.trans (b1.mono BW.out.size)⟩
end Go.Proofs.Ytjjpcgfhoncmeaa
