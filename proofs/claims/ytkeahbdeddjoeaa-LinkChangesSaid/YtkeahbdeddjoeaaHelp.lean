/- Layer 10: the laws' narrow and some. -/
import Derived.LoopTactic
import Derived.Test.YtkeahbdeddjoeaaRForm
namespace Go.Proofs.Ytkeahbdeddjoeaa
open Go.RowKit Go
set_option linter.unusedVariables false
set_option linter.unusedSimpArgs false

/-- Delays whose bounds are narrower. -/
def narrowR (s : Ch) (n0 n1 n2 n3 : Int) : Ch :=
  ⟨s.t, min s.b (s.a + n0), max (min s.b (s.a + n0)) (s.b - n1), min s.d (s.c + n2), max (min s.d (s.c + n2)) (s.d - n3)⟩
def U16 (x : Int) : Prop := 0 ≤ x ∧ x ≤ 65535
theorem narrow_form {s : Ch} (h : s.Form) {n0 n1 n2 n3 : Int} (h0 : U16 n0) (h1 : U16 n1) (h2 : U16 n2) (h3 : U16 n3) :
    (narrowR s n0 n1 n2 n3).Form ∧ s.a ≤ (narrowR s n0 n1 n2 n3).a ∧ (narrowR s n0 n1 n2 n3).b ≤ s.b ∧ s.c ≤ (narrowR s n0 n1 n2 n3).c ∧ (narrowR s n0 n1 n2 n3).d ≤ s.d := by
  obtain ⟨⟨a1, a2, a3⟩, b1, b2, b3⟩ := h
  obtain ⟨_, _⟩ := h0
  obtain ⟨_, _⟩ := h1
  obtain ⟨_, _⟩ := h2
  obtain ⟨_, _⟩ := h3
  unfold narrowR Ch.Form DelOk
  dsimp only
  omega

set_option maxHeartbeats 4000000 in
theorem narrow_any (s : Ch) (n0 n1 n2 n3 : Int) (h : s.Form) (h0 : U16 n0) (h1 : U16 n1) (h2 : U16 n2) (h3 : U16 n3) (w : World) :
    Calls Try.prog 26 #[chV s, .agg #[.int .u16 n0, .int .u16 n1, .int .u16 n2, .int .u16 n3]] w (Gives (chV (narrowR s n0 n1 n2 n3)) w) := by
  obtain ⟨t, a, b, c, d⟩ := s
  have E : narrowR ⟨t, a, b, c, d⟩ n0 n1 n2 n3 = ⟨t, min b (a + n0), max (min b (a + n0)) (b - n1), min d (c + n2), max (min d (c + n2)) (d - n3)⟩ := rfl
  obtain ⟨⟨a1, a2, a3⟩, b1, b2, b3⟩ := h
  dsimp only at a1 a2 a3 b1 b2 b3
  obtain ⟨_, _⟩ := h0
  obtain ⟨_, _⟩ := h1
  obtain ⟨_, _⟩ := h2
  obtain ⟨_, _⟩ := h3
  obtain ⟨x, hx⟩ : ∃ x, min b (a + n0) = x := ⟨_, rfl⟩
  obtain ⟨y, hy⟩ : ∃ y, max x (b - n1) = y := ⟨_, rfl⟩
  obtain ⟨z, hz⟩ : ∃ z, min d (c + n2) = z := ⟨_, rfl⟩
  obtain ⟨u, hu⟩ : ∃ u, max z (d - n3) = u := ⟨_, rfl⟩
  rw [hx, hy, hz, hu] at E
  rw [E]
  clear E
  unfold chV
  dsimp only
  obtain ⟨W, hW⟩ : ∃ W, ((w.alloc (.cells #[.int .i64 t, .int .i64 a, .int .i64 b, .int .i64 c, .int .i64 d] 24)).alloc (.cells #[.int .u16 n0, .int .u16 n1, .int .u16 n2, .int .u16 n3] 45)).alloc (.cells #[.int .i64 0, .int .i64 0, .int .i64 0, .int .i64 0, .int .i64 0] 24) = W := ⟨_, rfl⟩
  have T0 : Five W w.heap.size 24 (.int .i64 t) (.int .i64 a) (.int .i64 b) (.int .i64 c) (.int .i64 d) := by rw [← hW]; exact ((Five.new w _ _ _ _ _ _).alloc _).alloc _
  have T1 : Four W (w.heap.size + 1) 45 (.int .u16 n0) (.int .u16 n1) (.int .u16 n2) (.int .u16 n3) := by
    rw [← hW]
    have k := Four.new (w.alloc (.cells #[.int .i64 t, .int .i64 a, .int .i64 b, .int .i64 c, .int .i64 d] 24)) 45 (.int .u16 n0) (.int .u16 n1) (.int .u16 n2) (.int .u16 n3)
    rw [show (w.alloc (.cells #[.int .i64 t, .int .i64 a, .int .i64 b, .int .i64 c, .int .i64 d] 24)).heap.size = w.heap.size + 1 by simp] at k
    exact k.alloc _
  have T2 : Five W (w.heap.size + 1 + 1) 24 (.int .i64 0) (.int .i64 0) (.int .i64 0) (.int .i64 0) (.int .i64 0) := by
    rw [← hW]
    have k := Five.new ((w.alloc (.cells #[.int .i64 t, .int .i64 a, .int .i64 b, .int .i64 c, .int .i64 d] 24)).alloc (.cells #[.int .u16 n0, .int .u16 n1, .int .u16 n2, .int .u16 n3] 45)) 24 (.int .i64 0) (.int .i64 0) (.int .i64 0) (.int .i64 0) (.int .i64 0)
    rwa [show ((w.alloc (.cells #[.int .i64 t, .int .i64 a, .int .i64 b, .int .i64 c, .int .i64 d] 24)).alloc (.cells #[.int .u16 n0, .int .u16 n1, .int .u16 n2, .int .u16 n3] 45)).heap.size = w.heap.size + 1 + 1 by simp] at k
  have BW : Hid (Below w.heap.size w W) := by rw [← hW]; exact (((below_alloc w _).alloc (by simp) _).alloc (by simp; omega) _)
  have t0 := T0.c0
  have t1 := T0.c1
  have t2 := T0.c2
  have t3 := T0.c3
  have t4 := T0.c4
  have t5 := T0.lt
  have t6 := T0.free 1
  have t7 := T0.free 2
  have t8 := T0.free 3
  have t9 := T0.free 4
  have s0 := T1.c0
  have s1 := T1.c1
  have s2 := T1.c2
  have s3 := T1.c3
  have s4 := T1.lt
  have r0 := T2.c0
  have r1 := T2.c1
  have r2 := T2.c2
  have r3 := T2.c3
  have r4 := T2.c4
  have r5 := T2.lt
  have f0 := T2.free 0
  have f1 := T2.free 1
  have f2 := T2.free 2
  have f3 := T2.free 3
  have f4 := T2.free 4
  clear T0 T1 T2
  go_enter Try.func26, Try.ntmps26
  go_wp2_with fail
  refine bodyPost_ret (v := .agg #[.int .i64 t, .int .i64 x, .int .i64 y, .int .i64 z, .int .i64 u]) (by simp [results, Try.results26, go_sem, r0, r1, r2, r3, r4, r5]) rfl ⟨rfl, ?_⟩
  have g0 : w.heap.size ≤ w.heap.size + 1 + 1 := by omega
  exact ((((((((BW.out.setCell (p := ⟨w.heap.size, 1, none⟩) (Nat.le_refl _) _).setCell (p := ⟨w.heap.size, 2, none⟩) (Nat.le_refl _) _).setCell (p := ⟨w.heap.size, 3, none⟩) (Nat.le_refl _) _).setCell (p := ⟨w.heap.size, 4, none⟩) (Nat.le_refl _) _).setCell (p := ⟨w.heap.size + 1 + 1, 0, none⟩) g0 _).setCell (p := ⟨w.heap.size + 1 + 1, 1, none⟩) g0 _).setCell (p := ⟨w.heap.size + 1 + 1, 2, none⟩) g0 _).setCell (p := ⟨w.heap.size + 1 + 1, 3, none⟩) g0 _).setCell (p := ⟨w.heap.size + 1 + 1, 4, none⟩) g0 _

/-- Each of the first ones is at most each of the second ones. -/
theorem some_yes (A : Option Addr) (n cap : Nat) (xs : List Int) (A' : Option Addr) (m cap' : Nat) (ys : List Int) (h : ∀ i j, i < n → j < m → xs.getD i 0 ≤ ys.getD j 0) (hn : n ≤ 100) (hm : m ≤ 100) (w : World)
    (hx : RowI w.heap.size w A n xs) (hy : RowI w.heap.size w A' m ys) :
    Calls Try.prog 24 #[.slice A n cap, .slice A' m cap'] w fun e w' => e = .returned (.bool true) ∧ w = w' := by
  have HX := Lib.hid hx
  have HY := Lib.hid hy
  have HH := Lib.hid h
  clear hx hy h
  go_enter Try.func24, Try.ntmps24
  go_wp2_with fail
  go_loopw [6, 8, 15, 16, 17, 11] (fun _ _ _ _ _ i wr => w = wr ∧ ∃ k : Nat, k ≤ n ∧ i = .int .i64 k) (fun _ _ _ _ _ i _ => n - (intOf i).toNat)
  case atStart => exact ⟨rfl, 0, Nat.zero_le _, rfl⟩
  case round =>
    obtain ⟨rfl, k, hk, rfl⟩ := hrel
    by_cases hlt : k < n
    · obtain ⟨p, rfl, hc, x1, x2⟩ := HX.out.at_ k hlt
      have HK := Lib.hid (fun j hj => HH.out k j hlt hj)
      generalize xs.getD k 0 = x at hc x1 x2 HK
      go_wp2_with fail
      go_loopw [8, 17] (fun _ i wr => w = wr ∧ ∃ j : Nat, j ≤ m ∧ i = .int .i64 j) (fun _ i _ => m - (intOf i).toNat)
      case atStart => exact ⟨rfl, 0, Nat.zero_le _, rfl⟩
      case round =>
        obtain ⟨rfl, j, hj, rfl⟩ := hrel
        by_cases hlj : j < m
        · obtain ⟨p', rfl, hc', y1, y2⟩ := HY.out.at_ j hlj
          have hxy := HK.out j hlj
          generalize ys.getD j 0 = y at hc' y1 y2 hxy
          have d : decide (y < x) = false := by simp; omega
          go_wp2_with fail
          go_roundw
          case rel => exact ⟨by trivial, j + 1, by omega, by go_num⟩
          case measure => simp [intOf]; omega
        · obtain rfl : j = m := by omega
          go_wp2_with fail
          go_roundw
          case rel => exact ⟨by trivial, k + 1, by omega, by go_num⟩
          case measure => simp [intOf]; omega
    · obtain rfl : k = n := by omega
      go_wp2_with fail
      go_ret
      exact ⟨rfl, rfl⟩
end Go.Proofs.Ytkeahbdeddjoeaa
