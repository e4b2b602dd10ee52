/- Layer 10: package link's fold over join (gen/gen_bnd.py writes this). -/
import Derived.LoopTactic
import Derived.Test.YtkeahbdeddjoeaaGMath
namespace Go.Proofs.Ytkeahbdeddjoeaa
open Go.RowKit Go
set_option linter.unusedVariables false
set_option linter.unusedSimpArgs false

theorem gfive_put {w : World} {g : Nat} {T : TypeId} {v0 v1 v2 v3 v4 : Value} (h : Five w g T v0 v1 v2 v3 v4) (x : Ch) :
    Five (((((w.setCell ⟨g, 0, none⟩ (.int .i64 x.t)).setCell ⟨g, 1, none⟩ (.int .i64 x.a)).setCell ⟨g, 2, none⟩ (.int .i64 x.b)).setCell ⟨g, 3, none⟩ (.int .i64 x.c)).setCell ⟨g, 4, none⟩ (.int .i64 x.d)) g T
      (.int .i64 x.t) (.int .i64 x.a) (.int .i64 x.b) (.int .i64 x.c) (.int .i64 x.d) := ((((h.set0 _).set1 _).set2 _).set3 _).set4 _
theorem gfive_other {w : World} {g : Nat} {T : TypeId} {v0 v1 v2 v3 v4 : Value} (h : Five w g T v0 v1 v2 v3 v4) (q : Nat) (hq : g ≠ q) (x : Ch) :
    Five (((((w.setCell ⟨q, 0, none⟩ (.int .i64 x.t)).setCell ⟨q, 1, none⟩ (.int .i64 x.a)).setCell ⟨q, 2, none⟩ (.int .i64 x.b)).setCell ⟨q, 3, none⟩ (.int .i64 x.c)).setCell ⟨q, 4, none⟩ (.int .i64 x.d)) g T
      v0 v1 v2 v3 v4 := ((((h.other (p := ⟨q, 0, none⟩) hq _).other (p := ⟨q, 1, none⟩) hq _).other (p := ⟨q, 2, none⟩) hq _).other (p := ⟨q, 3, none⟩) hq _).other (p := ⟨q, 4, none⟩) hq _
theorem gbelow_put {B : Nat} {w0 w : World} (h : Below B w0 w) (q : Nat) (hq : B ≤ q) (x : Ch) :
    Below B w0 (((((w.setCell ⟨q, 0, none⟩ (.int .i64 x.t)).setCell ⟨q, 1, none⟩ (.int .i64 x.a)).setCell ⟨q, 2, none⟩ (.int .i64 x.b)).setCell ⟨q, 3, none⟩ (.int .i64 x.c)).setCell ⟨q, 4, none⟩ (.int .i64 x.d)) :=
  ((((h.setCell (p := ⟨q, 0, none⟩) hq _).setCell (p := ⟨q, 1, none⟩) hq _).setCell (p := ⟨q, 2, none⟩) hq _).setCell (p := ⟨q, 3, none⟩) hq _).setCell (p := ⟨q, 4, none⟩) hq _
theorem heap_put (w : World) (q D : Nat) (hq : D ≠ q) (x : Ch) :
    (((((w.setCell ⟨q, 0, none⟩ (.int .i64 x.t)).setCell ⟨q, 1, none⟩ (.int .i64 x.a)).setCell ⟨q, 2, none⟩ (.int .i64 x.b)).setCell ⟨q, 3, none⟩ (.int .i64 x.c)).setCell ⟨q, 4, none⟩ (.int .i64 x.d)).heap[D]? = w.heap[D]? := by
  rw [Below.heap_setCell _ ⟨q, 4, none⟩ _ D hq, Below.heap_setCell _ ⟨q, 3, none⟩ _ D hq, Below.heap_setCell _ ⟨q, 2, none⟩ _ D hq, Below.heap_setCell _ ⟨q, 1, none⟩ _ D hq, Below.heap_setCell _ ⟨q, 0, none⟩ _ D hq]
theorem join_i64 {s z : Ch} (h : s.Int64) (k : z.Int64) : (joinR s z).Int64 := by
  obtain ⟨⟨_, _⟩, ⟨_, _⟩, ⟨_, _⟩, ⟨_, _⟩, _, _⟩ := h
  obtain ⟨⟨_, _⟩, ⟨_, _⟩, ⟨_, _⟩, ⟨_, _⟩, _, _⟩ := k
  unfold joinR Ch.Int64 I64
  dsimp only
  omega
theorem fold_i64 : ∀ (l : List Ch) (o : Ch), o.Int64 → (∀ s ∈ l, s.Int64) → (foldJ o l).Int64 := by
  intro l
  induction l with
  | nil => intro o h _; exact h
  | cons x r ih => intro o h k; exact ih (joinR o x) (join_i64 h (k x (by simp))) (fun s hs => k s (by simp [hs]))

set_option maxRecDepth 100000 in
set_option maxHeartbeats 8000000 in
theorem gfold_any (o : Ch) (A : Option Addr) (len cap : Nat) (l : List Ch) (ho : o.Int64) (hl : len ≤ 9223372036854775807) (w : World) (hr : RowC w.heap.size w A len l) :
    Calls Try.prog 30 #[chV o, .slice A len cap, .func (.func 31) #[] #[]] w (Gives (chV (foldJ o l)) w) := by
  have HR := Lib.hid hr
  have hL := Lib.hid hr.1
  have HO := Lib.hid ho
  have JN := Lib.hid gjoin_any
  obtain ⟨F, hF⟩ : ∃ F, foldJ o l = F := ⟨_, rfl⟩
  have E0 : Hid (foldJ o (l.drop 0) = F) := hF
  rw [hF]
  clear hr ho hF
  unfold chV at JN ⊢
  obtain ⟨W, hW⟩ : ∃ W, ((w.alloc (.cells #[.int .i64 o.t, .int .i64 o.a, .int .i64 o.b, .int .i64 o.c, .int .i64 o.d] 24)).alloc (.cells #[.int .i64 0, .int .i64 0, .int .i64 0, .int .i64 0, .int .i64 0] 24)).alloc (.cells #[.int .i64 o.t, .int .i64 o.a, .int .i64 o.b, .int .i64 o.c, .int .i64 o.d] 24) = W := ⟨_, rfl⟩
  have T0 : Hid (Five W w.heap.size 24 (.int .i64 o.t) (.int .i64 o.a) (.int .i64 o.b) (.int .i64 o.c) (.int .i64 o.d)) := by rw [← hW]; exact ((Five.new w _ _ _ _ _ _).alloc _).alloc _
  have T1 : Hid (Five W (w.heap.size + 1) 24 (.int .i64 0) (.int .i64 0) (.int .i64 0) (.int .i64 0) (.int .i64 0)) := by
    rw [← hW]
    have k := Five.new (w.alloc (.cells #[.int .i64 o.t, .int .i64 o.a, .int .i64 o.b, .int .i64 o.c, .int .i64 o.d] 24)) 24 (.int .i64 0) (.int .i64 0) (.int .i64 0) (.int .i64 0) (.int .i64 0)
    rw [show (w.alloc (.cells #[.int .i64 o.t, .int .i64 o.a, .int .i64 o.b, .int .i64 o.c, .int .i64 o.d] 24)).heap.size = w.heap.size + 1 by simp] at k
    exact k.alloc _
  have T2 : Hid (Five W (w.heap.size + 1 + 1) 24 (.int .i64 o.t) (.int .i64 o.a) (.int .i64 o.b) (.int .i64 o.c) (.int .i64 o.d)) := by
    rw [← hW]
    have k := Five.new ((w.alloc (.cells #[.int .i64 o.t, .int .i64 o.a, .int .i64 o.b, .int .i64 o.c, .int .i64 o.d] 24)).alloc (.cells #[.int .i64 0, .int .i64 0, .int .i64 0, .int .i64 0, .int .i64 0] 24)) 24 (.int .i64 o.t) (.int .i64 o.a) (.int .i64 o.b) (.int .i64 o.c) (.int .i64 o.d)
    rwa [show ((w.alloc (.cells #[.int .i64 o.t, .int .i64 o.a, .int .i64 o.b, .int .i64 o.c, .int .i64 o.d] 24)).alloc (.cells #[.int .i64 0, .int .i64 0, .int .i64 0, .int .i64 0, .int .i64 0] 24)).heap.size = w.heap.size + 1 + 1 by simp] at k
  have BW : Hid (Below w.heap.size w W) := by rw [← hW]; exact (((below_alloc w _).alloc (by simp) _).alloc (by simp; omega) _)
  go_enter Try.func30, Try.ntmps30
  go_wp2_with fail
  go_loopw [9, 13] (fun _ i wr => ∃ k : Nat, ∃ x : Ch, k ≤ len ∧ i = .int .i64 k ∧ Hid (foldJ x (l.drop k) = F) ∧ Hid x.Int64 ∧ Hid (Below w.heap.size w wr) ∧ Hid (Five wr (w.heap.size + 1) 24 (.int .i64 0) (.int .i64 0) (.int .i64 0) (.int .i64 0) (.int .i64 0)) ∧ Hid (Five wr (w.heap.size + 1 + 1) 24 (.int .i64 x.t) (.int .i64 x.a) (.int .i64 x.b) (.int .i64 x.c) (.int .i64 x.d))) (fun _ i _ => len - (intOf i).toNat)
  case atStart => exact ⟨0, o, Nat.zero_le _, rfl, E0, HO, BW, T1, T2⟩
  case round =>
    rename_i wr
    clear T0 T1 T2 BW E0 hW
    obtain ⟨k, x, hk, rfl, E, HX, BB, Z, O⟩ := hrel
    have o0 := O.out.c0
    have o1 := O.out.c1
    have o2 := O.out.c2
    have o3 := O.out.c3
    have o4 := O.out.c4
    have o5 := O.out.lt
    by_cases hlt : k < len
    · obtain ⟨p, rfl, hp, hy, hI⟩ := HR.out.at_ k hlt
      have E1 := Lib.hid (show foldJ (joinR x (l.getD k Ch.nil)) (l.drop (k + 1)) = F by
        have h := E.out
        rw [List.drop_eq_getElem_cons (by rw [hL.out]; exact hlt)] at h
        rw [show l.getD k Ch.nil = l[k]'(by rw [hL.out]; exact hlt) by simp [List.getD, show k < l.length by rw [hL.out]; exact hlt]]
        exact h)
      have hY := Lib.hid (hy.below BB.out (by rw [block_of_add]; exact hp))
      clear E hy
      generalize l.getD k Ch.nil = y at hY E1 hI
      obtain ⟨y0, y1, y2, y3, y4⟩ := hY.out
      have HJ := Lib.hid (join_i64 HX.out hI)
      have JK := Lib.hid (JN.out x y HX.out hI)
      generalize joinR x y = z at JK E1 HJ
      have ypb : (p.add (k * 5)).block < wr.heap.size := by rw [block_of_add]; exact Nat.lt_of_lt_of_le hp BB.out.size
      have YN := Lib.hid (Five.new wr 24 (.int .i64 y.t) (.int .i64 y.a) (.int .i64 y.b) (.int .i64 y.c) (.int .i64 y.d))
      have OX := O.out.alloc (.cells #[.int .i64 y.t, .int .i64 y.a, .int .i64 y.b, .int .i64 y.c, .int .i64 y.d] 24)
      have OH := Lib.hid OX
      have ZH := Lib.hid (Z.out.alloc (.cells #[.int .i64 y.t, .int .i64 y.a, .int .i64 y.b, .int .i64 y.c, .int .i64 y.d] 24))
      have BH := Lib.hid (BB.out.alloc BB.out.size (.cells #[.int .i64 y.t, .int .i64 y.a, .int .i64 y.b, .int .i64 y.c, .int .i64 y.d] 24))
      have n0 := YN.out.c0
      have n1 := YN.out.c1
      have n2 := YN.out.c2
      have n3 := YN.out.c3
      have n4 := YN.out.c4
      have n5 := YN.out.lt
      have m0 := OX.c0
      have m1 := OX.c1
      have m2 := OX.c2
      have m3 := OX.c3
      have m4 := OX.c4
      have m5 := OX.lt
      have sz := Lib.hid BB.out.size
      clear OX
      go_wp2_with (go_at_call 31; (with_reducible refine (JK.out _).mono ?_); rintro e w2 ⟨rfl, b2⟩; replace OH := Lib.hid (OH.out.below b2 OH.out.lt); replace ZH := Lib.hid (ZH.out.below b2 ZH.out.lt); replace BH := Lib.hid (below_more BH.out b2); have q0 := OH.out.free 0; have q1 := OH.out.free 1; have q2 := OH.out.free 2; have q3 := OH.out.free 3; have q4 := OH.out.free 4; have q5 := OH.out.lt; have q6 := OH.out.c0; have q7 := OH.out.c1; have q8 := OH.out.c2; have q9 := OH.out.c3; have q10 := OH.out.c4; clear b2 JK)
      have OH2 := Lib.hid (gfive_put OH.out z)
      have ZH2 := Lib.hid (gfive_other ZH.out (w.heap.size + 1 + 1) (by omega) z)
      have BH2 := Lib.hid (gbelow_put BH.out (w.heap.size + 1 + 1) (by omega) z)
      go_wp2_with fail
      go_roundw
      case rel => exact ⟨k + 1, z, by omega, by go_num, E1, HJ, BH2, ZH2, OH2⟩
      case measure => simp [intOf]; omega
    · obtain rfl : k = len := by omega
      have e : x = F := by
        have h := E.out
        rw [List.drop_eq_nil_of_le (by rw [hL.out]; exact Nat.le_refl _)] at h
        exact h
      subst e
      have z5 := Z.out.lt
      have z0 := Z.out.c0
      have z1 := Z.out.c1
      have z2 := Z.out.c2
      have z3 := Z.out.c3
      have z4 := Z.out.c4
      have f0 := Z.out.free 0
      have f1 := Z.out.free 1
      have f2 := Z.out.free 2
      have f3 := Z.out.free 3
      have f4 := Z.out.free 4
      have B2 := Lib.hid (gbelow_put BB.out (w.heap.size + 1) (by omega) x)
      go_wp2_with fail
      refine bodyPost_ret (v := .agg #[.int .i64 x.t, .int .i64 x.a, .int .i64 x.b, .int .i64 x.c, .int .i64 x.d]) (by simp [results, Try.results30, go_sem, z0, z1, z2, z3, z4, z5]) rfl ⟨rfl, ?_⟩
      exact B2.out
end Go.Proofs.Ytkeahbdeddjoeaa
