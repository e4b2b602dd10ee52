/- Layer 7: the fixed examples that each statement begins with: the walk. -/
import Derived.Laws.StructEq
import Derived.Test.YtjjpcgfhoncmeaaHead
namespace Go.Proofs.Ytjjpcgfhoncmeaa
open Go.RowKit Go
set_option linter.unusedVariables false
set_option linter.unusedSimpArgs false

theorem i64_small (x : Int) (h1 : -9223372036854775808 ≤ x) (h2 : x ≤ 9223372036854775807) : I64 x := ⟨h1, h2⟩

theorem rowS_two (w : World) (a b : Sg) (ha : a.Int64) (hb : b.Int64) (g : Nat) (hg : g = w.heap.size) :
    RowS (w.alloc (.cells #[.int .i64 a.c, .int .i64 a.tl, .int .i64 a.th, .int .i64 a.al, .int .i64 a.ah, .int .i64 b.c, .int .i64 b.tl, .int .i64 b.th, .int .i64 b.al, .int .i64 b.ah] 45)).heap.size (w.alloc (.cells #[.int .i64 a.c, .int .i64 a.tl, .int .i64 a.th, .int .i64 a.al, .int .i64 a.ah, .int .i64 b.c, .int .i64 b.tl, .int .i64 b.th, .int .i64 b.al, .int .i64 b.ah] 45)) (some ⟨g, 0, none⟩) 2 [a, b] := by
  subst hg
  have h : (w.alloc (.cells #[.int .i64 a.c, .int .i64 a.tl, .int .i64 a.th, .int .i64 a.al, .int .i64 a.ah, .int .i64 b.c, .int .i64 b.tl, .int .i64 b.th, .int .i64 b.al, .int .i64 b.ah] 45)).heap[w.heap.size]? = some (.cells #[.int .i64 a.c, .int .i64 a.tl, .int .i64 a.th, .int .i64 a.al, .int .i64 a.ah, .int .i64 b.c, .int .i64 b.tl, .int .i64 b.th, .int .i64 b.al, .int .i64 b.ah] 45 (0, 0)) := heap_alloc_new w _
  refine ⟨rfl, fun _ => ⟨_, rfl, by simp, fun i hi => ?_⟩, ?_⟩
  · rcases (by omega : i = 0 ∨ i = 1) with rfl | rfl
    · rw [show Addr.add ⟨w.heap.size, 0, none⟩ (0 * 5) = ⟨w.heap.size, 0, none⟩ by simp [Addr.add]]
      exact ⟨cell_of_row _ _ 0 _ _ (0, 0) h, cell_of_row _ _ 1 _ _ (0, 0) h, cell_of_row _ _ 2 _ _ (0, 0) h, cell_of_row _ _ 3 _ _ (0, 0) h, cell_of_row _ _ 4 _ _ (0, 0) h⟩
    · rw [show Addr.add ⟨w.heap.size, 0, none⟩ (1 * 5) = ⟨w.heap.size, 5, none⟩ by simp [Addr.add]]
      exact ⟨cell_of_row _ _ 5 _ _ (0, 0) h, cell_of_row _ _ 6 _ _ (0, 0) h, cell_of_row _ _ 7 _ _ (0, 0) h, cell_of_row _ _ 8 _ _ (0, 0) h, cell_of_row _ _ 9 _ _ (0, 0) h⟩
  · intro s hs
    simp at hs
    rcases hs with rfl | rfl
    · exact ha
    · exact hb

theorem sev_lit (G : Dft) (T : Tb) (ex : T.Ex) (w : World) (ht : T.At w) :
    Calls Try.prog 21 #[T.val, .slice (some ⟨w.heap.size, 0, none⟩) 2 2] (w.alloc (.cells #[.int .i64 7, .int .i64 0, .int .i64 0, .int .i64 0, .int .i64 0, .int .i64 0, .int .i64 0, .int .i64 0, .int .i64 0, .int .i64 0] 45)) fun e w' =>
      e = .returned (.tuple #[rgV 6 9, .int .i64 0]) ∧ Below w.heap.size w w' := by
  have k : (⟨0, 0, 0, 0, 0⟩ : Sg).Int64 := ⟨⟨by decide, by decide⟩, ⟨by decide, by decide⟩, ⟨by decide, by decide⟩, ⟨by decide, by decide⟩, ⟨by decide, by decide⟩⟩
  have k7 : (⟨7, 0, 0, 0, 0⟩ : Sg).Int64 := ⟨⟨by decide, by decide⟩, ⟨by decide, by decide⟩, ⟨by decide, by decide⟩, ⟨by decide, by decide⟩, ⟨by decide, by decide⟩⟩
  have b := below_alloc w (.cells #[.int .i64 7, .int .i64 0, .int .i64 0, .int .i64 0, .int .i64 0, .int .i64 0, .int .i64 0, .int .i64 0, .int .i64 0, .int .i64 0] 45)
  have h := G.sev T (some ⟨w.heap.size, 0, none⟩) 2 2 [⟨7, 0, 0, 0, 0⟩, ⟨0, 0, 0, 0, 0⟩] ex.2.2.2 (by omega) (by omega) (fun h => by cases h) _ (ht.step b) (rowS_two w ⟨7, 0, 0, 0, 0⟩ ⟨0, 0, 0, 0, 0⟩ k7 k w.heap.size rfl)
  rw [ex_sev ex] at h
  exact h.mono fun e w' ⟨x, y⟩ => ⟨x, below_more b y⟩

/-- The three boxes that lie by then. -/
def Bx (g1 g2 g3 : Nat) (W : World) : Prop := Two W g1 27 (.int .i64 999950) (.int .i64 1000051) ∧ Two W g2 27 (.int .i64 0) (.int .i64 1) ∧ Two W g3 27 (.int .i64 999950) (.int .i64 1000050)
theorem Bx.step {g1 g2 g3 : Nat} {W W' : World} (h : Bx g1 g2 g3 W) (b : Below W.heap.size W W') : Bx g1 g2 g3 W' := ⟨h.1.below b h.1.lt, h.2.1.below b h.2.1.lt, h.2.2.below b h.2.2.lt⟩

set_option maxHeartbeats 4000000 in
set_option maxRecDepth 100000 in
theorem head_true (G : Dft) (w : World) : Calls Try.prog 9 #[] w (Gives (.bool true) w) := by
  have GG := Lib.hid G
  have E1 := Lib.hid (G.el 50000 1000000 ⟨by omega, by omega⟩ ⟨by omega, by omega⟩)
  have E2 := Lib.hid (G.el 1000000 0 ⟨by omega, by omega⟩ ⟨by omega, by omega⟩)
  have C1 := Lib.hid (G.co 50000 1000000 ⟨by omega, by omega⟩ ⟨by omega, by omega⟩)
  rw [ex_el1] at E1
  rw [ex_el2] at E2
  rw [ex_co] at C1
  have EX := Lib.hid example_any
  have R1 := Lib.hid (fun (T : Tb) (ex : T.Ex) (w : World) (a : T.At w) => by have h := G.rate T 25 99 ex.2.2.2 ⟨by omega, by omega⟩ ⟨by omega, by omega⟩ w a; rwa [ex_rate ex] at h)
  have R2 := Lib.hid (fun (T : Tb) (ex : T.Ex) (w : World) (a : T.At w) => by have h := G.rate T (-41) 0 ex.2.2.2 ⟨by omega, by omega⟩ ⟨by omega, by omega⟩ w a; rwa [ex_below ex] at h)
  have W1 := Lib.hid (fun (T : Tb) (ex : T.Ex) (w : World) (a : T.At w) => by have h := G.worst T 0 30 0 99 ex.2.2.2 ⟨by omega, by omega⟩ ⟨by omega, by omega⟩ ⟨by omega, by omega⟩ ⟨by omega, by omega⟩ w a; rwa [ex_worst ex] at h)
  have S1 := Lib.hid (sev_lit G)
  clear G
  unfold rgV at E1 E2 C1 W1 S1
  go_enter Try.func9, Try.ntmps9
  go_wp2_with (first
    | (go_at_call 17; (with_reducible refine (E1.out _).mono ?_); rintro e w1 ⟨rfl, b1⟩; have B1 := Lib.hid (below_more b1 (below_alloc w1 (.cells #[.int .i64 999950, .int .i64 1000051] 27))); have T1 := Lib.hid (Two.new w1 27 (.int .i64 999950) (.int .i64 1000051)); clear b1 E1)
    | (go_at_call 17; (with_reducible refine (E2.out _).mono ?_); rintro e w2 ⟨rfl, b2⟩; have B2 := Lib.hid (below_more (below_more B1.out b2) (below_alloc w2 (.cells #[.int .i64 0, .int .i64 1] 27))); have T2 := Lib.hid (Two.new w2 27 (.int .i64 0) (.int .i64 1)); replace T1 := Lib.hid ((T1.out.below b2 T1.out.lt).alloc (.cells #[.int .i64 0, .int .i64 1] 27)); clear b2 E2)
    | (go_at_call 19; (with_reducible refine (C1.out _).mono ?_); rintro e w3 ⟨rfl, b3⟩; have B3 := Lib.hid (below_more (below_more B2.out b3) (below_alloc w3 (.cells #[.int .i64 999950, .int .i64 1000050] 27))); have T3 := Lib.hid (Two.new w3 27 (.int .i64 999950) (.int .i64 1000050)); replace T1 := Lib.hid ((T1.out.below b3 T1.out.lt).alloc (.cells #[.int .i64 999950, .int .i64 1000050] 27)); replace T2 := Lib.hid ((T2.out.below b3 T2.out.lt).alloc (.cells #[.int .i64 999950, .int .i64 1000050] 27)); clear b3 C1))
  have KK := Lib.hid (show Bx _ _ _ _ from ⟨T1.out, T2.out, T3.out⟩)
  have BB := Lib.hid B3.out
  clear T1 T2 T3 B1 B2 B3
  obtain ⟨W0, hW0⟩ : ∃ W0, w3.alloc (.cells #[.int .i64 999950, .int .i64 1000050] 27) = W0 := ⟨_, rfl⟩
  rw [hW0] at KK BB ⊢
  clear hW0
  refine (EX.out _).mono ?_
  rintro e w4 ⟨Tx, rfl, ex, at4, b4⟩
  replace BB := Lib.hid (below_more BB.out b4)
  replace KK := Lib.hid (KK.out.step b4)
  have RT := Lib.hid (R1.out Tx ex w4 at4)
  clear b4 at4 ex R1
  go_wp2_with (go_at_call 11; (with_reducible refine RT.out.mono ?_); rintro e w5 ⟨rfl, b5⟩; replace BB := Lib.hid (below_more BB.out b5); replace KK := Lib.hid (KK.out.step b5); clear b5)
  refine (EX.out _).mono ?_
  rintro e w6 ⟨Ty, rfl, ex, at6, b6⟩
  replace BB := Lib.hid (below_more BB.out b6)
  replace KK := Lib.hid (KK.out.step b6)
  have WT := Lib.hid (W1.out Ty ex w6 at6)
  clear b6 at6 ex W1 RT
  go_wp2_with (go_at_call 15; (with_reducible refine WT.out.mono ?_); rintro e w7 ⟨rfl, b7⟩; replace BB := Lib.hid (below_more BB.out b7); replace KK := Lib.hid (KK.out.step b7); clear b7)
  refine (EX.out _).mono ?_
  rintro e w8 ⟨Tz, rfl, ex, at8, b8⟩
  replace BB := Lib.hid (below_more BB.out b8)
  replace KK := Lib.hid (KK.out.step b8)
  have RT := Lib.hid (R2.out Tz ex w8 at8)
  clear b8 at8 ex R2 WT
  go_wp2_with (go_at_call 11; (with_reducible refine RT.out.mono ?_); rintro e w9 ⟨rfl, b9⟩; replace BB := Lib.hid (below_more BB.out b9); replace KK := Lib.hid (KK.out.step b9); clear b9)
  refine (EX.out _).mono ?_
  rintro e w10 ⟨Tu, rfl, ex, at10, b10⟩
  replace BB := Lib.hid (below_more BB.out b10)
  replace KK := Lib.hid (KK.out.step b10)
  have ST := Lib.hid (S1.out Tu ex w10 at10)
  clear b10 at10 ex S1 RT EX
  go_wp2_with (go_at_call 21; (with_reducible refine ST.out.mono ?_); rintro e w11 ⟨rfl, b11⟩; have B11 := Lib.hid ((below_more BB.out b11).alloc (Nat.le_trans BB.out.size b11.size) (.cells #[.int .i64 6, .int .i64 9] 27)); have K11 := Lib.hid ((KK.out.step b11).step (below_alloc w11 (.cells #[.int .i64 6, .int .i64 9] 27))); have N11 := Two.new w11 27 (.int .i64 6) (.int .i64 9); have n0 := N11.c0; have n1 := N11.c1; have n2 := N11.lt; have k0 := K11.out.1.c0; have k1 := K11.out.1.c1; have k2 := K11.out.1.lt; have k3 := K11.out.2.1.c0; have k4 := K11.out.2.1.c1; have k5 := K11.out.2.1.lt; have k6 := K11.out.2.2.c0; have k7 := K11.out.2.2.c1; have k8 := K11.out.2.2.lt; clear b11 BB KK ST N11)
  go_ret
  exact ⟨by simp, B11.out⟩
end Go.Proofs.Ytjjpcgfhoncmeaa
