/- Layer 2: Meet, Hull, Grow and Depth of package interval. -/
import Derived.Test.YtpooifjieoijjaaPkg
namespace Go.Proofs.Ytpooifjieoijjaa
open Go.RowKit Go
set_option linter.unusedVariables false

theorem row_two (b : Nat) (x y : Int × Int) (W : World) (hb : b < W.heap.size) (c0 : W.cell? ⟨b, 0, none⟩ = some (.int .i64 x.1)) (c1 : W.cell? ⟨b, 1, none⟩ = some (.int .i64 x.2)) (c2 : W.cell? ⟨b, 2, none⟩ = some (.int .i64 y.1)) (c3 : W.cell? ⟨b, 3, none⟩ = some (.int .i64 y.2)) :
    Row W.heap.size W (some ⟨b, 0, none⟩) 2 [x, y] :=
  ⟨rfl, fun _ => ⟨_, rfl, hb, fun i hi => by
    match i, hi with
    | 0, _ => exact ⟨c0, c1⟩
    | 1, _ => exact ⟨c2, c3⟩⟩⟩

theorem validList_two (b : Nat) (x y : Int × Int) (W : World) (hb : b < W.heap.size) (c0 : W.cell? ⟨b, 0, none⟩ = some (.int .i64 x.1)) (c1 : W.cell? ⟨b, 1, none⟩ = some (.int .i64 x.2)) (c2 : W.cell? ⟨b, 2, none⟩ = some (.int .i64 y.1)) (c3 : W.cell? ⟨b, 3, none⟩ = some (.int .i64 y.2)) :
    Calls Try.prog 28 #[.slice (some ⟨b, 0, none⟩) 2 2] W (Gives (.bool (validB x && validB y)) W) := by
  have := validList_any (some ⟨b, 0, none⟩) 2 2 [x, y] W (row_two b x y W hb c0 c1 c2 c3) (by omega)
  have e : okList [x, y] = (validB x && validB y) := by simp [okList]
  rwa [e] at this

theorem cell_lt {w : World} {p : Addr} {v : Value} (h : w.cell? p = some v) : p.block < w.heap.size := by
  rcases Nat.lt_or_ge p.block w.heap.size with hl | hl
  · exact hl
  · simp [World.cell?, Array.getElem?_eq_none hl] at h
theorem keepC {W w1 : World} (hb : Below W.heap.size W w1) {p : Addr} {v : Value} (h : W.cell? p = some v) : w1.cell? p = some v := (hb.cell (cell_lt h)).trans h
theorem keepF {W w1 : World} (hb : Below W.heap.size W w1) {p : Addr} (hl : p.block < W.heap.size) (h : W.frozen? p = false) : w1.frozen? p = false := (hb.frozen hl).trans h

def meetR (x y : Int × Int) : (Int × Int) × Bool × Int :=
  if (validB x && validB y) = true then (if max x.1 y.1 ≤ min x.2 y.2 then ((max x.1 y.1, min x.2 y.2), true, 0) else ((0, 0), false, 0)) else ((0, 0), false, 1)

set_option maxHeartbeats 1000000 in
theorem meet_w1 (a b c d : Int) (w : World) (HV : Hid ((validB (a, b) && validB (c, d)) = true)) (h1 : c ≤ a) (h2 : b ≤ d) (h3 : a ≤ b) : Calls Try.prog 12 #[.agg #[.int .i64 a, .int .i64 b], .agg #[.int .i64 c, .int .i64 d]] w
    (Gives (.tuple #[ivV (meetR (a, b) (c, d)).1, .bool (meetR (a, b) (c, d)).2.1, .int .i64 (meetR (a, b) (c, d)).2.2]) w) := by
  have V : Hid (∀ (b : Nat) (x y : Int × Int) (W : World) (hb : b < W.heap.size) (c0 : W.cell? ⟨b, 0, none⟩ = some (.int .i64 x.1)) (c1 : W.cell? ⟨b, 1, none⟩ = some (.int .i64 x.2)) (c2 : W.cell? ⟨b, 2, none⟩ = some (.int .i64 y.1)) (c3 : W.cell? ⟨b, 3, none⟩ = some (.int .i64 y.2)),
      Calls Try.prog 28 #[.slice (some ⟨b, 0, none⟩) 2 2] W (Gives (.bool (validB x && validB y)) W)) := validList_two
  have HM : Hid (meetR (a, b) (c, d) = ((a, b), true, 0)) := by
    show meetR (a, b) (c, d) = _
    have e1 : max a c = a := by omega
    have e2 : min b d = b := by omega
    rw [meetR, if_pos HV.out]
    simp only [e1, e2]
    rw [if_pos (by omega)]
  go_enter Try.func12, Try.ntmps12
  go_wp2_with fail
  refine (V.out _ (a, b) (c, d) _ (by simp) (by go_cell) (by go_cell) (by go_cell) (by go_cell)).mono ?_
  rintro e w1 ⟨rfl, b1⟩
  rw [HV.out]
  have k1 : w1.cell? ⟨w.heap.size, 0, none⟩ = some (.int .i64 a) := keepC b1 (by go_cell)
  have k2 : w1.cell? ⟨w.heap.size, 1, none⟩ = some (.int .i64 b) := keepC b1 (by go_cell)
  have k3 : w1.cell? ⟨w.heap.size + 1, 0, none⟩ = some (.int .i64 c) := keepC b1 (by go_cell)
  have k4 : w1.cell? ⟨w.heap.size + 1, 1, none⟩ = some (.int .i64 d) := keepC b1 (by go_cell)
  have k5 : w1.cell? ⟨w.heap.size + 1 + 1, 0, none⟩ = some (.int .i64 0) := keepC b1 (by go_cell)
  have k6 : w1.cell? ⟨w.heap.size + 1 + 1, 1, none⟩ = some (.int .i64 0) := keepC b1 (by go_cell)
  have f5 : w1.frozen? ⟨w.heap.size + 1 + 1, 0, none⟩ = false := keepF b1 (by simp) (by simp [go_sem])
  have f6 : w1.frozen? ⟨w.heap.size + 1 + 1, 1, none⟩ = false := keepF b1 (by simp) (by simp [go_sem])
  have hz : w.heap.size + 1 + 1 < w1.heap.size := by have := b1.size; simp at this; omega
  have hb : Below w.heap.size w w1 := ((((Below.refl _ w).alloc (Nat.le_refl _) _).alloc (by simp) _).alloc (by simp; omega) _).alloc (by simp; omega) _ |>.trans (b1.mono (by simp; omega))
  clear b1
  go_wp2_with fail
  refine bodyPost_ret (v := .tuple #[.agg #[.int .i64 a, .int .i64 b], .bool true, .int .i64 0]) (by simp [results, Try.results12, go_sem, k5, k6, hz]) rfl ⟨by rw [HM.out]; rfl, ?_⟩
  exact ((hb.setCell (p := ⟨w.heap.size + 1 + 1, 0, none⟩) (by simp; omega) _).setCell (p := ⟨w.heap.size + 1 + 1, 1, none⟩) (by simp; omega) _).alloc (by simp [World.setCell]; omega) _

set_option maxHeartbeats 1000000 in
theorem meet_w2 (a b c d : Int) (w : World) (HV : Hid ((validB (a, b) && validB (c, d)) = true)) (h1 : c ≤ a) (h2 : b ≤ d) (h3 : b < a) : Calls Try.prog 12 #[.agg #[.int .i64 a, .int .i64 b], .agg #[.int .i64 c, .int .i64 d]] w
    (Gives (.tuple #[ivV (meetR (a, b) (c, d)).1, .bool (meetR (a, b) (c, d)).2.1, .int .i64 (meetR (a, b) (c, d)).2.2]) w) := by
  have V : Hid (∀ (b : Nat) (x y : Int × Int) (W : World) (hb : b < W.heap.size) (c0 : W.cell? ⟨b, 0, none⟩ = some (.int .i64 x.1)) (c1 : W.cell? ⟨b, 1, none⟩ = some (.int .i64 x.2)) (c2 : W.cell? ⟨b, 2, none⟩ = some (.int .i64 y.1)) (c3 : W.cell? ⟨b, 3, none⟩ = some (.int .i64 y.2)),
      Calls Try.prog 28 #[.slice (some ⟨b, 0, none⟩) 2 2] W (Gives (.bool (validB x && validB y)) W)) := validList_two
  have HM : Hid (meetR (a, b) (c, d) = ((0, 0), false, 0)) := by
    show meetR (a, b) (c, d) = _
    have e1 : max a c = a := by omega
    have e2 : min b d = b := by omega
    rw [meetR, if_pos HV.out]
    simp only [e1, e2]
    rw [if_neg (by omega)]
  go_enter Try.func12, Try.ntmps12
  go_wp2_with fail
  refine (V.out _ (a, b) (c, d) _ (by simp) (by go_cell) (by go_cell) (by go_cell) (by go_cell)).mono ?_
  rintro e w1 ⟨rfl, b1⟩
  rw [HV.out]
  have k1 : w1.cell? ⟨w.heap.size, 0, none⟩ = some (.int .i64 a) := keepC b1 (by go_cell)
  have k2 : w1.cell? ⟨w.heap.size, 1, none⟩ = some (.int .i64 b) := keepC b1 (by go_cell)
  have k3 : w1.cell? ⟨w.heap.size + 1, 0, none⟩ = some (.int .i64 c) := keepC b1 (by go_cell)
  have k4 : w1.cell? ⟨w.heap.size + 1, 1, none⟩ = some (.int .i64 d) := keepC b1 (by go_cell)
  have k5 : w1.cell? ⟨w.heap.size + 1 + 1, 0, none⟩ = some (.int .i64 0) := keepC b1 (by go_cell)
  have k6 : w1.cell? ⟨w.heap.size + 1 + 1, 1, none⟩ = some (.int .i64 0) := keepC b1 (by go_cell)
  have f5 : w1.frozen? ⟨w.heap.size + 1 + 1, 0, none⟩ = false := keepF b1 (by simp) (by simp [go_sem])
  have f6 : w1.frozen? ⟨w.heap.size + 1 + 1, 1, none⟩ = false := keepF b1 (by simp) (by simp [go_sem])
  have hz : w.heap.size + 1 + 1 < w1.heap.size := by have := b1.size; simp at this; omega
  have hb : Below w.heap.size w w1 := ((((Below.refl _ w).alloc (Nat.le_refl _) _).alloc (by simp) _).alloc (by simp; omega) _).alloc (by simp; omega) _ |>.trans (b1.mono (by simp; omega))
  clear b1
  go_wp2_with fail
  refine bodyPost_ret (v := .tuple #[.agg #[.int .i64 0, .int .i64 0], .bool false, .int .i64 0]) (by simp [results, Try.results12, go_sem, k5, k6, hz]) rfl ⟨by rw [HM.out]; rfl, ?_⟩
  exact ((hb.setCell (p := ⟨w.heap.size + 1 + 1, 0, none⟩) (by simp; omega) _).setCell (p := ⟨w.heap.size + 1 + 1, 1, none⟩) (by simp; omega) _).alloc (by simp [World.setCell]; omega) _

set_option maxHeartbeats 1000000 in
theorem meet_w3 (a b c d : Int) (w : World) (HV : Hid ((validB (a, b) && validB (c, d)) = true)) (h1 : c ≤ a) (h2 : d < b) (h3 : a ≤ d) : Calls Try.prog 12 #[.agg #[.int .i64 a, .int .i64 b], .agg #[.int .i64 c, .int .i64 d]] w
    (Gives (.tuple #[ivV (meetR (a, b) (c, d)).1, .bool (meetR (a, b) (c, d)).2.1, .int .i64 (meetR (a, b) (c, d)).2.2]) w) := by
  have V : Hid (∀ (b : Nat) (x y : Int × Int) (W : World) (hb : b < W.heap.size) (c0 : W.cell? ⟨b, 0, none⟩ = some (.int .i64 x.1)) (c1 : W.cell? ⟨b, 1, none⟩ = some (.int .i64 x.2)) (c2 : W.cell? ⟨b, 2, none⟩ = some (.int .i64 y.1)) (c3 : W.cell? ⟨b, 3, none⟩ = some (.int .i64 y.2)),
      Calls Try.prog 28 #[.slice (some ⟨b, 0, none⟩) 2 2] W (Gives (.bool (validB x && validB y)) W)) := validList_two
  have HM : Hid (meetR (a, b) (c, d) = ((a, d), true, 0)) := by
    show meetR (a, b) (c, d) = _
    have e1 : max a c = a := by omega
    have e2 : min b d = d := by omega
    rw [meetR, if_pos HV.out]
    simp only [e1, e2]
    rw [if_pos (by omega)]
  go_enter Try.func12, Try.ntmps12
  go_wp2_with fail
  refine (V.out _ (a, b) (c, d) _ (by simp) (by go_cell) (by go_cell) (by go_cell) (by go_cell)).mono ?_
  rintro e w1 ⟨rfl, b1⟩
  rw [HV.out]
  have k1 : w1.cell? ⟨w.heap.size, 0, none⟩ = some (.int .i64 a) := keepC b1 (by go_cell)
  have k2 : w1.cell? ⟨w.heap.size, 1, none⟩ = some (.int .i64 b) := keepC b1 (by go_cell)
  have k3 : w1.cell? ⟨w.heap.size + 1, 0, none⟩ = some (.int .i64 c) := keepC b1 (by go_cell)
  have k4 : w1.cell? ⟨w.heap.size + 1, 1, none⟩ = some (.int .i64 d) := keepC b1 (by go_cell)
  have k5 : w1.cell? ⟨w.heap.size + 1 + 1, 0, none⟩ = some (.int .i64 0) := keepC b1 (by go_cell)
  have k6 : w1.cell? ⟨w.heap.size + 1 + 1, 1, none⟩ = some (.int .i64 0) := keepC b1 (by go_cell)
  have f5 : w1.frozen? ⟨w.heap.size + 1 + 1, 0, none⟩ = false := keepF b1 (by simp) (by simp [go_sem])
  have f6 : w1.frozen? ⟨w.heap.size + 1 + 1, 1, none⟩ = false := keepF b1 (by simp) (by simp [go_sem])
  have hz : w.heap.size + 1 + 1 < w1.heap.size := by have := b1.size; simp at this; omega
  have hb : Below w.heap.size w w1 := ((((Below.refl _ w).alloc (Nat.le_refl _) _).alloc (by simp) _).alloc (by simp; omega) _).alloc (by simp; omega) _ |>.trans (b1.mono (by simp; omega))
  clear b1
  go_wp2_with fail
  refine bodyPost_ret (v := .tuple #[.agg #[.int .i64 a, .int .i64 d], .bool true, .int .i64 0]) (by simp [results, Try.results12, go_sem, k5, k6, hz]) rfl ⟨by rw [HM.out]; rfl, ?_⟩
  exact ((hb.setCell (p := ⟨w.heap.size + 1 + 1, 0, none⟩) (by simp; omega) _).setCell (p := ⟨w.heap.size + 1 + 1, 1, none⟩) (by simp; omega) _).alloc (by simp [World.setCell]; omega) _

set_option maxHeartbeats 1000000 in
theorem meet_w4 (a b c d : Int) (w : World) (HV : Hid ((validB (a, b) && validB (c, d)) = true)) (h1 : c ≤ a) (h2 : d < b) (h3 : d < a) : Calls Try.prog 12 #[.agg #[.int .i64 a, .int .i64 b], .agg #[.int .i64 c, .int .i64 d]] w
    (Gives (.tuple #[ivV (meetR (a, b) (c, d)).1, .bool (meetR (a, b) (c, d)).2.1, .int .i64 (meetR (a, b) (c, d)).2.2]) w) := by
  have V : Hid (∀ (b : Nat) (x y : Int × Int) (W : World) (hb : b < W.heap.size) (c0 : W.cell? ⟨b, 0, none⟩ = some (.int .i64 x.1)) (c1 : W.cell? ⟨b, 1, none⟩ = some (.int .i64 x.2)) (c2 : W.cell? ⟨b, 2, none⟩ = some (.int .i64 y.1)) (c3 : W.cell? ⟨b, 3, none⟩ = some (.int .i64 y.2)),
      Calls Try.prog 28 #[.slice (some ⟨b, 0, none⟩) 2 2] W (Gives (.bool (validB x && validB y)) W)) := validList_two
  have HM : Hid (meetR (a, b) (c, d) = ((0, 0), false, 0)) := by
    show meetR (a, b) (c, d) = _
    have e1 : max a c = a := by omega
    have e2 : min b d = d := by omega
    rw [meetR, if_pos HV.out]
    simp only [e1, e2]
    rw [if_neg (by omega)]
  go_enter Try.func12, Try.ntmps12
  go_wp2_with fail
  refine (V.out _ (a, b) (c, d) _ (by simp) (by go_cell) (by go_cell) (by go_cell) (by go_cell)).mono ?_
  rintro e w1 ⟨rfl, b1⟩
  rw [HV.out]
  have k1 : w1.cell? ⟨w.heap.size, 0, none⟩ = some (.int .i64 a) := keepC b1 (by go_cell)
  have k2 : w1.cell? ⟨w.heap.size, 1, none⟩ = some (.int .i64 b) := keepC b1 (by go_cell)
  have k3 : w1.cell? ⟨w.heap.size + 1, 0, none⟩ = some (.int .i64 c) := keepC b1 (by go_cell)
  have k4 : w1.cell? ⟨w.heap.size + 1, 1, none⟩ = some (.int .i64 d) := keepC b1 (by go_cell)
  have k5 : w1.cell? ⟨w.heap.size + 1 + 1, 0, none⟩ = some (.int .i64 0) := keepC b1 (by go_cell)
  have k6 : w1.cell? ⟨w.heap.size + 1 + 1, 1, none⟩ = some (.int .i64 0) := keepC b1 (by go_cell)
  have f5 : w1.frozen? ⟨w.heap.size + 1 + 1, 0, none⟩ = false := keepF b1 (by simp) (by simp [go_sem])
  have f6 : w1.frozen? ⟨w.heap.size + 1 + 1, 1, none⟩ = false := keepF b1 (by simp) (by simp [go_sem])
  have hz : w.heap.size + 1 + 1 < w1.heap.size := by have := b1.size; simp at this; omega
  have hb : Below w.heap.size w w1 := ((((Below.refl _ w).alloc (Nat.le_refl _) _).alloc (by simp) _).alloc (by simp; omega) _).alloc (by simp; omega) _ |>.trans (b1.mono (by simp; omega))
  clear b1
  go_wp2_with fail
  refine bodyPost_ret (v := .tuple #[.agg #[.int .i64 0, .int .i64 0], .bool false, .int .i64 0]) (by simp [results, Try.results12, go_sem, k5, k6, hz]) rfl ⟨by rw [HM.out]; rfl, ?_⟩
  exact ((hb.setCell (p := ⟨w.heap.size + 1 + 1, 0, none⟩) (by simp; omega) _).setCell (p := ⟨w.heap.size + 1 + 1, 1, none⟩) (by simp; omega) _).alloc (by simp [World.setCell]; omega) _

set_option maxHeartbeats 1000000 in
theorem meet_w5 (a b c d : Int) (w : World) (HV : Hid ((validB (a, b) && validB (c, d)) = true)) (h1 : a < c) (h2 : b ≤ d) (h3 : c ≤ b) : Calls Try.prog 12 #[.agg #[.int .i64 a, .int .i64 b], .agg #[.int .i64 c, .int .i64 d]] w
    (Gives (.tuple #[ivV (meetR (a, b) (c, d)).1, .bool (meetR (a, b) (c, d)).2.1, .int .i64 (meetR (a, b) (c, d)).2.2]) w) := by
  have V : Hid (∀ (b : Nat) (x y : Int × Int) (W : World) (hb : b < W.heap.size) (c0 : W.cell? ⟨b, 0, none⟩ = some (.int .i64 x.1)) (c1 : W.cell? ⟨b, 1, none⟩ = some (.int .i64 x.2)) (c2 : W.cell? ⟨b, 2, none⟩ = some (.int .i64 y.1)) (c3 : W.cell? ⟨b, 3, none⟩ = some (.int .i64 y.2)),
      Calls Try.prog 28 #[.slice (some ⟨b, 0, none⟩) 2 2] W (Gives (.bool (validB x && validB y)) W)) := validList_two
  have HM : Hid (meetR (a, b) (c, d) = ((c, b), true, 0)) := by
    show meetR (a, b) (c, d) = _
    have e1 : max a c = c := by omega
    have e2 : min b d = b := by omega
    rw [meetR, if_pos HV.out]
    simp only [e1, e2]
    rw [if_pos (by omega)]
  go_enter Try.func12, Try.ntmps12
  go_wp2_with fail
  refine (V.out _ (a, b) (c, d) _ (by simp) (by go_cell) (by go_cell) (by go_cell) (by go_cell)).mono ?_
  rintro e w1 ⟨rfl, b1⟩
  rw [HV.out]
  have k1 : w1.cell? ⟨w.heap.size, 0, none⟩ = some (.int .i64 a) := keepC b1 (by go_cell)
  have k2 : w1.cell? ⟨w.heap.size, 1, none⟩ = some (.int .i64 b) := keepC b1 (by go_cell)
  have k3 : w1.cell? ⟨w.heap.size + 1, 0, none⟩ = some (.int .i64 c) := keepC b1 (by go_cell)
  have k4 : w1.cell? ⟨w.heap.size + 1, 1, none⟩ = some (.int .i64 d) := keepC b1 (by go_cell)
  have k5 : w1.cell? ⟨w.heap.size + 1 + 1, 0, none⟩ = some (.int .i64 0) := keepC b1 (by go_cell)
  have k6 : w1.cell? ⟨w.heap.size + 1 + 1, 1, none⟩ = some (.int .i64 0) := keepC b1 (by go_cell)
  have f5 : w1.frozen? ⟨w.heap.size + 1 + 1, 0, none⟩ = false := keepF b1 (by simp) (by simp [go_sem])
  have f6 : w1.frozen? ⟨w.heap.size + 1 + 1, 1, none⟩ = false := keepF b1 (by simp) (by simp [go_sem])
  have hz : w.heap.size + 1 + 1 < w1.heap.size := by have := b1.size; simp at this; omega
  have hb : Below w.heap.size w w1 := ((((Below.refl _ w).alloc (Nat.le_refl _) _).alloc (by simp) _).alloc (by simp; omega) _).alloc (by simp; omega) _ |>.trans (b1.mono (by simp; omega))
  clear b1
  go_wp2_with fail
  refine bodyPost_ret (v := .tuple #[.agg #[.int .i64 c, .int .i64 b], .bool true, .int .i64 0]) (by simp [results, Try.results12, go_sem, k5, k6, hz]) rfl ⟨by rw [HM.out]; rfl, ?_⟩
  exact ((hb.setCell (p := ⟨w.heap.size + 1 + 1, 0, none⟩) (by simp; omega) _).setCell (p := ⟨w.heap.size + 1 + 1, 1, none⟩) (by simp; omega) _).alloc (by simp [World.setCell]; omega) _

set_option maxHeartbeats 1000000 in
theorem meet_w6 (a b c d : Int) (w : World) (HV : Hid ((validB (a, b) && validB (c, d)) = true)) (h1 : a < c) (h2 : b ≤ d) (h3 : b < c) : Calls Try.prog 12 #[.agg #[.int .i64 a, .int .i64 b], .agg #[.int .i64 c, .int .i64 d]] w
    (Gives (.tuple #[ivV (meetR (a, b) (c, d)).1, .bool (meetR (a, b) (c, d)).2.1, .int .i64 (meetR (a, b) (c, d)).2.2]) w) := by
  have V : Hid (∀ (b : Nat) (x y : Int × Int) (W : World) (hb : b < W.heap.size) (c0 : W.cell? ⟨b, 0, none⟩ = some (.int .i64 x.1)) (c1 : W.cell? ⟨b, 1, none⟩ = some (.int .i64 x.2)) (c2 : W.cell? ⟨b, 2, none⟩ = some (.int .i64 y.1)) (c3 : W.cell? ⟨b, 3, none⟩ = some (.int .i64 y.2)),
      Calls Try.prog 28 #[.slice (some ⟨b, 0, none⟩) 2 2] W (Gives (.bool (validB x && validB y)) W)) := validList_two
  have HM : Hid (meetR (a, b) (c, d) = ((0, 0), false, 0)) := by
    show meetR (a, b) (c, d) = _
    have e1 : max a c = c := by omega
    have e2 : min b d = b := by omega
    rw [meetR, if_pos HV.out]
    simp only [e1, e2]
    rw [if_neg (by omega)]
  go_enter Try.func12, Try.ntmps12
  go_wp2_with fail
  refine (V.out _ (a, b) (c, d) _ (by simp) (by go_cell) (by go_cell) (by go_cell) (by go_cell)).mono ?_
  rintro e w1 ⟨rfl, b1⟩
  rw [HV.out]
  have k1 : w1.cell? ⟨w.heap.size, 0, none⟩ = some (.int .i64 a) := keepC b1 (by go_cell)
  have k2 : w1.cell? ⟨w.heap.size, 1, none⟩ = some (.int .i64 b) := keepC b1 (by go_cell)
  have k3 : w1.cell? ⟨w.heap.size + 1, 0, none⟩ = some (.int .i64 c) := keepC b1 (by go_cell)
  have k4 : w1.cell? ⟨w.heap.size + 1, 1, none⟩ = some (.int .i64 d) := keepC b1 (by go_cell)
  have k5 : w1.cell? ⟨w.heap.size + 1 + 1, 0, none⟩ = some (.int .i64 0) := keepC b1 (by go_cell)
  have k6 : w1.cell? ⟨w.heap.size + 1 + 1, 1, none⟩ = some (.int .i64 0) := keepC b1 (by go_cell)
  have f5 : w1.frozen? ⟨w.heap.size + 1 + 1, 0, none⟩ = false := keepF b1 (by simp) (by simp [go_sem])
  have f6 : w1.frozen? ⟨w.heap.size + 1 + 1, 1, none⟩ = false := keepF b1 (by simp) (by simp [go_sem])
  have hz : w.heap.size + 1 + 1 < w1.heap.size := by have := b1.size; simp at this; omega
  have hb : Below w.heap.size w w1 := ((((Below.refl _ w).alloc (Nat.le_refl _) _).alloc (by simp) _).alloc (by simp; omega) _).alloc (by simp; omega) _ |>.trans (b1.mono (by simp; omega))
  clear b1
  go_wp2_with fail
  refine bodyPost_ret (v := .tuple #[.agg #[.int .i64 0, .int .i64 0], .bool false, .int .i64 0]) (by simp [results, Try.results12, go_sem, k5, k6, hz]) rfl ⟨by rw [HM.out]; rfl, ?_⟩
  exact ((hb.setCell (p := ⟨w.heap.size + 1 + 1, 0, none⟩) (by simp; omega) _).setCell (p := ⟨w.heap.size + 1 + 1, 1, none⟩) (by simp; omega) _).alloc (by simp [World.setCell]; omega) _

set_option maxHeartbeats 1000000 in
theorem meet_w7 (a b c d : Int) (w : World) (HV : Hid ((validB (a, b) && validB (c, d)) = true)) (h1 : a < c) (h2 : d < b) (h3 : c ≤ d) : Calls Try.prog 12 #[.agg #[.int .i64 a, .int .i64 b], .agg #[.int .i64 c, .int .i64 d]] w
    (Gives (.tuple #[ivV (meetR (a, b) (c, d)).1, .bool (meetR (a, b) (c, d)).2.1, .int .i64 (meetR (a, b) (c, d)).2.2]) w) := by
  have V : Hid (∀ (b : Nat) (x y : Int × Int) (W : World) (hb : b < W.heap.size) (c0 : W.cell? ⟨b, 0, none⟩ = some (.int .i64 x.1)) (c1 : W.cell? ⟨b, 1, none⟩ = some (.int .i64 x.2)) (c2 : W.cell? ⟨b, 2, none⟩ = some (.int .i64 y.1)) (c3 : W.cell? ⟨b, 3, none⟩ = some (.int .i64 y.2)),
      Calls Try.prog 28 #[.slice (some ⟨b, 0, none⟩) 2 2] W (Gives (.bool (validB x && validB y)) W)) := validList_two
  have HM : Hid (meetR (a, b) (c, d) = ((c, d), true, 0)) := by
    show meetR (a, b) (c, d) = _
    have e1 : max a c = c := by omega
    have e2 : min b d = d := by omega
    rw [meetR, if_pos HV.out]
    simp only [e1, e2]
    rw [if_pos (by omega)]
  go_enter Try.func12, Try.ntmps12
  go_wp2_with fail
  refine (V.out _ (a, b) (c, d) _ (by simp) (by go_cell) (by go_cell) (by go_cell) (by go_cell)).mono ?_
  rintro e w1 ⟨rfl, b1⟩
  rw [HV.out]
  have k1 : w1.cell? ⟨w.heap.size, 0, none⟩ = some (.int .i64 a) := keepC b1 (by go_cell)
  have k2 : w1.cell? ⟨w.heap.size, 1, none⟩ = some (.int .i64 b) := keepC b1 (by go_cell)
  have k3 : w1.cell? ⟨w.heap.size + 1, 0, none⟩ = some (.int .i64 c) := keepC b1 (by go_cell)
  have k4 : w1.cell? ⟨w.heap.size + 1, 1, none⟩ = some (.int .i64 d) := keepC b1 (by go_cell)
  have k5 : w1.cell? ⟨w.heap.size + 1 + 1, 0, none⟩ = some (.int .i64 0) := keepC b1 (by go_cell)
  have k6 : w1.cell? ⟨w.heap.size + 1 + 1, 1, none⟩ = some (.int .i64 0) := keepC b1 (by go_cell)
  have f5 : w1.frozen? ⟨w.heap.size + 1 + 1, 0, none⟩ = false := keepF b1 (by simp) (by simp [go_sem])
  have f6 : w1.frozen? ⟨w.heap.size + 1 + 1, 1, none⟩ = false := keepF b1 (by simp) (by simp [go_sem])
  have hz : w.heap.size + 1 + 1 < w1.heap.size := by have := b1.size; simp at this; omega
  have hb : Below w.heap.size w w1 := ((((Below.refl _ w).alloc (Nat.le_refl _) _).alloc (by simp) _).alloc (by simp; omega) _).alloc (by simp; omega) _ |>.trans (b1.mono (by simp; omega))
  clear b1
  go_wp2_with fail
  refine bodyPost_ret (v := .tuple #[.agg #[.int .i64 c, .int .i64 d], .bool true, .int .i64 0]) (by simp [results, Try.results12, go_sem, k5, k6, hz]) rfl ⟨by rw [HM.out]; rfl, ?_⟩
  exact ((hb.setCell (p := ⟨w.heap.size + 1 + 1, 0, none⟩) (by simp; omega) _).setCell (p := ⟨w.heap.size + 1 + 1, 1, none⟩) (by simp; omega) _).alloc (by simp [World.setCell]; omega) _

set_option maxHeartbeats 1000000 in
theorem meet_w8 (a b c d : Int) (w : World) (HV : Hid ((validB (a, b) && validB (c, d)) = true)) (h1 : a < c) (h2 : d < b) (h3 : d < c) : Calls Try.prog 12 #[.agg #[.int .i64 a, .int .i64 b], .agg #[.int .i64 c, .int .i64 d]] w
    (Gives (.tuple #[ivV (meetR (a, b) (c, d)).1, .bool (meetR (a, b) (c, d)).2.1, .int .i64 (meetR (a, b) (c, d)).2.2]) w) := by
  have V : Hid (∀ (b : Nat) (x y : Int × Int) (W : World) (hb : b < W.heap.size) (c0 : W.cell? ⟨b, 0, none⟩ = some (.int .i64 x.1)) (c1 : W.cell? ⟨b, 1, none⟩ = some (.int .i64 x.2)) (c2 : W.cell? ⟨b, 2, none⟩ = some (.int .i64 y.1)) (c3 : W.cell? ⟨b, 3, none⟩ = some (.int .i64 y.2)),
      Calls Try.prog 28 #[.slice (some ⟨b, 0, none⟩) 2 2] W (Gives (.bool (validB x && validB y)) W)) := validList_two
  have HM : Hid (meetR (a, b) (c, d) = ((0, 0), false, 0)) := by
    show meetR (a, b) (c, d) = _
    have e1 : max a c = c := by omega
    have e2 : min b d = d := by omega
    rw [meetR, if_pos HV.out]
    simp only [e1, e2]
    rw [if_neg (by omega)]
  go_enter Try.func12, Try.ntmps12
  go_wp2_with fail
  refine (V.out _ (a, b) (c, d) _ (by simp) (by go_cell) (by go_cell) (by go_cell) (by go_cell)).mono ?_
  rintro e w1 ⟨rfl, b1⟩
  rw [HV.out]
  have k1 : w1.cell? ⟨w.heap.size, 0, none⟩ = some (.int .i64 a) := keepC b1 (by go_cell)
  have k2 : w1.cell? ⟨w.heap.size, 1, none⟩ = some (.int .i64 b) := keepC b1 (by go_cell)
  have k3 : w1.cell? ⟨w.heap.size + 1, 0, none⟩ = some (.int .i64 c) := keepC b1 (by go_cell)
  have k4 : w1.cell? ⟨w.heap.size + 1, 1, none⟩ = some (.int .i64 d) := keepC b1 (by go_cell)
  have k5 : w1.cell? ⟨w.heap.size + 1 + 1, 0, none⟩ = some (.int .i64 0) := keepC b1 (by go_cell)
  have k6 : w1.cell? ⟨w.heap.size + 1 + 1, 1, none⟩ = some (.int .i64 0) := keepC b1 (by go_cell)
  have f5 : w1.frozen? ⟨w.heap.size + 1 + 1, 0, none⟩ = false := keepF b1 (by simp) (by simp [go_sem])
  have f6 : w1.frozen? ⟨w.heap.size + 1 + 1, 1, none⟩ = false := keepF b1 (by simp) (by simp [go_sem])
  have hz : w.heap.size + 1 + 1 < w1.heap.size := by have := b1.size; simp at this; omega
  have hb : Below w.heap.size w w1 := ((((Below.refl _ w).alloc (Nat.le_refl _) _).alloc (by simp) _).alloc (by simp; omega) _).alloc (by simp; omega) _ |>.trans (b1.mono (by simp; omega))
  clear b1
  go_wp2_with fail
  refine bodyPost_ret (v := .tuple #[.agg #[.int .i64 0, .int .i64 0], .bool false, .int .i64 0]) (by simp [results, Try.results12, go_sem, k5, k6, hz]) rfl ⟨by rw [HM.out]; rfl, ?_⟩
  exact ((hb.setCell (p := ⟨w.heap.size + 1 + 1, 0, none⟩) (by simp; omega) _).setCell (p := ⟨w.heap.size + 1 + 1, 1, none⟩) (by simp; omega) _).alloc (by simp [World.setCell]; omega) _

set_option maxHeartbeats 1000000 in
theorem meet_bad (a b c d : Int) (w : World) (HV : Hid ((validB (a, b) && validB (c, d)) = false)) : Calls Try.prog 12 #[.agg #[.int .i64 a, .int .i64 b], .agg #[.int .i64 c, .int .i64 d]] w
    (Gives (.tuple #[ivV (meetR (a, b) (c, d)).1, .bool (meetR (a, b) (c, d)).2.1, .int .i64 (meetR (a, b) (c, d)).2.2]) w) := by
  have V : Hid (∀ (b : Nat) (x y : Int × Int) (W : World) (hb : b < W.heap.size) (c0 : W.cell? ⟨b, 0, none⟩ = some (.int .i64 x.1)) (c1 : W.cell? ⟨b, 1, none⟩ = some (.int .i64 x.2)) (c2 : W.cell? ⟨b, 2, none⟩ = some (.int .i64 y.1)) (c3 : W.cell? ⟨b, 3, none⟩ = some (.int .i64 y.2)),
      Calls Try.prog 28 #[.slice (some ⟨b, 0, none⟩) 2 2] W (Gives (.bool (validB x && validB y)) W)) := validList_two
  have HM : Hid (meetR (a, b) (c, d) = ((0, 0), false, 1)) := by
    show meetR (a, b) (c, d) = _
    rw [meetR, HV.out]; rfl
  go_enter Try.func12, Try.ntmps12
  go_wp2_with fail
  refine (V.out _ (a, b) (c, d) _ (by simp) (by go_cell) (by go_cell) (by go_cell) (by go_cell)).mono ?_
  rintro e w1 ⟨rfl, b1⟩
  rw [HV.out]
  have k1 : w1.cell? ⟨w.heap.size, 0, none⟩ = some (.int .i64 a) := keepC b1 (by go_cell)
  have k2 : w1.cell? ⟨w.heap.size, 1, none⟩ = some (.int .i64 b) := keepC b1 (by go_cell)
  have k3 : w1.cell? ⟨w.heap.size + 1, 0, none⟩ = some (.int .i64 c) := keepC b1 (by go_cell)
  have k4 : w1.cell? ⟨w.heap.size + 1, 1, none⟩ = some (.int .i64 d) := keepC b1 (by go_cell)
  have k5 : w1.cell? ⟨w.heap.size + 1 + 1, 0, none⟩ = some (.int .i64 0) := keepC b1 (by go_cell)
  have k6 : w1.cell? ⟨w.heap.size + 1 + 1, 1, none⟩ = some (.int .i64 0) := keepC b1 (by go_cell)
  have f5 : w1.frozen? ⟨w.heap.size + 1 + 1, 0, none⟩ = false := keepF b1 (by simp) (by simp [go_sem])
  have f6 : w1.frozen? ⟨w.heap.size + 1 + 1, 1, none⟩ = false := keepF b1 (by simp) (by simp [go_sem])
  have hz : w.heap.size + 1 + 1 < w1.heap.size := by have := b1.size; simp at this; omega
  have hb : Below w.heap.size w w1 := ((((Below.refl _ w).alloc (Nat.le_refl _) _).alloc (by simp) _).alloc (by simp; omega) _).alloc (by simp; omega) _ |>.trans (b1.mono (by simp; omega))
  clear b1
  go_wp2_with fail
  refine bodyPost_ret (v := .tuple #[.agg #[.int .i64 0, .int .i64 0], .bool false, .int .i64 1]) (by simp [results, Try.results12, go_sem, k5, k6]) rfl ⟨by rw [HM.out]; rfl, ?_⟩
  exact (hb.setCell (p := ⟨w.heap.size + 1 + 1, 0, none⟩) (by simp; omega) _).setCell (p := ⟨w.heap.size + 1 + 1, 1, none⟩) (by simp; omega) _

theorem meet_any (a b c d : Int) (w : World) : Calls Try.prog 12 #[.agg #[.int .i64 a, .int .i64 b], .agg #[.int .i64 c, .int .i64 d]] w
    (Gives (.tuple #[ivV (meetR (a, b) (c, d)).1, .bool (meetR (a, b) (c, d)).2.1, .int .i64 (meetR (a, b) (c, d)).2.2]) w) := by
  cases hv : validB (a, b) && validB (c, d) with
  | false => exact meet_bad a b c d w hv
  | true =>
    rcases Int.lt_or_le a c with h1 | h1 <;> rcases Int.lt_or_le d b with h2 | h2
    · rcases Int.lt_or_le d c with h3 | h3
      · exact meet_w8 a b c d w hv h1 h2 h3
      · exact meet_w7 a b c d w hv h1 h2 h3
    · rcases Int.lt_or_le b c with h3 | h3
      · exact meet_w6 a b c d w hv h1 h2 h3
      · exact meet_w5 a b c d w hv h1 h2 h3
    · rcases Int.lt_or_le d a with h3 | h3
      · exact meet_w4 a b c d w hv h1 h2 h3
      · exact meet_w3 a b c d w hv h1 h2 h3
    · rcases Int.lt_or_le b a with h3 | h3
      · exact meet_w2 a b c d w hv h1 h2 h3
      · exact meet_w1 a b c d w hv h1 h2 h3

end Go.Proofs.Ytpooifjieoijjaa
