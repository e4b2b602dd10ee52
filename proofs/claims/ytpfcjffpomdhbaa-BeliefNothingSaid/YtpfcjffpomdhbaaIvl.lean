/- Layer 8: interval's Valid and Meet (gen/from_s02.py writes this). -/
import Derived.Laws.Externs
import Derived.LoopTactic
import Derived.OpenShut
import Derived.Test.YtpfcjffpomdhbaaBase
namespace Go.Proofs.Ytpfcjffpomdhbaa
open Go.RowKit Go
set_option linter.unusedVariables false

def validB (i : Int × Int) : Bool := decide (0 ≤ i.1) && (decide (i.1 ≤ i.2) && decide (i.2 ≤ 3000000000000000))
def ivV (i : Int × Int) : Value := .agg #[.int .i64 i.1, .int .i64 i.2]

theorem validB_yes {i : Int × Int} (h : validB i = true) : 0 ≤ i.1 ∧ i.1 ≤ i.2 ∧ i.2 ≤ 3000000000000000 := by
  simpa [validB] using h

theorem valid_any (a b : Int) (w : World) : Calls Try.prog 34 #[.agg #[.int .i64 a, .int .i64 b]] w (Gives (.bool (validB (a, b))) w) := by
  by_cases h1 : 0 ≤ a
  · by_cases h2 : a ≤ b
    · by_cases h3 : b ≤ 3000000000000000
      · have e : validB (a, b) = true := by simp [validB, h1, h2, h3]
        rw [e]
        clear e
        go_enter Try.func34, Try.ntmps34
        go_wp2_with fail
        go_ret
        exact ⟨rfl, (Below.refl _ _).alloc (Nat.le_refl _) _⟩
      · have e : validB (a, b) = false := by simp [validB, h1, h2, h3]
        rw [e]
        clear e
        go_enter Try.func34, Try.ntmps34
        go_wp2_with fail
        go_ret
        exact ⟨rfl, (Below.refl _ _).alloc (Nat.le_refl _) _⟩
    · have e : validB (a, b) = false := by simp [validB, h1, h2]
      rw [e]
      clear e
      go_enter Try.func34, Try.ntmps34
      go_wp2_with fail
      go_ret
      exact ⟨rfl, (Below.refl _ _).alloc (Nat.le_refl _) _⟩
  · have e : validB (a, b) = false := by simp [validB, h1]
    rw [e]
    clear e
    go_enter Try.func34, Try.ntmps34
    go_wp2_with fail
    go_ret
    exact ⟨rfl, (Below.refl _ _).alloc (Nat.le_refl _) _⟩

/-- The slice value `.slice A len cap` holds the intervals zs, in a block below B (which one: only if there are any). -/
def Row (B : Nat) (w : World) (A : Option Addr) (len : Nat) (zs : List (Int × Int)) : Prop :=
  zs.length = len ∧ (0 < len → ∃ p : Addr, A = some p ∧ p.block < B ∧ ∀ i, i < len → w.cell? (p.add (i * 2)) = some (.int .i64 (zs.getD i (0, 0)).1) ∧ w.cell? ⟨(p.add (i * 2)).block, (p.add (i * 2)).off + 1, none⟩ = some (.int .i64 (zs.getD i (0, 0)).2))

theorem Row.below {B : Nat} {w w' : World} {A : Option Addr} {len : Nat} {zs : List (Int × Int)} (h : Row B w A len zs) (hb : Below B w w') : Row B w' A len zs :=
  ⟨h.1, fun hn => by
    obtain ⟨p, e, hp, hc⟩ := h.2 hn
    exact ⟨p, e, hp, fun i hi => ⟨(hb.cell (by rw [block_of_add]; exact hp)).trans (hc i hi).1, (hb.cell (p := ⟨(p.add (i * 2)).block, (p.add (i * 2)).off + 1, none⟩) (show (p.add (i * 2)).block < B by rw [block_of_add]; exact hp)).trans (hc i hi).2⟩⟩⟩

theorem ivp_take {α : Type} (zs : List α) (d : α) (k : Nat) (h : k < zs.length) : zs.take (k + 1) = zs.take k ++ [zs.getD k d] := by
  rw [List.take_succ_eq_append_getElem h]; simp [h]

def okList (zs : List (Int × Int)) : Bool := decide (zs.length ≤ 64) && zs.all validB


set_option maxHeartbeats 1000000 in
theorem validList_any (A : Option Addr) (len cap : Nat) (zs : List (Int × Int)) (w : World) (hr : Row w.heap.size w A len zs) (hl : len ≤ 9223372036854775807) :
    Calls Try.prog 46 #[.slice A len cap] w (Gives (.bool (okList zs)) w) := by
  have HR : Hid (Row w.heap.size w A len zs) := hr
  have hL : Hid (zs.length = len) := hr.1
  clear hr
  by_cases h64 : len ≤ 64
  · have V : Hid (∀ (a b : Int) (w : World), Calls Try.prog 34 #[.agg #[.int .i64 a, .int .i64 b]] w (Gives (.bool (validB (a, b))) w)) := valid_any
    go_enter Try.func46, Try.ntmps46
    go_wp2_with fail
    go_loopw [4, 10] (fun _ i wr => ∃ k : Nat, k ≤ len ∧ i = .int .i64 k ∧ Hid ((zs.take k).all validB = true) ∧ Below w.heap.size w wr) (fun _ i _ => len - (intOf i).toNat)
    case atStart => exact ⟨0, Nat.zero_le _, rfl, rfl, Below.refl _ _⟩
    case round =>
      obtain ⟨k, hk, rfl, HA, hb⟩ := hrel
      by_cases hlt : k < len
      · obtain ⟨p, rfl, hp, hc⟩ := (HR.out.below hb).2 (by omega)
        obtain ⟨c1, c2⟩ := hc k hlt
        clear hc
        have HS' := ivp_take zs (0, 0) k (by rw [hL.out]; exact hlt)
        have HS : Hid _ := HS'
        clear HS'
        generalize hx : zs.getD k (0, 0) = x at c1 c2 HS
        have HX : Hid _ := hx
        clear hx
        go_wp2_with fail
        refine (V.out _ _ _).mono ?_
        rintro e w1 ⟨rfl, b1⟩
        have hb1 : Below w.heap.size w w1 := (hb.alloc hb.size _).trans (b1.mono (by simp; have := hb.size; omega))
        clear b1
        cases hv : validB (x.1, x.2) with
        | true =>
          have HV : Hid _ := hv
          clear hv
          go_wp2_with fail
          go_roundw
          case rel =>
            refine ⟨k + 1, by omega, by go_num, ?_, hb1⟩
            show (zs.take (k + 1)).all validB = true
            rw [HS.out, List.all_append, HA.out]; simp [show validB x = true from HV.out]
          case measure => simp [intOf]; omega
        | false =>
          have HN : Hid (okList zs = false) := by
            show okList zs = false
            rw [okList, Bool.and_eq_false_iff]
            right
            rw [Bool.eq_false_iff]
            intro h
            have h2 : (zs.take (k + 1)).all validB = true := by
              simp only [List.all_eq_true] at h ⊢
              exact fun y hy => h y (List.mem_of_mem_take hy)
            rw [HS.out, List.all_append, Bool.and_eq_true] at h2
            have h3 := h2.2
            simp [show validB x = false from hv] at h3
          clear hv
          go_wp2_with fail
          go_ret
          exact ⟨by rw [HN.out]; rfl, hb1⟩
      · obtain rfl : k = len := by omega
        have hE : zs.take k = zs := by rw [← hL.out]; exact List.take_length
        rw [hE] at HA
        have HN : Hid (okList zs = true) := by
          show okList zs = true
          rw [okList, Bool.and_eq_true]
          exact ⟨by rw [hL.out]; simpa using h64, HA.out⟩
        clear hE HA
        go_wp2_with fail
        go_ret
        exact ⟨by rw [HN.out]; rfl, hb⟩
  · have HN : Hid (okList zs = false) := by
      show okList zs = false
      rw [okList, hL.out]; simp [h64]
    go_enter Try.func46, Try.ntmps46
    go_wp2_with fail
    go_ret
    exact ⟨by rw [HN.out]; rfl, Below.refl _ _⟩
theorem row_two (b : Nat) (x y : Int × Int) (W : World) (hb : b < W.heap.size) (c0 : W.cell? ⟨b, 0, none⟩ = some (.int .i64 x.1)) (c1 : W.cell? ⟨b, 1, none⟩ = some (.int .i64 x.2)) (c2 : W.cell? ⟨b, 2, none⟩ = some (.int .i64 y.1)) (c3 : W.cell? ⟨b, 3, none⟩ = some (.int .i64 y.2)) :
    Row W.heap.size W (some ⟨b, 0, none⟩) 2 [x, y] :=
  ⟨rfl, fun _ => ⟨_, rfl, hb, fun i hi => by
    match i, hi with
    | 0, _ => exact ⟨c0, c1⟩
    | 1, _ => exact ⟨c2, c3⟩⟩⟩

theorem validList_two (b : Nat) (x y : Int × Int) (W : World) (hb : b < W.heap.size) (c0 : W.cell? ⟨b, 0, none⟩ = some (.int .i64 x.1)) (c1 : W.cell? ⟨b, 1, none⟩ = some (.int .i64 x.2)) (c2 : W.cell? ⟨b, 2, none⟩ = some (.int .i64 y.1)) (c3 : W.cell? ⟨b, 3, none⟩ = some (.int .i64 y.2)) :
    Calls Try.prog 46 #[.slice (some ⟨b, 0, none⟩) 2 2] W (Gives (.bool (validB x && validB y)) W) := by
  have := validList_any (some ⟨b, 0, none⟩) 2 2 [x, y] W (row_two b x y W hb c0 c1 c2 c3) (by omega)
  have e : okList [x, y] = (validB x && validB y) := by simp [okList]
  rwa [e] at this

theorem cell_lt {w : World} {p : Addr} {v : Value} (h : w.cell? p = some v) : p.block < w.heap.size := by
  rcases Nat.lt_or_ge p.block w.heap.size with hl | hl
  · exact hl
  · simp [World.cell?, Array.getElem?_eq_none hl] at h
theorem keepC {W w1 : World} (hb : Below W.heap.size W w1) {p : Addr} {v : Value} (h : W.cell? p = some v) : w1.cell? p = some v := (hb.cell (cell_lt h)).trans h
theorem keepF {W w1 : World} (hb : Below W.heap.size W w1) {p : Addr} (hl : p.block < W.heap.size) (h : W.frozen? p = false) : w1.frozen? p = false := (hb.frozen hl).trans h

def ivpR (x y : Int × Int) : (Int × Int) × Bool × Int :=
  if (validB x && validB y) = true then (if max x.1 y.1 ≤ min x.2 y.2 then ((max x.1 y.1, min x.2 y.2), true, 0) else ((0, 0), false, 0)) else ((0, 0), false, 1)

set_option maxHeartbeats 1000000 in
theorem ivp_w1 (a b c d : Int) (w : World) (HV : Hid ((validB (a, b) && validB (c, d)) = true)) (h1 : c ≤ a) (h2 : b ≤ d) (h3 : a ≤ b) : Calls Try.prog 35 #[.agg #[.int .i64 a, .int .i64 b], .agg #[.int .i64 c, .int .i64 d]] w
    (Gives (.tuple #[ivV (ivpR (a, b) (c, d)).1, .bool (ivpR (a, b) (c, d)).2.1, .int .i64 (ivpR (a, b) (c, d)).2.2]) w) := by
  have V : Hid (∀ (b : Nat) (x y : Int × Int) (W : World) (hb : b < W.heap.size) (c0 : W.cell? ⟨b, 0, none⟩ = some (.int .i64 x.1)) (c1 : W.cell? ⟨b, 1, none⟩ = some (.int .i64 x.2)) (c2 : W.cell? ⟨b, 2, none⟩ = some (.int .i64 y.1)) (c3 : W.cell? ⟨b, 3, none⟩ = some (.int .i64 y.2)),
      Calls Try.prog 46 #[.slice (some ⟨b, 0, none⟩) 2 2] W (Gives (.bool (validB x && validB y)) W)) := validList_two
  have HM : Hid (ivpR (a, b) (c, d) = ((a, b), true, 0)) := by
    show ivpR (a, b) (c, d) = _
    have e1 : max a c = a := by omega
    have e2 : min b d = b := by omega
    rw [ivpR, if_pos HV.out]
    simp only [e1, e2]
    rw [if_pos (by omega)]
  go_enter Try.func35, Try.ntmps35
  go_wp2_with fail
  refine (V.out _ (a, b) (c, d) _ (by simp) (by go_cell) (by go_cell) (by go_cell) (by go_cell)).mono ?_
  rintro e w1 ⟨rfl, b1⟩
  rw [HV.out]
  have k1 : w1.cell? ⟨w.heap.size, 0, none⟩ = some (.int .i64 a) := keepC b1 (by go_cell)
  have k2 : w1.cell? ⟨w.heap.size, 1, none⟩ = some (.int .i64 b) := keepC b1 (by go_cell)
  have k3 : w1.cell? ⟨w.heap.size + 1, 0, none⟩ = some (.int .i64 c) := keepC b1 (by go_cell)
  have k4 : w1.cell? ⟨w.heap.size + 1, 1, none⟩ = some (.int .i64 d) := keepC b1 (by go_cell)
  have k5 : w1.cell? ⟨w.heap.size + 1 + 1, 0, none⟩ = some (.int .i64 0) := keepC b1 (by go_cell)
  have k6 : w1.cell? ⟨w.heap.size + 1 + 1, 1, none⟩ = some (.int .i64 0) := keepC b1 (by go_cell)
  have f5 : w1.frozen? ⟨w.heap.size + 1 + 1, 0, none⟩ = false := keepF b1 (by simp) (by simp [go_sem])
  have f6 : w1.frozen? ⟨w.heap.size + 1 + 1, 1, none⟩ = false := keepF b1 (by simp) (by simp [go_sem])
  have hz : w.heap.size + 1 + 1 < w1.heap.size := by have := b1.size; simp at this; omega
  have hb : Below w.heap.size w w1 := ((((Below.refl _ w).alloc (Nat.le_refl _) _).alloc (by simp) _).alloc (by simp; omega) _).alloc (by simp; omega) _ |>.trans (b1.mono (by simp; omega))
  clear b1
  go_wp2_with fail
  refine bodyPost_ret (v := .tuple #[.agg #[.int .i64 a, .int .i64 b], .bool true, .int .i64 0]) (by simp [results, Try.results35, go_sem, k5, k6, hz] <;> omega) rfl ⟨by rw [HM.out]; rfl, ?_⟩
  exact ((hb.setCell (p := ⟨w.heap.size + 1 + 1, 0, none⟩) (by simp; omega) _).setCell (p := ⟨w.heap.size + 1 + 1, 1, none⟩) (by simp; omega) _).alloc (by simp [World.setCell]; omega) _

set_option maxHeartbeats 1000000 in
theorem ivp_w2 (a b c d : Int) (w : World) (HV : Hid ((validB (a, b) && validB (c, d)) = true)) (h1 : c ≤ a) (h2 : b ≤ d) (h3 : b < a) : Calls Try.prog 35 #[.agg #[.int .i64 a, .int .i64 b], .agg #[.int .i64 c, .int .i64 d]] w
    (Gives (.tuple #[ivV (ivpR (a, b) (c, d)).1, .bool (ivpR (a, b) (c, d)).2.1, .int .i64 (ivpR (a, b) (c, d)).2.2]) w) := by
  have V : Hid (∀ (b : Nat) (x y : Int × Int) (W : World) (hb : b < W.heap.size) (c0 : W.cell? ⟨b, 0, none⟩ = some (.int .i64 x.1)) (c1 : W.cell? ⟨b, 1, none⟩ = some (.int .i64 x.2)) (c2 : W.cell? ⟨b, 2, none⟩ = some (.int .i64 y.1)) (c3 : W.cell? ⟨b, 3, none⟩ = some (.int .i64 y.2)),
      Calls Try.prog 46 #[.slice (some ⟨b, 0, none⟩) 2 2] W (Gives (.bool (validB x && validB y)) W)) := validList_two
  have HM : Hid (ivpR (a, b) (c, d) = ((0, 0), false, 0)) := by
    show ivpR (a, b) (c, d) = _
    have e1 : max a c = a := by omega
    have e2 : min b d = b := by omega
    rw [ivpR, if_pos HV.out]
    simp only [e1, e2]
    rw [if_neg (by omega)]
  go_enter Try.func35, Try.ntmps35
  go_wp2_with fail
  refine (V.out _ (a, b) (c, d) _ (by simp) (by go_cell) (by go_cell) (by go_cell) (by go_cell)).mono ?_
  rintro e w1 ⟨rfl, b1⟩
  rw [HV.out]
  have k1 : w1.cell? ⟨w.heap.size, 0, none⟩ = some (.int .i64 a) := keepC b1 (by go_cell)
  have k2 : w1.cell? ⟨w.heap.size, 1, none⟩ = some (.int .i64 b) := keepC b1 (by go_cell)
  have k3 : w1.cell? ⟨w.heap.size + 1, 0, none⟩ = some (.int .i64 c) := keepC b1 (by go_cell)
  have k4 : w1.cell? ⟨w.heap.size + 1, 1, none⟩ = some (.int .i64 d) := keepC b1 (by go_cell)
  have k5 : w1.cell? ⟨w.heap.size + 1 + 1, 0, none⟩ = some (.int .i64 0) := keepC b1 (by go_cell)
  have k6 : w1.cell? ⟨w.heap.size + 1 + 1, 1, none⟩ = some (.int .i64 0) := keepC b1 (by go_cell)
  have f5 : w1.frozen? ⟨w.heap.size + 1 + 1, 0, none⟩ = false := keepF b1 (by simp) (by simp [go_sem])
  have f6 : w1.frozen? ⟨w.heap.size + 1 + 1, 1, none⟩ = false := keepF b1 (by simp) (by simp [go_sem])
  have hz : w.heap.size + 1 + 1 < w1.heap.size := by have := b1.size; simp at this; omega
  have hb : Below w.heap.size w w1 := ((((Below.refl _ w).alloc (Nat.le_refl _) _).alloc (by simp) _).alloc (by simp; omega) _).alloc (by simp; omega) _ |>.trans (b1.mono (by simp; omega))
  clear b1
  go_wp2_with fail
  refine bodyPost_ret (v := .tuple #[.agg #[.int .i64 0, .int .i64 0], .bool false, .int .i64 0]) (by simp [results, Try.results35, go_sem, k5, k6, hz] <;> omega) rfl ⟨by rw [HM.out]; rfl, ?_⟩
  exact ((hb.setCell (p := ⟨w.heap.size + 1 + 1, 0, none⟩) (by simp; omega) _).setCell (p := ⟨w.heap.size + 1 + 1, 1, none⟩) (by simp; omega) _).alloc (by simp [World.setCell]; omega) _

set_option maxHeartbeats 1000000 in
theorem ivp_w3 (a b c d : Int) (w : World) (HV : Hid ((validB (a, b) && validB (c, d)) = true)) (h1 : c ≤ a) (h2 : d < b) (h3 : a ≤ d) : Calls Try.prog 35 #[.agg #[.int .i64 a, .int .i64 b], .agg #[.int .i64 c, .int .i64 d]] w
    (Gives (.tuple #[ivV (ivpR (a, b) (c, d)).1, .bool (ivpR (a, b) (c, d)).2.1, .int .i64 (ivpR (a, b) (c, d)).2.2]) w) := by
  have V : Hid (∀ (b : Nat) (x y : Int × Int) (W : World) (hb : b < W.heap.size) (c0 : W.cell? ⟨b, 0, none⟩ = some (.int .i64 x.1)) (c1 : W.cell? ⟨b, 1, none⟩ = some (.int .i64 x.2)) (c2 : W.cell? ⟨b, 2, none⟩ = some (.int .i64 y.1)) (c3 : W.cell? ⟨b, 3, none⟩ = some (.int .i64 y.2)),
      Calls Try.prog 46 #[.slice (some ⟨b, 0, none⟩) 2 2] W (Gives (.bool (validB x && validB y)) W)) := validList_two
  have HM : Hid (ivpR (a, b) (c, d) = ((a, d), true, 0)) := by
    show ivpR (a, b) (c, d) = _
    have e1 : max a c = a := by omega
    have e2 : min b d = d := by omega
    rw [ivpR, if_pos HV.out]
    simp only [e1, e2]
    rw [if_pos (by omega)]
  go_enter Try.func35, Try.ntmps35
  go_wp2_with fail
  refine (V.out _ (a, b) (c, d) _ (by simp) (by go_cell) (by go_cell) (by go_cell) (by go_cell)).mono ?_
  rintro e w1 ⟨rfl, b1⟩
  rw [HV.out]
  have k1 : w1.cell? ⟨w.heap.size, 0, none⟩ = some (.int .i64 a) := keepC b1 (by go_cell)
  have k2 : w1.cell? ⟨w.heap.size, 1, none⟩ = some (.int .i64 b) := keepC b1 (by go_cell)
  have k3 : w1.cell? ⟨w.heap.size + 1, 0, none⟩ = some (.int .i64 c) := keepC b1 (by go_cell)
  have k4 : w1.cell? ⟨w.heap.size + 1, 1, none⟩ = some (.int .i64 d) := keepC b1 (by go_cell)
  have k5 : w1.cell? ⟨w.heap.size + 1 + 1, 0, none⟩ = some (.int .i64 0) := keepC b1 (by go_cell)
  have k6 : w1.cell? ⟨w.heap.size + 1 + 1, 1, none⟩ = some (.int .i64 0) := keepC b1 (by go_cell)
  have f5 : w1.frozen? ⟨w.heap.size + 1 + 1, 0, none⟩ = false := keepF b1 (by simp) (by simp [go_sem])
  have f6 : w1.frozen? ⟨w.heap.size + 1 + 1, 1, none⟩ = false := keepF b1 (by simp) (by simp [go_sem])
  have hz : w.heap.size + 1 + 1 < w1.heap.size := by have := b1.size; simp at this; omega
  have hb : Below w.heap.size w w1 := ((((Below.refl _ w).alloc (Nat.le_refl _) _).alloc (by simp) _).alloc (by simp; omega) _).alloc (by simp; omega) _ |>.trans (b1.mono (by simp; omega))
  clear b1
  go_wp2_with fail
  refine bodyPost_ret (v := .tuple #[.agg #[.int .i64 a, .int .i64 d], .bool true, .int .i64 0]) (by simp [results, Try.results35, go_sem, k5, k6, hz] <;> omega) rfl ⟨by rw [HM.out]; rfl, ?_⟩
  exact ((hb.setCell (p := ⟨w.heap.size + 1 + 1, 0, none⟩) (by simp; omega) _).setCell (p := ⟨w.heap.size + 1 + 1, 1, none⟩) (by simp; omega) _).alloc (by simp [World.setCell]; omega) _

set_option maxHeartbeats 1000000 in
theorem ivp_w4 (a b c d : Int) (w : World) (HV : Hid ((validB (a, b) && validB (c, d)) = true)) (h1 : c ≤ a) (h2 : d < b) (h3 : d < a) : Calls Try.prog 35 #[.agg #[.int .i64 a, .int .i64 b], .agg #[.int .i64 c, .int .i64 d]] w
    (Gives (.tuple #[ivV (ivpR (a, b) (c, d)).1, .bool (ivpR (a, b) (c, d)).2.1, .int .i64 (ivpR (a, b) (c, d)).2.2]) w) := by
  have V : Hid (∀ (b : Nat) (x y : Int × Int) (W : World) (hb : b < W.heap.size) (c0 : W.cell? ⟨b, 0, none⟩ = some (.int .i64 x.1)) (c1 : W.cell? ⟨b, 1, none⟩ = some (.int .i64 x.2)) (c2 : W.cell? ⟨b, 2, none⟩ = some (.int .i64 y.1)) (c3 : W.cell? ⟨b, 3, none⟩ = some (.int .i64 y.2)),
      Calls Try.prog 46 #[.slice (some ⟨b, 0, none⟩) 2 2] W (Gives (.bool (validB x && validB y)) W)) := validList_two
  have HM : Hid (ivpR (a, b) (c, d) = ((0, 0), false, 0)) := by
    show ivpR (a, b) (c, d) = _
    have e1 : max a c = a := by omega
    have e2 : min b d = d := by omega
    rw [ivpR, if_pos HV.out]
    simp only [e1, e2]
    rw [if_neg (by omega)]
  go_enter Try.func35, Try.ntmps35
  go_wp2_with fail
  refine (V.out _ (a, b) (c, d) _ (by simp) (by go_cell) (by go_cell) (by go_cell) (by go_cell)).mono ?_
  rintro e w1 ⟨rfl, b1⟩
  rw [HV.out]
  have k1 : w1.cell? ⟨w.heap.size, 0, none⟩ = some (.int .i64 a) := keepC b1 (by go_cell)
  have k2 : w1.cell? ⟨w.heap.size, 1, none⟩ = some (.int .i64 b) := keepC b1 (by go_cell)
  have k3 : w1.cell? ⟨w.heap.size + 1, 0, none⟩ = some (.int .i64 c) := keepC b1 (by go_cell)
  have k4 : w1.cell? ⟨w.heap.size + 1, 1, none⟩ = some (.int .i64 d) := keepC b1 (by go_cell)
  have k5 : w1.cell? ⟨w.heap.size + 1 + 1, 0, none⟩ = some (.int .i64 0) := keepC b1 (by go_cell)
  have k6 : w1.cell? ⟨w.heap.size + 1 + 1, 1, none⟩ = some (.int .i64 0) := keepC b1 (by go_cell)
  have f5 : w1.frozen? ⟨w.heap.size + 1 + 1, 0, none⟩ = false := keepF b1 (by simp) (by simp [go_sem])
  have f6 : w1.frozen? ⟨w.heap.size + 1 + 1, 1, none⟩ = false := keepF b1 (by simp) (by simp [go_sem])
  have hz : w.heap.size + 1 + 1 < w1.heap.size := by have := b1.size; simp at this; omega
  have hb : Below w.heap.size w w1 := ((((Below.refl _ w).alloc (Nat.le_refl _) _).alloc (by simp) _).alloc (by simp; omega) _).alloc (by simp; omega) _ |>.trans (b1.mono (by simp; omega))
  clear b1
  go_wp2_with fail
  refine bodyPost_ret (v := .tuple #[.agg #[.int .i64 0, .int .i64 0], .bool false, .int .i64 0]) (by simp [results, Try.results35, go_sem, k5, k6, hz] <;> omega) rfl ⟨by rw [HM.out]; rfl, ?_⟩
  exact ((hb.setCell (p := ⟨w.heap.size + 1 + 1, 0, none⟩) (by simp; omega) _).setCell (p := ⟨w.heap.size + 1 + 1, 1, none⟩) (by simp; omega) _).alloc (by simp [World.setCell]; omega) _

set_option maxHeartbeats 1000000 in
theorem ivp_w5 (a b c d : Int) (w : World) (HV : Hid ((validB (a, b) && validB (c, d)) = true)) (h1 : a < c) (h2 : b ≤ d) (h3 : c ≤ b) : Calls Try.prog 35 #[.agg #[.int .i64 a, .int .i64 b], .agg #[.int .i64 c, .int .i64 d]] w
    (Gives (.tuple #[ivV (ivpR (a, b) (c, d)).1, .bool (ivpR (a, b) (c, d)).2.1, .int .i64 (ivpR (a, b) (c, d)).2.2]) w) := by
  have V : Hid (∀ (b : Nat) (x y : Int × Int) (W : World) (hb : b < W.heap.size) (c0 : W.cell? ⟨b, 0, none⟩ = some (.int .i64 x.1)) (c1 : W.cell? ⟨b, 1, none⟩ = some (.int .i64 x.2)) (c2 : W.cell? ⟨b, 2, none⟩ = some (.int .i64 y.1)) (c3 : W.cell? ⟨b, 3, none⟩ = some (.int .i64 y.2)),
      Calls Try.prog 46 #[.slice (some ⟨b, 0, none⟩) 2 2] W (Gives (.bool (validB x && validB y)) W)) := validList_two
  have HM : Hid (ivpR (a, b) (c, d) = ((c, b), true, 0)) := by
    show ivpR (a, b) (c, d) = _
    have e1 : max a c = c := by omega
    have e2 : min b d = b := by omega
    rw [ivpR, if_pos HV.out]
    simp only [e1, e2]
    rw [if_pos (by omega)]
  go_enter Try.func35, Try.ntmps35
  go_wp2_with fail
  refine (V.out _ (a, b) (c, d) _ (by simp) (by go_cell) (by go_cell) (by go_cell) (by go_cell)).mono ?_
  rintro e w1 ⟨rfl, b1⟩
  rw [HV.out]
  have k1 : w1.cell? ⟨w.heap.size, 0, none⟩ = some (.int .i64 a) := keepC b1 (by go_cell)
  have k2 : w1.cell? ⟨w.heap.size, 1, none⟩ = some (.int .i64 b) := keepC b1 (by go_cell)
  have k3 : w1.cell? ⟨w.heap.size + 1, 0, none⟩ = some (.int .i64 c) := keepC b1 (by go_cell)
  have k4 : w1.cell? ⟨w.heap.size + 1, 1, none⟩ = some (.int .i64 d) := keepC b1 (by go_cell)
  have k5 : w1.cell? ⟨w.heap.size + 1 + 1, 0, none⟩ = some (.int .i64 0) := keepC b1 (by go_cell)
  have k6 : w1.cell? ⟨w.heap.size + 1 + 1, 1, none⟩ = some (.int .i64 0) := keepC b1 (by go_cell)
  have f5 : w1.frozen? ⟨w.heap.size + 1 + 1, 0, none⟩ = false := keepF b1 (by simp) (by simp [go_sem])
  have f6 : w1.frozen? ⟨w.heap.size + 1 + 1, 1, none⟩ = false := keepF b1 (by simp) (by simp [go_sem])
  have hz : w.heap.size + 1 + 1 < w1.heap.size := by have := b1.size; simp at this; omega
  have hb : Below w.heap.size w w1 := ((((Below.refl _ w).alloc (Nat.le_refl _) _).alloc (by simp) _).alloc (by simp; omega) _).alloc (by simp; omega) _ |>.trans (b1.mono (by simp; omega))
  clear b1
  go_wp2_with fail
  refine bodyPost_ret (v := .tuple #[.agg #[.int .i64 c, .int .i64 b], .bool true, .int .i64 0]) (by simp [results, Try.results35, go_sem, k5, k6, hz] <;> omega) rfl ⟨by rw [HM.out]; rfl, ?_⟩
  exact ((hb.setCell (p := ⟨w.heap.size + 1 + 1, 0, none⟩) (by simp; omega) _).setCell (p := ⟨w.heap.size + 1 + 1, 1, none⟩) (by simp; omega) _).alloc (by simp [World.setCell]; omega) _

set_option maxHeartbeats 1000000 in
theorem ivp_w6 (a b c d : Int) (w : World) (HV : Hid ((validB (a, b) && validB (c, d)) = true)) (h1 : a < c) (h2 : b ≤ d) (h3 : b < c) : Calls Try.prog 35 #[.agg #[.int .i64 a, .int .i64 b], .agg #[.int .i64 c, .int .i64 d]] w
    (Gives (.tuple #[ivV (ivpR (a, b) (c, d)).1, .bool (ivpR (a, b) (c, d)).2.1, .int .i64 (ivpR (a, b) (c, d)).2.2]) w) := by
  have V : Hid (∀ (b : Nat) (x y : Int × Int) (W : World) (hb : b < W.heap.size) (c0 : W.cell? ⟨b, 0, none⟩ = some (.int .i64 x.1)) (c1 : W.cell? ⟨b, 1, none⟩ = some (.int .i64 x.2)) (c2 : W.cell? ⟨b, 2, none⟩ = some (.int .i64 y.1)) (c3 : W.cell? ⟨b, 3, none⟩ = some (.int .i64 y.2)),
      Calls Try.prog 46 #[.slice (some ⟨b, 0, none⟩) 2 2] W (Gives (.bool (validB x && validB y)) W)) := validList_two
  have HM : Hid (ivpR (a, b) (c, d) = ((0, 0), false, 0)) := by
    show ivpR (a, b) (c, d) = _
    have e1 : max a c = c := by omega
    have e2 : min b d = b := by omega
    rw [ivpR, if_pos HV.out]
    simp only [e1, e2]
    rw [if_neg (by omega)]
  go_enter Try.func35, Try.ntmps35
  go_wp2_with fail
  refine (V.out _ (a, b) (c, d) _ (by simp) (by go_cell) (by go_cell) (by go_cell) (by go_cell)).mono ?_
  rintro e w1 ⟨rfl, b1⟩
  rw [HV.out]
  have k1 : w1.cell? ⟨w.heap.size, 0, none⟩ = some (.int .i64 a) := keepC b1 (by go_cell)
  have k2 : w1.cell? ⟨w.heap.size, 1, none⟩ = some (.int .i64 b) := keepC b1 (by go_cell)
  have k3 : w1.cell? ⟨w.heap.size + 1, 0, none⟩ = some (.int .i64 c) := keepC b1 (by go_cell)
  have k4 : w1.cell? ⟨w.heap.size + 1, 1, none⟩ = some (.int .i64 d) := keepC b1 (by go_cell)
  have k5 : w1.cell? ⟨w.heap.size + 1 + 1, 0, none⟩ = some (.int .i64 0) := keepC b1 (by go_cell)
  have k6 : w1.cell? ⟨w.heap.size + 1 + 1, 1, none⟩ = some (.int .i64 0) := keepC b1 (by go_cell)
  have f5 : w1.frozen? ⟨w.heap.size + 1 + 1, 0, none⟩ = false := keepF b1 (by simp) (by simp [go_sem])
  have f6 : w1.frozen? ⟨w.heap.size + 1 + 1, 1, none⟩ = false := keepF b1 (by simp) (by simp [go_sem])
  have hz : w.heap.size + 1 + 1 < w1.heap.size := by have := b1.size; simp at this; omega
  have hb : Below w.heap.size w w1 := ((((Below.refl _ w).alloc (Nat.le_refl _) _).alloc (by simp) _).alloc (by simp; omega) _).alloc (by simp; omega) _ |>.trans (b1.mono (by simp; omega))
  clear b1
  go_wp2_with fail
  refine bodyPost_ret (v := .tuple #[.agg #[.int .i64 0, .int .i64 0], .bool false, .int .i64 0]) (by simp [results, Try.results35, go_sem, k5, k6, hz] <;> omega) rfl ⟨by rw [HM.out]; rfl, ?_⟩
  exact ((hb.setCell (p := ⟨w.heap.size + 1 + 1, 0, none⟩) (by simp; omega) _).setCell (p := ⟨w.heap.size + 1 + 1, 1, none⟩) (by simp; omega) _).alloc (by simp [World.setCell]; omega) _

set_option maxHeartbeats 1000000 in
theorem ivp_w7 (a b c d : Int) (w : World) (HV : Hid ((validB (a, b) && validB (c, d)) = true)) (h1 : a < c) (h2 : d < b) (h3 : c ≤ d) : Calls Try.prog 35 #[.agg #[.int .i64 a, .int .i64 b], .agg #[.int .i64 c, .int .i64 d]] w
    (Gives (.tuple #[ivV (ivpR (a, b) (c, d)).1, .bool (ivpR (a, b) (c, d)).2.1, .int .i64 (ivpR (a, b) (c, d)).2.2]) w) := by
  have V : Hid (∀ (b : Nat) (x y : Int × Int) (W : World) (hb : b < W.heap.size) (c0 : W.cell? ⟨b, 0, none⟩ = some (.int .i64 x.1)) (c1 : W.cell? ⟨b, 1, none⟩ = some (.int .i64 x.2)) (c2 : W.cell? ⟨b, 2, none⟩ = some (.int .i64 y.1)) (c3 : W.cell? ⟨b, 3, none⟩ = some (.int .i64 y.2)),
      Calls Try.prog 46 #[.slice (some ⟨b, 0, none⟩) 2 2] W (Gives (.bool (validB x && validB y)) W)) := validList_two
  have HM : Hid (ivpR (a, b) (c, d) = ((c, d), true, 0)) := by
    show ivpR (a, b) (c, d) = _
    have e1 : max a c = c := by omega
    have e2 : min b d = d := by omega
    rw [ivpR, if_pos HV.out]
    simp only [e1, e2]
    rw [if_pos (by omega)]
  go_enter Try.func35, Try.ntmps35
  go_wp2_with fail
  refine (V.out _ (a, b) (c, d) _ (by simp) (by go_cell) (by go_cell) (by go_cell) (by go_cell)).mono ?_
  rintro e w1 ⟨rfl, b1⟩
  rw [HV.out]
  have k1 : w1.cell? ⟨w.heap.size, 0, none⟩ = some (.int .i64 a) := keepC b1 (by go_cell)
  have k2 : w1.cell? ⟨w.heap.size, 1, none⟩ = some (.int .i64 b) := keepC b1 (by go_cell)
  have k3 : w1.cell? ⟨w.heap.size + 1, 0, none⟩ = some (.int .i64 c) := keepC b1 (by go_cell)
  have k4 : w1.cell? ⟨w.heap.size + 1, 1, none⟩ = some (.int .i64 d) := keepC b1 (by go_cell)
  have k5 : w1.cell? ⟨w.heap.size + 1 + 1, 0, none⟩ = some (.int .i64 0) := keepC b1 (by go_cell)
  have k6 : w1.cell? ⟨w.heap.size + 1 + 1, 1, none⟩ = some (.int .i64 0) := keepC b1 (by go_cell)
  have f5 : w1.frozen? ⟨w.heap.size + 1 + 1, 0, none⟩ = false := keepF b1 (by simp) (by simp [go_sem])
  have f6 : w1.frozen? ⟨w.heap.size + 1 + 1, 1, none⟩ = false := keepF b1 (by simp) (by simp [go_sem])
  have hz : w.heap.size + 1 + 1 < w1.heap.size := by have := b1.size; simp at this; omega
  have hb : Below w.heap.size w w1 := ((((Below.refl _ w).alloc (Nat.le_refl _) _).alloc (by simp) _).alloc (by simp; omega) _).alloc (by simp; omega) _ |>.trans (b1.mono (by simp; omega))
  clear b1
  go_wp2_with fail
  refine bodyPost_ret (v := .tuple #[.agg #[.int .i64 c, .int .i64 d], .bool true, .int .i64 0]) (by simp [results, Try.results35, go_sem, k5, k6, hz] <;> omega) rfl ⟨by rw [HM.out]; rfl, ?_⟩
  exact ((hb.setCell (p := ⟨w.heap.size + 1 + 1, 0, none⟩) (by simp; omega) _).setCell (p := ⟨w.heap.size + 1 + 1, 1, none⟩) (by simp; omega) _).alloc (by simp [World.setCell]; omega) _

set_option maxHeartbeats 1000000 in
theorem ivp_w8 (a b c d : Int) (w : World) (HV : Hid ((validB (a, b) && validB (c, d)) = true)) (h1 : a < c) (h2 : d < b) (h3 : d < c) : Calls Try.prog 35 #[.agg #[.int .i64 a, .int .i64 b], .agg #[.int .i64 c, .int .i64 d]] w
    (Gives (.tuple #[ivV (ivpR (a, b) (c, d)).1, .bool (ivpR (a, b) (c, d)).2.1, .int .i64 (ivpR (a, b) (c, d)).2.2]) w) := by
  have V : Hid (∀ (b : Nat) (x y : Int × Int) (W : World) (hb : b < W.heap.size) (c0 : W.cell? ⟨b, 0, none⟩ = some (.int .i64 x.1)) (c1 : W.cell? ⟨b, 1, none⟩ = some (.int .i64 x.2)) (c2 : W.cell? ⟨b, 2, none⟩ = some (.int .i64 y.1)) (c3 : W.cell? ⟨b, 3, none⟩ = some (.int .i64 y.2)),
      Calls Try.prog 46 #[.slice (some ⟨b, 0, none⟩) 2 2] W (Gives (.bool (validB x && validB y)) W)) := validList_two
  have HM : Hid (ivpR (a, b) (c, d) = ((0, 0), false, 0)) := by
    show ivpR (a, b) (c, d) = _
    have e1 : max a c = c := by omega
    have e2 : min b d = d := by omega
    rw [ivpR, if_pos HV.out]
    simp only [e1, e2]
    rw [if_neg (by omega)]
  go_enter Try.func35, Try.ntmps35
  go_wp2_with fail
  refine (V.out _ (a, b) (c, d) _ (by simp) (by go_cell) (by go_cell) (by go_cell) (by go_cell)).mono ?_
  rintro e w1 ⟨rfl, b1⟩
  rw [HV.out]
  have k1 : w1.cell? ⟨w.heap.size, 0, none⟩ = some (.int .i64 a) := keepC b1 (by go_cell)
  have k2 : w1.cell? ⟨w.heap.size, 1, none⟩ = some (.int .i64 b) := keepC b1 (by go_cell)
  have k3 : w1.cell? ⟨w.heap.size + 1, 0, none⟩ = some (.int .i64 c) := keepC b1 (by go_cell)
  have k4 : w1.cell? ⟨w.heap.size + 1, 1, none⟩ = some (.int .i64 d) := keepC b1 (by go_cell)
  have k5 : w1.cell? ⟨w.heap.size + 1 + 1, 0, none⟩ = some (.int .i64 0) := keepC b1 (by go_cell)
  have k6 : w1.cell? ⟨w.heap.size + 1 + 1, 1, none⟩ = some (.int .i64 0) := keepC b1 (by go_cell)
  have f5 : w1.frozen? ⟨w.heap.size + 1 + 1, 0, none⟩ = false := keepF b1 (by simp) (by simp [go_sem])
  have f6 : w1.frozen? ⟨w.heap.size + 1 + 1, 1, none⟩ = false := keepF b1 (by simp) (by simp [go_sem])
  have hz : w.heap.size + 1 + 1 < w1.heap.size := by have := b1.size; simp at this; omega
  have hb : Below w.heap.size w w1 := ((((Below.refl _ w).alloc (Nat.le_refl _) _).alloc (by simp) _).alloc (by simp; omega) _).alloc (by simp; omega) _ |>.trans (b1.mono (by simp; omega))
  clear b1
  go_wp2_with fail
  refine bodyPost_ret (v := .tuple #[.agg #[.int .i64 0, .int .i64 0], .bool false, .int .i64 0]) (by simp [results, Try.results35, go_sem, k5, k6, hz] <;> omega) rfl ⟨by rw [HM.out]; rfl, ?_⟩
  exact ((hb.setCell (p := ⟨w.heap.size + 1 + 1, 0, none⟩) (by simp; omega) _).setCell (p := ⟨w.heap.size + 1 + 1, 1, none⟩) (by simp; omega) _).alloc (by simp [World.setCell]; omega) _

set_option maxHeartbeats 1000000 in
theorem ivp_bad (a b c d : Int) (w : World) (HV : Hid ((validB (a, b) && validB (c, d)) = false)) : Calls Try.prog 35 #[.agg #[.int .i64 a, .int .i64 b], .agg #[.int .i64 c, .int .i64 d]] w
    (Gives (.tuple #[ivV (ivpR (a, b) (c, d)).1, .bool (ivpR (a, b) (c, d)).2.1, .int .i64 (ivpR (a, b) (c, d)).2.2]) w) := by
  have V : Hid (∀ (b : Nat) (x y : Int × Int) (W : World) (hb : b < W.heap.size) (c0 : W.cell? ⟨b, 0, none⟩ = some (.int .i64 x.1)) (c1 : W.cell? ⟨b, 1, none⟩ = some (.int .i64 x.2)) (c2 : W.cell? ⟨b, 2, none⟩ = some (.int .i64 y.1)) (c3 : W.cell? ⟨b, 3, none⟩ = some (.int .i64 y.2)),
      Calls Try.prog 46 #[.slice (some ⟨b, 0, none⟩) 2 2] W (Gives (.bool (validB x && validB y)) W)) := validList_two
  have HM : Hid (ivpR (a, b) (c, d) = ((0, 0), false, 1)) := by
    show ivpR (a, b) (c, d) = _
    rw [ivpR, HV.out]; rfl
  go_enter Try.func35, Try.ntmps35
  go_wp2_with fail
  refine (V.out _ (a, b) (c, d) _ (by simp) (by go_cell) (by go_cell) (by go_cell) (by go_cell)).mono ?_
  rintro e w1 ⟨rfl, b1⟩
  rw [HV.out]
  have k1 : w1.cell? ⟨w.heap.size, 0, none⟩ = some (.int .i64 a) := keepC b1 (by go_cell)
  have k2 : w1.cell? ⟨w.heap.size, 1, none⟩ = some (.int .i64 b) := keepC b1 (by go_cell)
  have k3 : w1.cell? ⟨w.heap.size + 1, 0, none⟩ = some (.int .i64 c) := keepC b1 (by go_cell)
  have k4 : w1.cell? ⟨w.heap.size + 1, 1, none⟩ = some (.int .i64 d) := keepC b1 (by go_cell)
  have k5 : w1.cell? ⟨w.heap.size + 1 + 1, 0, none⟩ = some (.int .i64 0) := keepC b1 (by go_cell)
  have k6 : w1.cell? ⟨w.heap.size + 1 + 1, 1, none⟩ = some (.int .i64 0) := keepC b1 (by go_cell)
  have f5 : w1.frozen? ⟨w.heap.size + 1 + 1, 0, none⟩ = false := keepF b1 (by simp) (by simp [go_sem])
  have f6 : w1.frozen? ⟨w.heap.size + 1 + 1, 1, none⟩ = false := keepF b1 (by simp) (by simp [go_sem])
  have hz : w.heap.size + 1 + 1 < w1.heap.size := by have := b1.size; simp at this; omega
  have hb : Below w.heap.size w w1 := ((((Below.refl _ w).alloc (Nat.le_refl _) _).alloc (by simp) _).alloc (by simp; omega) _).alloc (by simp; omega) _ |>.trans (b1.mono (by simp; omega))
  clear b1
  go_wp2_with fail
  refine bodyPost_ret (v := .tuple #[.agg #[.int .i64 0, .int .i64 0], .bool false, .int .i64 1]) (by simp [results, Try.results35, go_sem, k5, k6]) rfl ⟨by rw [HM.out]; rfl, ?_⟩
  exact (hb.setCell (p := ⟨w.heap.size + 1 + 1, 0, none⟩) (by simp; omega) _).setCell (p := ⟨w.heap.size + 1 + 1, 1, none⟩) (by simp; omega) _

theorem ivp_any (a b c d : Int) (w : World) : Calls Try.prog 35 #[.agg #[.int .i64 a, .int .i64 b], .agg #[.int .i64 c, .int .i64 d]] w
    (Gives (.tuple #[ivV (ivpR (a, b) (c, d)).1, .bool (ivpR (a, b) (c, d)).2.1, .int .i64 (ivpR (a, b) (c, d)).2.2]) w) := by
  cases hv : validB (a, b) && validB (c, d) with
  | false => exact ivp_bad a b c d w hv
  | true =>
    rcases Int.lt_or_le a c with h1 | h1 <;> rcases Int.lt_or_le d b with h2 | h2
    · rcases Int.lt_or_le d c with h3 | h3
      · exact ivp_w8 a b c d w hv h1 h2 h3
      · exact ivp_w7 a b c d w hv h1 h2 h3
    · rcases Int.lt_or_le b c with h3 | h3
      · exact ivp_w6 a b c d w hv h1 h2 h3
      · exact ivp_w5 a b c d w hv h1 h2 h3
    · rcases Int.lt_or_le d a with h3 | h3
      · exact ivp_w4 a b c d w hv h1 h2 h3
      · exact ivp_w3 a b c d w hv h1 h2 h3
    · rcases Int.lt_or_le b a with h3 | h3
      · exact ivp_w2 a b c d w hv h1 h2 h3
      · exact ivp_w1 a b c d w hv h1 h2 h3

end Go.Proofs.Ytpfcjffpomdhbaa
