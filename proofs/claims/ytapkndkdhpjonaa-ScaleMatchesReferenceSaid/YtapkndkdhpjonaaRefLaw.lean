/- Layer 1: the reference implementation's sum, and the walk of the statement that all functions agree with the reference implementation. -/
import Derived.Test.YtapkndkdhpjonaaRef
namespace Go.Proofs.Ytapkndkdhpjonaa
open Go.RowKit Go
set_option linter.unusedVariables false

theorem take_all (zs : List Int) (k : Nat) (h : allTimes zs = true) : allTimes (zs.take k) = true := by
  simp only [allTimes, List.all_eq_true] at h ⊢
  exact fun y hy => h y (List.mem_of_mem_take hy)

set_option maxHeartbeats 1000000 in
theorem refSum_row (zs : List Int) (p : Addr) (len cap : Nat) (hlen : zs.length = len) (hl : len ≤ 1000) (w : World) (hc : ∀ i, i < len → w.cell? (p.add i) = some (.int .i64 (zs.getD i 0))) :
    Calls Try.prog 18 #[.slice (some p) len cap] w fun e w' => e = .returned (pairV (sumR zs)) ∧ w = w' := by
  have HC : Hid _ := hc
  have HL : Hid _ := hlen
  clear hc hlen
  go_enter Try.func18, Try.ntmps18
  go_wp2_with fail
  go_loop [4, 5] (fun s i => ∃ k : Nat, k ≤ len ∧ i = .int .i64 k ∧ s = .int .i64 (total (zs.take k)) ∧ Hid (allTimes (zs.take k) = true)) (fun _ i => len - (intOf i).toNat)
  case atStart => exact ⟨0, Nat.zero_le _, rfl, rfl, rfl⟩
  case round =>
    obtain ⟨k, hk, rfl, rfl, HA⟩ := hrel
    have hb := total_bound (zs.take k) HA.out
    have hk2 : (zs.take k).length ≤ k := List.length_take_le _ _
    have b1 : -3000000000000000000 ≤ total (zs.take k) := by omega
    have b2 : total (zs.take k) ≤ 3000000000000000000 := by omega
    clear hb hk2
    by_cases hlt : k < len
    · have hx := HC.out k hlt
      have E := HL.out
      have hts : Hid _ := take_snoc zs k (by omega)
      clear E
      generalize hxe : zs.getD k 0 = x at hx hts
      clear hxe
      generalize hS : total (zs.take k) = S at b1 b2 ⊢
      have HS : Hid _ := hS
      clear hS
      cases ht : timeB x with
      | true =>
        obtain ⟨hb1, hb2⟩ := timeB_yes ht
        have HT : Hid _ := ht
        have T : Hid _ := fun w => refTime_yes x hb1 hb2 w
        clear ht
        go_wp2_with fail
        refine (T.out _).mono ?_
        rintro e w' ⟨rfl, rfl⟩
        go_wp2_with fail
        go_round
        case rel =>
          refine ⟨k + 1, by omega, by go_num, ?_, ?_⟩
          · rw [hts.out, total_snoc, HS.out]
          · show allTimes (zs.take (k + 1)) = true
            rw [hts.out, allTimes, List.all_append, Bool.and_eq_true]
            exact ⟨HA.out, by simp [HT.out]⟩
        case measure => simp [intOf]; omega
      | false =>
        have HN : Hid (sumR zs = (0, 1)) := by
          show sumR zs = (0, 1)
          rw [sumR, if_neg]
          intro h
          have h2 := take_all zs (k + 1) h
          rw [hts.out, allTimes, List.all_append, Bool.and_eq_true] at h2
          have h3 := h2.2
          simp [ht] at h3
        have T : Hid _ := fun w => refTime_no x (timeB_no ht) w
        clear ht
        go_wp2_with fail
        refine (T.out _).mono ?_
        rintro e w' ⟨rfl, rfl⟩
        go_wp2_with fail
        go_ret2
        exact ⟨by rw [HN.out]; rfl, rfl⟩
    · obtain rfl : k = len := by omega
      have hE : zs.take k = zs := by rw [← HL.out]; exact List.take_length
      rw [hE] at HA b1 b2 ⊢
      clear hE hlt hk
      generalize hS : total zs = S at b1 b2 ⊢
      have HS : Hid _ := hS
      clear hS
      by_cases hT : -3000000000000000 ≤ S ∧ S ≤ 3000000000000000
      · have HF : Hid (sumR zs = (S, 0)) := by
          show sumR zs = _
          rw [sumR, if_pos HA.out, HS.out, finR, if_pos hT]
        have T : Hid _ := fun w => refTime_yes S hT.1 hT.2 w
        clear hT
        go_wp2_with fail
        refine (T.out _).mono ?_
        rintro e w' ⟨rfl, rfl⟩
        go_wp2_with fail
        go_ret2
        exact ⟨by rw [HF.out]; rfl, rfl⟩
      · have HF : Hid (sumR zs = (0, 3)) := by
          show sumR zs = _
          rw [sumR, if_pos HA.out, HS.out, finR, if_neg hT]
        have T : Hid _ := fun w => refTime_no S (by omega) w
        clear hT
        go_wp2_with fail
        refine (T.out _).mono ?_
        rintro e w' ⟨rfl, rfl⟩
        go_wp2_with fail
        go_ret2
        exact ⟨by rw [HF.out]; rfl, rfl⟩

theorem refSum_nil (w : World) : Calls Try.prog 18 #[.slice none 0 0] w fun e w' => e = .returned (pairV (sumR [])) ∧ w = w' := by
  have T : Hid _ := fun w => refTime_yes 0 (by decide) (by decide) w
  go_enter Try.func18, Try.ntmps18
  go_wp2_with fail
  refine wp_loop_rounds 1 ?_; rw [rounds_succ]
  go_wp2_with fail
  refine (T.out _).mono ?_
  rintro e w' ⟨rfl, rfl⟩
  go_wp2_with fail
  go_ret2
  exact ⟨rfl, rfl⟩

theorem floor_ref (a n d x e : Int) (h : floorR a n d = (x, e)) (w : World) : Calls Try.prog 12 #[.int .i64 a, .int .i64 n, .int .i64 d] w (Gives (.tuple #[.int .i64 x, .int .i64 e]) w) := by
  have := refFloor_any a n d w; rw [h] at this; exact this
theorem ceil_ref (a n d x e : Int) (h : ceilR' a n d = (x, e)) (w : World) : Calls Try.prog 14 #[.int .i64 a, .int .i64 n, .int .i64 d] w (Gives (.tuple #[.int .i64 x, .int .i64 e]) w) := by
  have := refCeil_any a n d w; rw [h] at this; exact this
theorem near_ref (a n d x e : Int) (h : nearR' a n d = (x, e)) (w : World) : Calls Try.prog 16 #[.int .i64 a, .int .i64 n, .int .i64 d] w (Gives (.tuple #[.int .i64 x, .int .i64 e]) w) := by
  have := refNear_any a n d w; rw [h] at this; exact this

set_option maxRecDepth 100000 in
set_option maxHeartbeats 1000000 in
theorem agrees_row (a n d : Int) (p : Addr) (len cap m : Nat) (hm : m = min len 1000) (hl : len ≤ cap) (hl2 : cap ≤ 9223372036854775807) (s u : Int) (w : World)
    (S1 : ∀ w1, Below w.heap.size w w1 → Calls Try.prog 17 #[.slice (some p) m cap] w1 fun e w' => e = .returned (.tuple #[.int .i64 s, .int .i64 u]) ∧ w1 = w')
    (S2 : ∀ w1, Below w.heap.size w w1 → Calls Try.prog 18 #[.slice (some p) m cap] w1 fun e w' => e = .returned (.tuple #[.int .i64 s, .int .i64 u]) ∧ w1 = w') :
    Calls Try.prog 3 #[.int .i64 a, .int .i64 n, .int .i64 d, .slice (some p) len cap] w (Gives (.bool true) w) := by
  have H : Hid _ := head_true
  cases hx : floorR a n d with
  | mk x e =>
  cases hy : ceilR' a n d with
  | mk y f =>
  cases hz : nearR' a n d with
  | mk z g =>
  have G1 : Hid _ := floor_at a n d x e hx
  have G2 : Hid _ := floor_ref a n d x e hx
  have G3 : Hid _ := ceil_at a n d y f hy
  have G4 : Hid _ := ceil_ref a n d y f hy
  have G5 : Hid _ := near_at a n d z g hz
  have G6 : Hid _ := near_ref a n d z g hz
  clear hx hy hz
  have HS1 : Hid _ := S1
  have HS2 : Hid _ := S2
  have hm' : (min (len : Int) 1000).toNat = m := by omega
  clear S1 S2 hm
  go_enter Try.func3, Try.ntmps3
  go_wp2_with fail
  refine (H.out _).mono ?_
  rintro e w1 ⟨rfl, b1⟩
  go_wp2_with fail
  refine (G1.out _).mono ?_
  intro e w2 h
  obtain ⟨rfl, b2⟩ := gives_from b1 h
  clear h b1
  go_wp2_with fail
  refine (G2.out _).mono ?_
  intro e w3 h
  obtain ⟨rfl, b3⟩ := gives_from b2 h
  clear h b2
  go_wp2_with fail
  refine (G3.out _).mono ?_
  intro e w4 h
  obtain ⟨rfl, b4⟩ := gives_from b3 h
  clear h b3
  go_wp2_with fail
  refine (G4.out _).mono ?_
  intro e w5 h
  obtain ⟨rfl, b5⟩ := gives_from b4 h
  clear h b4
  go_wp2_with fail
  refine (G5.out _).mono ?_
  intro e w6 h
  obtain ⟨rfl, b6⟩ := gives_from b5 h
  clear h b5
  go_wp2_with fail
  refine (G6.out _).mono ?_
  intro e w7 h
  obtain ⟨rfl, b7⟩ := gives_from b6 h
  clear h b6
  go_wp2_with fail
  refine (HS1.out _ b7).mono ?_
  rintro e w8 ⟨rfl, rfl⟩
  go_wp2_with fail
  refine (HS2.out _ b7).mono ?_
  rintro e w8 ⟨rfl, rfl⟩
  go_wp2_with fail
  go_ret
  exact ⟨rfl, b7⟩

set_option maxRecDepth 100000 in
set_option maxHeartbeats 1000000 in
theorem agrees_nil (a n d : Int) (w : World) :
    Calls Try.prog 3 #[.int .i64 a, .int .i64 n, .int .i64 d, .slice none 0 0] w (Gives (.bool true) w) := by
  have H : Hid _ := head_true
  cases hx : floorR a n d with
  | mk x e =>
  cases hy : ceilR' a n d with
  | mk y f =>
  cases hz : nearR' a n d with
  | mk z g =>
  cases hs : sumR [] with
  | mk s u =>
  have G1 : Hid _ := floor_at a n d x e hx
  have G2 : Hid _ := floor_ref a n d x e hx
  have G3 : Hid _ := ceil_at a n d y f hy
  have G4 : Hid _ := ceil_ref a n d y f hy
  have G5 : Hid _ := near_at a n d z g hz
  have G6 : Hid _ := near_ref a n d z g hz
  have HS1 : Hid (∀ w, _) := fun w => sum_nil w
  have HS2 : Hid (∀ w, _) := fun w => refSum_nil w
  rw [hs] at HS1 HS2
  clear hx hy hz hs
  go_enter Try.func3, Try.ntmps3
  go_wp2_with fail
  refine (H.out _).mono ?_
  rintro e w1 ⟨rfl, b1⟩
  go_wp2_with fail
  refine (G1.out _).mono ?_
  intro e w2 h
  obtain ⟨rfl, b2⟩ := gives_from b1 h
  clear h b1
  go_wp2_with fail
  refine (G2.out _).mono ?_
  intro e w3 h
  obtain ⟨rfl, b3⟩ := gives_from b2 h
  clear h b2
  go_wp2_with fail
  refine (G3.out _).mono ?_
  intro e w4 h
  obtain ⟨rfl, b4⟩ := gives_from b3 h
  clear h b3
  go_wp2_with fail
  refine (G4.out _).mono ?_
  intro e w5 h
  obtain ⟨rfl, b5⟩ := gives_from b4 h
  clear h b4
  go_wp2_with fail
  refine (G5.out _).mono ?_
  intro e w6 h
  obtain ⟨rfl, b6⟩ := gives_from b5 h
  clear h b5
  go_wp2_with fail
  refine (G6.out _).mono ?_
  intro e w7 h
  obtain ⟨rfl, b7⟩ := gives_from b6 h
  clear h b6
  go_wp2_with fail
  refine (HS1.out _).mono ?_
  rintro e w8 ⟨rfl, rfl⟩
  unfold pairV
  go_wp2_with fail
  refine (HS2.out _).mono ?_
  rintro e w8 ⟨rfl, rfl⟩
  unfold pairV
  go_wp2_with fail
  go_ret
  exact ⟨rfl, b7⟩

theorem cell_lt {w : World} {a : Addr} {v : Value} (h : w.cell? a = some v) : a.block < w.heap.size := by
  unfold World.cell? at h
  by_cases hb : a.block < w.heap.size
  · exact hb
  · rw [Array.getElem?_eq_none (by omega)] at h; cases h

theorem ref_true (a n d : Int) (p : Option Addr) (len cap : Nat) (z : List Int) (w : World) (w0 : (Lit.int .i64 a).wf = true) (w1 : (Lit.int .i64 n).wf = true) (w2 : (Lit.int .i64 d).wf = true)
    (w3 : (p = none ∧ len = 0 ∧ cap = 0 ∧ z = []) ∨ ∃ x, p = some x ∧ len ≤ cap ∧ cap ≤ maxLen ∧ z.length = cap ∧ (∀ i, i < z.length → w.cell? (x.add i) = some (.int .i64 (z.getD i 0))) ∧ ∀ n ∈ z, (Lit.int .i64 n).wf = true) :
    Calls Try.prog 3 #[.int .i64 a, .int .i64 n, .int .i64 d, .slice p len cap] w (Gives (.bool true) w) := by
  rcases w3 with ⟨rfl, rfl, rfl, rfl⟩ | ⟨x, rfl, hl, hm, hz, hc, _⟩
  · exact agrees_nil a n d w
  · unfold maxLen at hm
    have hl2 : (z.take (min len 1000)).length = min len 1000 := by rw [List.length_take]; omega
    have hcell : ∀ w1, Below w.heap.size w w1 → ∀ i, i < min len 1000 → w1.cell? (x.add i) = some (.int .i64 ((z.take (min len 1000)).getD i 0)) := by
      intro w1 hb i hi
      have h0 := hc i (by omega)
      have hlt : (x.add i).block < w.heap.size := cell_lt h0
      rw [hb.cell hlt, h0]
      congr 2
      simp only [List.getD_eq_getElem?_getD, List.getElem?_take, if_pos hi]
    cases hs : sumR (z.take (min len 1000)) with
    | mk s u =>
    refine agrees_row a n d x len cap (min len 1000) rfl hl (by omega) s u w (fun w1 hb => ?_) (fun w1 hb => ?_)
    · have := sum_row (z.take (min len 1000)) x (min len 1000) cap hl2 (by omega) w1 (hcell w1 hb)
      rw [hs] at this
      exact this
    · have := refSum_row (z.take (min len 1000)) x (min len 1000) cap hl2 (by omega) w1 (hcell w1 hb)
      rw [hs] at this
      exact this
end Go.Proofs.Ytapkndkdhpjonaa
