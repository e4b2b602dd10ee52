/- Layer 1: scale.Sum returns the sum of times in 128 bits, or the error; memory stays as it is. -/
import Derived.Test.YtihfafmockaljaaScale
import Derived.LoopTactic
import Derived.Laws.Externs
namespace Go.Proofs.Ytihfafmockaljaa
open Go.RowKit Go
set_option linter.unusedVariables false

def total : List Int → Int
  | [] => 0
  | x :: l => x + total l

theorem total_snoc (l : List Int) (x : Int) : total (l ++ [x]) = total l + x := by
  induction l with
  | nil => simp [total]
  | cons a l ih => simp only [List.cons_append, total, ih]; omega

def allTimes (l : List Int) : Bool := l.all timeB

theorem timeB_yes {x : Int} (h : timeB x = true) : -3000000000000000 ≤ x ∧ x ≤ 3000000000000000 := by
  simpa [timeB] using h

theorem timeB_no {x : Int} (h : timeB x = false) : x < -3000000000000000 ∨ 3000000000000000 < x := by
  simp only [timeB, Bool.and_eq_false_iff, decide_eq_false_iff_not] at h; omega

theorem total_bound (l : List Int) (h : allTimes l = true) : -3000000000000000 * (l.length : Int) ≤ total l ∧ total l ≤ 3000000000000000 * (l.length : Int) := by
  induction l with
  | nil => simp [total]
  | cons a l ih =>
    simp only [allTimes, List.all_cons, Bool.and_eq_true] at h
    have := ih h.2
    have := timeB_yes h.1
    simp only [total, List.length_cons]; omega

theorem take_snoc (zs : List Int) (k : Nat) (h : k < zs.length) : zs.take (k + 1) = zs.take k ++ [zs.getD k 0] := by
  rw [List.take_succ_eq_append_getElem h]; simp [h]

/-- The two halves of a sum in 128 bits. -/
def loN (S : Int) : Nat := (S % 18446744073709551616).toNat
def hiN (S : Int) : Nat := (S / 18446744073709551616 % 18446744073709551616).toNat

theorem sum_step (S x : Int) (h1 : -3000000000000000 ≤ x) (h2 : x ≤ 3000000000000000) :
    ∃ X sg c t : Nat, IntKind.u64.wrap x = (X : Int) ∧ IntKind.u64.wrap (x / 9223372036854775808) = (sg : Int) ∧ c ≤ 1 ∧
      (loN S + X + 0) % 18446744073709551616 = loN (S + x) ∧ (loN S + X + 0) / 18446744073709551616 = c ∧
      (hiN S + sg + c) % 18446744073709551616 = hiN (S + x) ∧ (hiN S + sg + c) / 18446744073709551616 = t := by
  refine ⟨(x % 18446744073709551616).toNat, (x / 9223372036854775808 % 18446744073709551616).toNat, (loN S + (x % 18446744073709551616).toNat) / 18446744073709551616, _, ?_, ?_, ?_, ?_, ?_, ?_, rfl⟩
  · rw [IntKind.wrap_u64]; omega
  · rw [IntKind.wrap_u64]; omega
  · unfold loN; omega
  · unfold loN; omega
  · rfl
  · by_cases h : 0 ≤ x
    · have e1 : x / 9223372036854775808 = 0 := by omega
      have e2 : x % 18446744073709551616 = x := by omega
      rw [e1, e2]; unfold hiN loN; omega
    · have e1 : x / 9223372036854775808 = -1 := by omega
      have e2 : x % 18446744073709551616 = x + 18446744073709551616 := by omega
      rw [e1, e2]; unfold hiN loN; omega

theorem add64 (x y c : Nat) (hx : x < 18446744073709551616) (hy : y < 18446744073709551616) (hc : c ≤ 1) (s t : Nat) (hs : (x + y + c) % 18446744073709551616 = s) (ht : (x + y + c) / 18446744073709551616 = t) (w : World) :
    (callFunc 34 #[.int .u64 x, .int .u64 y, .int .u64 c]).run Try.prog w = .ok (.value (.tuple #[.int .u64 (s : Int), .int .u64 (t : Int)])) w := by
  subst hs ht
  rw [run_callFunc_extern Try.func34 (by kernel_rfl) (by kernel_rfl) (by kernel_rfl) (e := add64Entry) (by kernel_rfl), run_add64 x y c (by omega) (by omega) (by omega) (by omega)]
  simp only [Result.andThen]
  congr 5 <;> omega

theorem loN_lt (S : Int) : loN S < 18446744073709551616 := by unfold loN; omega
theorem hiN_lt (S : Int) : hiN S < 18446744073709551616 := by unfold hiN; omega
theorem wrap_lt (x : Int) (X : Nat) (h : IntKind.u64.wrap x = (X : Int)) : X < 18446744073709551616 := by rw [IntKind.wrap_u64] at h; omega

theorem wrap_lo (S : Int) (h1 : -3000000000000000 ≤ S) (h2 : S ≤ 3000000000000000) : wrap64 (loN S : Int) = S := by unfold wrap64 loN; omega
theorem wrap_hi (S : Int) (h1 : -3000000000000000 ≤ S) (h2 : S ≤ 3000000000000000) : wrap64 (hiN S : Int) = S / 9223372036854775808 := by unfold wrap64 hiN; omega

theorem wrap_out (S : Int) (h1 : -422212465053696000000000000000000 ≤ S) (h2 : S ≤ 422212465053696000000000000000000) (h : ¬ (-3000000000000000 ≤ S ∧ S ≤ 3000000000000000)) :
    ¬ wrap64 (hiN S : Int) = wrap64 (loN S : Int) / 9223372036854775808 ∨ (wrap64 (loN S : Int) < -3000000000000000 ∨ 3000000000000000 < wrap64 (loN S : Int)) := by
  have e := Int.mul_ediv_add_emod S 18446744073709551616
  have r1 := Int.emod_nonneg S (show (18446744073709551616 : Int) ≠ 0 by decide)
  have r2 := Int.emod_lt_of_pos S (show (0 : Int) < 18446744073709551616 by decide)
  unfold hiN loN
  generalize S / 18446744073709551616 = q at *
  generalize S % 18446744073709551616 = r at *
  have q1 : -30000000000000 ≤ q := by omega
  have q2 : q ≤ 30000000000000 := by omega
  have eh : wrap64 ((q % 18446744073709551616).toNat : Int) = q := by unfold wrap64; omega
  rw [eh]
  have el : wrap64 (r.toNat : Int) = if r < 9223372036854775808 then r else r - 18446744073709551616 := by
    unfold wrap64; split <;> omega
  rw [el]
  split <;> omega

def finR (x : Int) : Int × Int := if -3000000000000000 ≤ x ∧ x ≤ 3000000000000000 then (x, 0) else (0, 3)
def sumR (l : List Int) : Int × Int := if allTimes l = true then finR (total l) else (0, 1)
def pairV (v : Int × Int) : Value := .tuple #[.int .i64 v.1, .int .i64 v.2]

set_option maxHeartbeats 1000000 in
theorem sum_row (zs : List Int) (p : Addr) (len cap : Nat) (hlen : zs.length = len) (hl : len ≤ 140737488351232) (w : World) (hc : ∀ i, i < len → w.cell? (p.add i) = some (.int .i64 (zs.getD i 0))) :
    Calls Try.prog 26 #[.slice (some p) len cap] w fun e w' => e = .returned (pairV (sumR zs)) ∧ w = w' := by
  have HC : Hid _ := hc
  have HL : Hid _ := hlen
  clear hc hlen
  go_enter Try.func26, Try.ntmps26
  go_wp2_with fail
  go_loop [4, 5, 12] (fun h l i => ∃ k : Nat, k ≤ len ∧ i = .int .i64 k ∧ h = .int .u64 (hiN (total (zs.take k)) : Int) ∧ l = .int .u64 (loN (total (zs.take k)) : Int) ∧ Hid (allTimes (zs.take k) = true)) (fun _ _ i => len - (intOf i).toNat)
  case atStart => exact ⟨0, Nat.zero_le _, rfl, rfl, rfl, rfl⟩
  case round =>
    obtain ⟨k, hk, rfl, rfl, rfl, HA⟩ := hrel
    by_cases hlt : k < len
    · have hx := HC.out k hlt
      have E := HL.out
      have hts : Hid _ := take_snoc zs k (by omega)
      clear E
      generalize hxe : zs.getD k 0 = x at hx hts
      clear hxe
      cases ht : timeB x with
      | true =>
        obtain ⟨hb1, hb2⟩ := timeB_yes ht
        have HT : Hid _ := ht
        clear ht
        generalize hS : total (zs.take k) = S
        have HS : Hid _ := hS
        clear hS
        obtain ⟨X, sg, c, t, e1, e2, e3, e4, e5, e6, e7⟩ := sum_step S x hb1 hb2
        have A1 := fun w => add64 (loN S) X 0 (loN_lt S) (wrap_lt _ _ e1) (by omega) _ _ e4 e5 w
        have A2 := fun w => add64 (hiN S) sg c (hiN_lt S) (wrap_lt _ _ e2) e3 _ _ e6 e7 w
        rw [Int.natCast_zero] at A1
        clear e3 e4 e5 e6 e7
        generalize hlo : loN S = lo at A1 ⊢
        generalize hhi : hiN S = hi at A2 ⊢
        generalize hlo' : loN (S + x) = lo' at A1
        generalize hhi' : hiN (S + x) = hi' at A2
        have HLO : Hid _ := hlo'
        have HHI : Hid _ := hhi'
        clear hlo hhi hlo' hhi'
        go_wp2_with (first | (go_at_call 33; refine (isTime_yes _ (by omega) (by omega) _).mono ?_; rintro e w' ⟨rfl, rfl⟩))
        go_round
        case rel =>
          have e : total (zs.take (k + 1)) = S + x := by rw [hts.out, total_snoc, HS.out]
          refine ⟨k + 1, by omega, by go_num, ?_, ?_, ?_⟩
          · rw [e, HHI.out]
          · rw [e, HLO.out]
          · show allTimes (zs.take (k + 1)) = true
            rw [hts.out, allTimes, List.all_append, Bool.and_eq_true]
            exact ⟨HA.out, by simp [HT.out]⟩
        case measure => simp [intOf]; omega
      | false =>
        have HT := isTime_no x (timeB_no ht)
        have HN : Hid (sumR zs = (0, 1)) := by
          show sumR zs = (0, 1)
          rw [sumR, if_neg]
          intro h
          have h2 : allTimes (zs.take (k + 1)) = true := by
            simp only [allTimes, List.all_eq_true] at h ⊢
            exact fun y hy => h y (List.mem_of_mem_take hy)
          rw [hts.out, allTimes, List.all_append, Bool.and_eq_true] at h2
          have h3 := h2.2
          simp [ht] at h3
        have HT' : Hid _ := HT
        clear HT ht
        go_wp2_with (go_at_call 33; refine (HT'.out _).mono ?_; rintro e w' ⟨rfl, rfl⟩)
        go_ret2
        exact ⟨by rw [HN.out]; rfl, rfl⟩
    · obtain rfl : k = len := by omega
      have hE : zs.take k = zs := by rw [← HL.out]; exact List.take_length
      rw [hE] at HA ⊢
      clear hE hlt hk
      generalize hS : total zs = S
      have HS : Hid _ := hS
      clear hS
      by_cases hT : -3000000000000000 ≤ S ∧ S ≤ 3000000000000000
      · obtain ⟨hT1, hT2⟩ := hT
        have HF : Hid (sumR zs = (S, 0)) := by
          show sumR zs = _
          rw [sumR, if_pos HA.out, HS.out, finR, if_pos ⟨hT1, hT2⟩]
        have e1 := wrap_lo S hT1 hT2
        have e2 := wrap_hi S hT1 hT2
        generalize loN S = lo at e1 ⊢
        generalize hiN S = hi at e2 ⊢
        go_wp2_with (go_at_call 33; refine (isTime_yes _ (by omega) (by omega) _).mono ?_; rintro e w' ⟨rfl, rfl⟩)
        go_ret2
        exact ⟨by rw [HF.out]; rfl, rfl⟩
      · have HF : Hid (sumR zs = (0, 3)) := by
          show sumR zs = _
          rw [sumR, if_pos HA.out, HS.out, finR, if_neg hT]
        have hb := total_bound zs HA.out
        rw [HS.out, HL.out] at hb
        have ho := wrap_out S (by omega) (by omega) (by omega)
        clear hb hT
        generalize hv : wrap64 (loN S : Int) = v at ho
        have e1 := hv
        clear hv
        generalize loN S = lo at e1 ⊢
        generalize hiN S = hi at ho ⊢
        generalize hu : v / 9223372036854775808 = u at ho
        generalize hh : wrap64 (hi : Int) = h at ho
        by_cases hc : h = u
        · have hn := ho.resolve_left (fun h => h hc)
          have HN : Hid _ := fun w => isTime_no v hn w
          subst hc
          clear ho hn
          go_wp2_with (go_at_call 33; refine (HN.out _).mono ?_; rintro e w' ⟨rfl, rfl⟩)
          go_ret2
          exact ⟨by rw [HF.out]; rfl, rfl⟩
        · clear ho
          have hc' : (h != u) = true := by simpa using hc
          clear hc
          go_wp2_with fail
          go_ret2
          exact ⟨by rw [HF.out]; rfl, rfl⟩

theorem sum_nil (w : World) : Calls Try.prog 26 #[.slice none 0 0] w fun e w' => e = .returned (pairV (sumR [])) ∧ w = w' := by
  go_enter Try.func26, Try.ntmps26
  go_wp2_with fail
  refine wp_loop_rounds 1 ?_; rw [rounds_succ]
  go_wp2_with (go_at_call 33; refine (isTime_yes _ (by omega) (by omega) _).mono ?_; rintro e w' ⟨rfl, rfl⟩)
  go_ret2
  exact ⟨rfl, rfl⟩
end Go.Proofs.Ytihfafmockaljaa
