/- Layer 4: small and framed. -/
import Derived.Test.YtdambggcaimndaaFew
namespace Go.Proofs.Ytdambggcaimndaa
open Go.RowKit Go.Sort Go
set_option linter.unusedVariables false

/-- How many integers there are in lists. -/
def ints (ls : List (List Int)) : Nat := (ls.map List.length).sum
theorem ints_nil : ints [] = 0 := rfl
theorem ints_snoc (ls : List (List Int)) (l : List Int) : ints (ls ++ [l]) = ints ls + l.length := by simp [ints]
theorem ints_append (a b : List (List Int)) : ints (a ++ b) = ints a + ints b := by simp [ints]
theorem ints_take (ls : List (List Int)) (k : Nat) : ints (ls.take k) ≤ ints ls := by
  have := ints_append (ls.take k) (ls.drop k)
  rw [List.take_append_drop] at this
  omega
theorem ints_mem {ls : List (List Int)} {l : List Int} (h : l ∈ ls) : l.length ≤ ints ls := by
  induction ls with
  | nil => cases h
  | cons x r ih =>
    have e : ints (x :: r) = x.length + ints r := by simp [ints]
    rcases List.mem_cons.1 h with rfl | h
    · omega
    · have := ih h; omega

/-- The list at a place. -/
theorem RowL.at_ {B : Nat} {w : World} {p : Addr} {n : Nat} {ls : List (List Int)} (h : RowL B w (some p) n ls) (k : Nat) (hk : k < n) :
    ∃ a m c, w.cell? (p.add k) = some (.slice a m c) ∧ m ≤ 9223372036854775807 ∧ RowI B w a m (ls.getD k []) := by
  obtain ⟨h1, f, h2, h3⟩ := h
  obtain ⟨p', e, hp, hc⟩ := h2 (by omega)
  injection e with e
  subst e
  obtain ⟨a, m, c, hf, hm, hr⟩ := h3 k hk
  exact ⟨a, m, c, by rw [hc k hk, hf], hm, hr⟩
theorem RowL.some {B : Nat} {w : World} {A : Option Addr} {n : Nat} {ls : List (List Int)} (h : RowL B w A n ls) (hn : 0 < n) : ∃ p, A = Option.some p := by
  obtain ⟨h1, f, h2, h3⟩ := h
  obtain ⟨p', e, hp, hc⟩ := h2 hn
  exact ⟨p', e⟩

theorem small_any (A : Option Addr) (n cap : Nat) (ls : List (List Int)) (w : World) (hr : RowL w.heap.size w A n ls) (hs : n + ints ls ≤ 2000000) :
    Calls Try.prog 23 #[.slice A n cap] w fun e w' => e = .returned (.bool (decide (n + ints ls ≤ 200))) ∧ w = w' := by
  have HR := Lib.hid hr
  have HL := Lib.hid hr.1
  clear hr
  go_enter Try.func23, Try.ntmps23
  go_wp2_with fail
  go_loop [3, 10] (fun s i => ∃ k q : Nat, k ≤ n ∧ i = .int .i64 k ∧ s = .int .i64 q ∧ Hid (q = n + ints (ls.take k))) (fun _ i => n - (intOf i).toNat)
  case atStart => exact ⟨0, n, by omega, rfl, rfl, by show _ = _; rw [List.take_zero, ints_nil]; omega⟩
  case round =>
    obtain ⟨k, q, hk, rfl, rfl, HQ⟩ := hrel
    by_cases hlt : k < n
    · obtain ⟨p, rfl⟩ := HR.out.some (by omega)
      obtain ⟨a, m, c, hx, hm, hrow⟩ := HR.out.at_ k hlt
      have hT := take_snoc ls [] k (by rw [HL.out]; exact hlt)
      have hml := hrow.1
      have HQ2 : Hid (q + m = n + ints (ls.take (k + 1))) := by
        show _ = _
        rw [hT, ints_snoc, hml, HQ.out]; omega
      have hb := ints_take ls (k + 1)
      have hqm : q + m ≤ 2000000 := by have := HQ2.out; omega
      have e1 : IntKind.i64.wrap ((q : Int) + (m : Int)) = ((q + m : Nat) : Int) := by rw [IntWalk.i64_in _ (by omega)]; omega
      have f1 : decide ((k : Int) < (n : Int)) = true := by rw [decide_eq_true_eq]; omega
      clear hrow hT hml hb
      go_wp2_with fail
      go_round
      case rel => exact ⟨k + 1, q + m, by omega, by go_num, rfl, HQ2⟩
      case measure => simp [intOf]; omega
    · obtain rfl : k = n := by omega
      have f1 : decide ((k : Int) < (k : Int)) = false := by simp
      have hE : ls.take k = ls := by rw [← HL.out]; exact List.take_length
      have hq : q = k + ints ls := by rw [HQ.out, hE]
      have HQQ := Lib.hid hq
      clear hE hq
      by_cases h200 : q ≤ 200
      · have f2 : decide ((q : Int) ≤ 200) = true := by rw [decide_eq_true_eq]; omega
        have HN : Hid (decide (k + ints ls ≤ 200) = true) := by show _ = _; rw [← HQQ.out]; exact decide_eq_true h200
        clear h200
        go_wp2_with fail
        go_ret
        rw [HN.out]
        exact ⟨rfl, rfl⟩
      · have f2 : decide ((q : Int) ≤ 200) = false := by rw [decide_eq_false_iff_not]; omega
        have HN : Hid (decide (k + ints ls ≤ 200) = false) := by show _ = _; rw [← HQQ.out]; exact decide_eq_false h200
        clear h200
        go_wp2_with fail
        go_ret
        rw [HN.out]
        exact ⟨rfl, rfl⟩

theorem framesB_take (ls : List (List Int)) (k : Nat) : (framesB (ls.take k)).length ≤ (framesB ls).length := by
  have := congrArg List.length (framesB_append (ls.take k) (ls.drop k))
  rw [List.take_append_drop, List.length_append] at this
  omega

set_option maxHeartbeats 2000000 in
theorem framed_any (A : Option Addr) (n cap : Nat) (ls : List (List Int)) (w : World) (hr : RowL w.heap.size w A n ls) (ho : AllOk ls) (hf : (framesB ls).length ≤ 1000000) (hn : n ≤ 1000000) :
    Calls Try.prog 24 #[.slice A n cap] w fun e w' => ∃ A' n' cap', e = .returned (.tuple #[.slice A' n' cap', .bool true]) ∧ Made w.heap.size (framesB ls) w A' n' cap' w' := by
  have HR := Lib.hid hr
  have HL := Lib.hid hr.1
  clear hr
  go_enter Try.func24, Try.ntmps24
  go_wp2_with fail
  go_loopw [4, 11] (fun v i wr => ∃ (k : Nat), k ≤ n ∧ i = .int .i64 k ∧ Hid (Own w.heap.size wr v (framesB (ls.take k))) ∧ Hid (Below w.heap.size w wr)) (fun _ i _ => n - (intOf i).toNat)
  case atStart => exact ⟨0, by omega, rfl, World.ownsRow_nil _ _ _ _, Below.refl _ _⟩
  case round =>
    obtain ⟨k, hk, rfl, HO, HB⟩ := hrel
    have hsz := HB.out.size
    by_cases hlt : k < n
    · have hrow := HR.out.step HB.out
      obtain ⟨p, rfl⟩ := hrow.some (by omega)
      obtain ⟨a, m, c, hx, hm, hri⟩ := hrow.at_ k hlt
      have hT := take_snoc ls [] k (by rw [HL.out]; exact hlt)
      have hok : OkL (ls.getD k []) := ho _ (by
        have : k < ls.length := by rw [HL.out]; exact hlt
        rw [show ls.getD k [] = ls[k] by simp [List.getD, this]]
        exact List.getElem_mem _)
      have hml := hri.1
      have HT : Hid (framesB (ls.take k) ++ frameB (ls.getD k []) = framesB (ls.take (k + 1))) := by show _ = _; rw [hT, framesB_snoc]
      have hlen := framesB_take ls (k + 1)
      generalize ls.getD k [] = l at hri hok hml HT
      have M := Lib.hid (make_ok a m c l _ hri (by have := hok.1; omega))
      have hle : (framesB (ls.take k)).length + (frameB l).length ≤ 1000000 := by
        have := congrArg List.length HT.out
        rw [List.length_append] at this
        omega
      have HLE := Lib.hid hle
      have f1 : decide ((k : Int) < (n : Int)) = true := by rw [decide_eq_true_eq]; omega
      clear hrow hri hT hok hml hlen hle hm
      go_wp2_with (go_at_call 14; refine M.out.mono ?_; rintro e w3 ⟨A3, n3, cap3, rfl, m3⟩; refine Hid.out ?_)
      refine Lib.hid ?_
      have HO3 := Lib.hid (show Own w.heap.size w3 _ _ from own_below HO.out m3.2.2.2.2.2)
      have HB3 := Lib.hid (below_more HB.out m3.2.2.2.2.2)
      have hsz3 := HB3.out.size
      have M3 := Lib.hid m3
      clear m3
      go_wp2_with (refine wpList_app8 rfl _ _ rfl w.heap.size _ _ rfl HO3.out _ _ _ _ _ rfl M3.out.2.2.1 M3.out.2.2.2.2.1 (by have := M3.out.1; have := HLE.out; omega) hsz3 ?_; refine Hid.out ?_)
      refine Lib.hid ?_
      intro v4 w4 o4 g4
      rw [HT.out] at o4
      have O4 := Lib.hid o4
      have HB4 := Lib.hid (HB3.out.grown g4 hsz3 (own_grown (w' := w) HO3.out))
      clear o4 g4
      go_wp2_with fail
      go_roundw
      case rel => exact ⟨k + 1, by omega, by go_num, O4, HB4⟩
      case measure => simp [intOf]; omega
    · obtain rfl : k = n := by omega
      have f1 : decide ((k : Int) < (k : Int)) = false := by simp
      have HE : Hid (ls.take k = ls) := by show _ = _; rw [← HL.out]; exact List.take_length
      go_wp2_with fail
      go_ret2
      have o := HO.out
      rw [HE.out] at o
      obtain ⟨A', n', cap', rfl, hM⟩ := o.made HB.out
      exact ⟨A', n', cap', rfl, hM⟩
end Go.Proofs.Ytdambggcaimndaa
