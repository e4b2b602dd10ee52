/- Layer 2: Cover of package interval, at any list and need. -/
import Derived.Test.YtpooifjieoijjaaMath
namespace Go.Proofs.Ytpooifjieoijjaa
open Go.RowKit Go
set_option linter.unusedVariables false

/-- Cover has answered a list of intervals that covers what it should. -/
def CoverGive (zs : List (Int × Int)) (need : Int) (w : World) (e : Ending) (w' : World) : Prop :=
  ∃ (A : Option Addr) (cap : Nat) (xs : List (Int × Int)), e = .returned (.tuple #[.slice A xs.length cap, .int .i64 0]) ∧ Row w'.heap.size w' A xs.length xs ∧ xs.length ≤ 128 ∧ IsCover zs need xs ∧ Below w.heap.size w w'

theorem row_own {w : World} {base : Nat} {v : Value} {xs : List (Int × Int)} (h : w.ownsRow base 24 2 v xs.length (cellsE xs)) : ∃ A cap, v = .slice A xs.length cap ∧ Row w.heap.size w A xs.length xs := by
  rcases h.2 with ⟨rfl, h0⟩ | ⟨g, cap, cur, rfl, _, hg, _⟩
  · exact ⟨none, 0, by rw [h0], rfl, fun hn => by omega⟩
  · refine ⟨_, cap, rfl, rfl, fun hn => ⟨_, rfl, (Array.getElem?_eq_some_iff.1 hg).1, fun i hi => ?_⟩⟩
    obtain ⟨h0, h1⟩ := cellsE_at xs i hi
    rw [add_at]
    refine ⟨?_, ?_⟩
    · rw [h.cellAt (i * 2) (by omega), show i * 2 = 2 * i by omega]; exact h0
    · rw [h.cellAt (i * 2 + 1) (by omega), show i * 2 = 2 * i by omega]; exact h1

theorem cover_ok (A : Option Addr) (len cap : Nat) (zs : List (Int × Int)) (need : Int) (w : World) (hr : Row w.heap.size w A len zs) (ho : okList zs = true) (hn1 : 1 ≤ need) (hn2 : need ≤ 64) :
    Calls Try.prog 22 #[.slice A len cap, .int .i64 need] w (CoverGive zs need w) := by
  refine (cover_yes A len cap zs need w hr ho hn1 hn2).mono ?_
  rintro e w' ⟨v, E, rfl, hp, hs, hl, hrow, hb⟩
  obtain ⟨A', cap', rfl, hR⟩ := row_own hrow
  rw [okList, Bool.and_eq_true] at ho
  exact ⟨A', cap', _, rfl, hR, hl, cover_is zs E need hn1 ho.2 hp hs, hb⟩

/-- The same, and where the row begins. -/
def CoverGive2 (zs : List (Int × Int)) (need : Int) (w : World) (e : Ending) (w' : World) : Prop :=
  ∃ (A : Option Addr) (cap : Nat) (xs : List (Int × Int)), e = .returned (.tuple #[.slice A xs.length cap, .int .i64 0]) ∧ Row w'.heap.size w' A xs.length xs ∧ (xs = [] ∨ ∃ g : Nat, A = some ⟨g, 0, none⟩) ∧ xs.length ≤ 128 ∧ IsCover zs need xs ∧ Below w.heap.size w w'

theorem cover_ok2 (A : Option Addr) (len cap : Nat) (zs : List (Int × Int)) (need : Int) (w : World) (hr : Row w.heap.size w A len zs) (ho : okList zs = true) (hn1 : 1 ≤ need) (hn2 : need ≤ 64) :
    Calls Try.prog 22 #[.slice A len cap, .int .i64 need] w (CoverGive2 zs need w) := by
  refine (cover_yes A len cap zs need w hr ho hn1 hn2).mono ?_
  rintro e w' ⟨v, E, rfl, hp, hs, hl, hrow, hb⟩
  obtain ⟨A', cap', rfl, hR⟩ := row_own hrow
  rw [okList, Bool.and_eq_true] at ho
  refine ⟨A', cap', _, rfl, hR, ?_, hl, cover_is zs E need hn1 ho.2 hp hs, hb⟩
  rcases hrow.2 with ⟨_, h0⟩ | ⟨g, c, cur, hv, _⟩
  · exact .inl (List.length_eq_zero_iff.1 h0)
  · injection hv with h1
    exact .inr ⟨g, h1⟩

theorem cover_no (A : Option Addr) (len cap : Nat) (zs : List (Int × Int)) (need : Int) (w : World) (hr : Row w.heap.size w A len zs) (hl : len ≤ 9223372036854775807) (h : okList zs = false ∨ need < 1 ∨ 64 < need) :
    Calls Try.prog 22 #[.slice A len cap, .int .i64 need] w (Gives (.tuple #[.slice none 0 0, .int .i64 1]) w) := by
  have V := Lib.hid (validList_any A len cap zs w hr hl)
  clear hr
  cases ho : okList zs with
  | false =>
    have HO := Lib.hid ho
    clear h ho
    refine (callsIn_wide (n := 6)).1 ?_
    refine callsIn_of_wp_marks Try.func22 rfl trivial ?_ rfl
    simp only [Try.ntmps22, List.size_toArray, List.length_cons, List.length_nil, Nat.reduceAdd, Nat.reduceSub, Array.replicate_succ, Array.replicate_zero, List.push_toArray, List.append_toArray, List.nil_append, List.cons_append]
    gi_wp2
    refine ⟨trivial, (callsIn_wide.2 V.out).mono ?_⟩
    rintro e w1 ⟨rfl, b1⟩
    rw [HO.out]
    have HB1 := Lib.hid b1
    clear b1
    gi_wp2
    exact ⟨_, results_tmp2 (t := 4) (u := 5) rfl _ _ _, rfl, HB1.out⟩
  | true =>
    have HO := Lib.hid ho
    have hn : need < 1 ∨ 64 < need := by simpa [ho] using h
    clear h ho
    rcases hn with hn | hn
    · refine (callsIn_wide (n := 6)).1 ?_
      refine callsIn_of_wp_marks Try.func22 rfl trivial ?_ rfl
      simp only [Try.ntmps22, List.size_toArray, List.length_cons, List.length_nil, Nat.reduceAdd, Nat.reduceSub, Array.replicate_succ, Array.replicate_zero, List.push_toArray, List.append_toArray, List.nil_append, List.cons_append]
      gi_wp2
      refine ⟨trivial, (callsIn_wide.2 V.out).mono ?_⟩
      rintro e w1 ⟨rfl, b1⟩
      rw [HO.out]
      have HB1 := Lib.hid b1
      clear b1
      gi_wp2
      exact ⟨_, results_tmp2 (t := 4) (u := 5) rfl _ _ _, rfl, HB1.out⟩
    · have hn' : ¬ need < 1 := by omega
      refine (callsIn_wide (n := 6)).1 ?_
      refine callsIn_of_wp_marks Try.func22 rfl trivial ?_ rfl
      simp only [Try.ntmps22, List.size_toArray, List.length_cons, List.length_nil, Nat.reduceAdd, Nat.reduceSub, Array.replicate_succ, Array.replicate_zero, List.push_toArray, List.append_toArray, List.nil_append, List.cons_append]
      gi_wp2
      refine ⟨trivial, (callsIn_wide.2 V.out).mono ?_⟩
      rintro e w1 ⟨rfl, b1⟩
      rw [HO.out]
      have HB1 := Lib.hid b1
      clear b1
      gi_wp2
      exact ⟨_, results_tmp2 (t := 4) (u := 5) rfl _ _ _, rfl, HB1.out⟩
end Go.Proofs.Ytpooifjieoijjaa
