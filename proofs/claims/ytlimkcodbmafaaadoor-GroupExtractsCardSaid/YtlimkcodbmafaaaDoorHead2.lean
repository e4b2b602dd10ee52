/- Layer 6: the fixed examples that each statement begins with; few. -/
import Derived.Test.YtlimkcodbmafaaaDoorHead
namespace Go.Proofs.YtlimkcodbmafaaaDoor
open Go.RowKit Go.Sort Go
set_option linter.unusedVariables false
set_option linter.unusedSimpArgs false

theorem one_two : ∀ x ∈ ([1, 2] : List Int), -9223372036854775808 ≤ x ∧ x ≤ 9223372036854775807 := by intro x hx; simp at hx; omega

theorem sign_lit (G : Grp) (w0 W : World) (o : Ok w0 W) :
    Calls Tryd.prog 17 #[.int .i64 5, .int .i64 7, .slice (some ⟨W.heap.size, 0, none⟩) 2 2] (W.alloc (.cells #[.int .i64 1, .int .i64 2] 3)) (Fine (.tuple #[sgV (sigC 5 7 [1, 2] : Int) (sigS 5 7 [1, 2] : Int), .int .i64 0]) w0) := by
  have o' := ok_grow o (below_alloc W (.cells #[.int .i64 1, .int .i64 2] 3))
  have h := G.sign 5 7 ⟨by omega, by omega⟩ ⟨by omega, by omega⟩ (some ⟨W.heap.size, 0, none⟩) 2 2 [1, 2] _ (rowI_new W [1, 2] 2 rfl one_two) (by omega) (fun h => by cases h) o'.2
  rw [ex_sign] at h
  exact fine_of h o'
theorem ver_lit (G : Grp) (w0 W : World) (o : Ok w0 W) (k : Nat) (hk : k = W.heap.size) :
    Calls Tryd.prog 19 #[.int .i64 1024, sgV (sigC 5 7 [1, 2] : Int) (sigS 5 7 [1, 2] : Int), .slice (some ⟨k, 0, none⟩) 2 2] (W.alloc (.cells #[.int .i64 1, .int .i64 2] 3)) (Fine (.tuple #[.bool true, .int .i64 0]) w0) := by
  subst hk
  have o' := ok_grow o (below_alloc W (.cells #[.int .i64 1, .int .i64 2] 3))
  have l1 := sigC_lt 5 7 [1, 2]
  have l2 := sigS_lt 5 7 [1, 2]
  have h := G.ver 1024 (sigC 5 7 [1, 2] : Int) (sigS 5 7 [1, 2] : Int) ⟨by omega, by omega⟩ ⟨by omega, by omega⟩ ⟨by omega, by omega⟩ (some ⟨W.heap.size, 0, none⟩) 2 2 [1, 2] _ (rowI_new W [1, 2] 2 rfl one_two) (by omega) (fun h => by cases h) o'.2
  rw [ex_ver] at h
  exact fine_of h o'
theorem sign_nil (G : Grp) (w0 W : World) (o : Ok w0 W) :
    Calls Tryd.prog 17 #[.int .i64 0, .int .i64 7, .slice none 0 0] W (Fine (.tuple #[sgV 0 0, .int .i64 1]) w0) := by
  have h := G.sign 0 7 ⟨by omega, by omega⟩ ⟨by omega, by omega⟩ none 0 0 [] W ⟨rfl, (fun h => absurd h (by omega)), by simp⟩ (by omega) (fun _ => rfl) o.2
  rw [ex_none] at h
  exact fine_of h o

set_option maxHeartbeats 2000000 in
set_option maxRecDepth 100000 in
theorem head_true (G : Grp) (w0 w : World) (o : Ok w0 w) : Calls Tryd.prog 9 #[] w (Fine (.bool true) w0) := by
  have OK := Lib.hid o
  have GG := Lib.hid G
  clear o G
  have A1 := Lib.hid (fun w (o : Ok w0 w) => fine_of (GG.out.mul 4 9 ⟨by omega, by omega⟩ ⟨by omega, by omega⟩ w) o)
  have A2 := Lib.hid (fun w (o : Ok w0 w) => fine_of (GG.out.exp 4 3 ⟨by omega, by omega⟩ ⟨by omega, by omega⟩ w) o)
  have A3 := Lib.hid (sign_lit GG.out w0)
  have A4 := Lib.hid (ver_lit GG.out w0)
  have A5 := Lib.hid (fun w (o : Ok w0 w) => fine_of (GG.out.mul 2 4 ⟨by omega, by omega⟩ ⟨by omega, by omega⟩ w) o)
  have A6 := Lib.hid (sign_nil GG.out w0)
  rw [ex_mul] at A1
  rw [ex_exp] at A2
  rw [ex_no] at A5
  have M1 := Lib.hid (fun w (o : Ok w0 w) => fine_of (GG.out.mem 4 true (by simp [elI_four]) ⟨by omega, by omega⟩ w) o)
  have M2 := Lib.hid (fun w (o : Ok w0 w) => fine_of (GG.out.mem 9 true (by simp [elI_nine]) ⟨by omega, by omega⟩ w) o)
  have M3 := Lib.hid (fun w (o : Ok w0 w) => fine_of (GG.out.mem 2 false (by simp [not_two]) ⟨by omega, by omega⟩ w) o)
  have M4 := Lib.hid (fun w (o : Ok w0 w) => fine_of (GG.out.mem 0 false (by simp [not_zero]) ⟨by omega, by omega⟩ w) o)
  generalize (sigC 5 7 [1, 2] : Int) = c at A3 A4
  generalize (sigS 5 7 [1, 2] : Int) = s at A3 A4
  unfold sgV at A3 A4 A6
  go_enter Tryd.func9, Tryd.ntmps9
  go_wp2_with (first
    | (go_at_call 11; refine (A1.out _ OK.out).mono ?_; rintro e w1 ⟨rfl, o1⟩; have O1 := Lib.hid o1; clear o1 OK)
    | (go_at_call 15; refine (A2.out _ O1.out).mono ?_; rintro e w2 ⟨rfl, o2⟩; have O2 := Lib.hid o2; clear o2 O1)
    | (go_at_call 17; refine (A3.out _ O2.out).mono ?_; rintro e w3 ⟨rfl, o3⟩; have O3 := Lib.hid o3; clear o3 O2)
    | (go_at_call 19; refine (A4.out _ (ok_grow O3.out (below_alloc _ _)) _ (by simp)).mono ?_; rintro e w4 ⟨rfl, o4⟩; have O4 := Lib.hid o4; clear o4 O3)
    | (go_at_call 11; refine (A5.out _ O4.out).mono ?_; rintro e w5 ⟨rfl, o5⟩; have O5 := Lib.hid o5; clear o5 O4)
    | (go_at_call 17; refine (A6.out _ O5.out).mono ?_; rintro e w6 ⟨rfl, o6⟩; have O6 := Lib.hid (ok_grow o6 (below_alloc _ (.cells #[.int .i64 0, .int .i64 0] 23))); clear o6 O5)
    | (go_at_call 13; refine (M1.out _ O6.out).mono ?_; rintro e w7 ⟨rfl, o7⟩; have O7 := Lib.hid o7; clear o7 O6)
    | (go_at_call 13; refine (M2.out _ O7.out).mono ?_; rintro e w8 ⟨rfl, o8⟩; have O8 := Lib.hid o8; clear o8 O7)
    | (go_at_call 13; refine (M3.out _ O8.out).mono ?_; rintro e w9 ⟨rfl, o9⟩; have O9 := Lib.hid o9; clear o9 O8)
    | (go_at_call 13; refine (M4.out _ O9.out).mono ?_; rintro e w10 ⟨rfl, o10⟩; have O10 := Lib.hid o10; clear o10 O9))
  go_ret
  exact ⟨rfl, O10.out⟩

/-- few cuts a message to 20 integers. -/
theorem row_few {A : Option Addr} {n : Nat} {zs : List Int} {w : World} (hr : RowI w.heap.size w A n zs) : RowI w.heap.size w A (min n 20) (zs.take 20) := by
  have hz := hr.1
  refine ⟨by rw [List.length_take, hz]; omega, fun h0 => ?_, fun x hx => hr.2.2 x (List.mem_of_mem_take hx)⟩
  obtain ⟨p, e, hp, hc⟩ := hr.2.1 (by omega)
  refine ⟨p, e, hp, fun i hi => ?_⟩
  rw [hc i (by omega)]
  have : i < zs.length := by omega
  have : i < 20 := by omega
  simp [List.getD, *]
theorem few_any (A : Option Addr) (n cap m : Nat) (hm : min n 20 = m) (w : World) (hl : n ≤ cap) (hc : cap ≤ 9223372036854775807) (hn : A = none → cap = 0) :
    Calls Tryd.prog 10 #[.slice A n cap] w fun e w' => e = .returned (.slice A m cap) ∧ w = w' := by
  have e1 : min (n : Int) 20 = (m : Int) := by omega
  have m1 : m ≤ 20 := by omega
  have m2 : m ≤ cap := by omega
  clear hm
  go_enter Tryd.func10, Tryd.ntmps10
  cases A with
  | none =>
    obtain rfl : cap = 0 := hn rfl
    obtain rfl : m = 0 := by omega
    go_wp2_with fail
    go_ret
    exact ⟨rfl, rfl⟩
  | some p =>
    go_wp2_with fail
    go_ret
    exact ⟨rfl, rfl⟩
end Go.Proofs.YtlimkcodbmafaaaDoor
