/- Layer 5: contracts in the form that the laws' walks take; the fixed examples that each statement begins with. -/
import Derived.Test.YtaakkfbampgoaaaDoorRNth
namespace Go.Proofs.YtaakkfbampgoaaaDoor
open Go.RowKit Go
set_option linter.unusedVariables false
set_option linter.unusedSimpArgs false

/-- Nothing that was there at the entry is changed; the table of the months' lengths reads as it should. -/
def Ok (w0 w : World) : Prop := Below w0.heap.size w0 w ∧ Tab w
def Fine (v : Value) (w0 : World) (e : Ending) (w' : World) : Prop := e = .returned v ∧ Ok w0 w'

theorem fine_of {f : Nat} {args : Array Value} {v : Value} {w0 w : World} (h : Calls Tryd.prog f args w (Gives v w)) (o : Ok w0 w) : Calls Tryd.prog f args w (Fine v w0) :=
  h.mono fun e w' ⟨a, b⟩ => ⟨a, below_more o.1 b, o.2.step b⟩

theorem date_c (n y m d : Int) (hd : IsDate y m d) (hn : n = bomI y m + d - 1) (hu : n ≤ 34000) (w0 w : World) (o : Ok w0 w) :
    Calls Tryd.prog 11 #[.int .i64 n] w (Fine (.tuple #[.int .i64 y, .int .i64 m, .int .i64 d, .int .i64 0]) w0) := fine_of (date_ok n y m d hd hn hu w o.2) o
theorem day_c (y m d v e : Int) (h : dayR y m d = (v, e)) (hy : -1000000 ≤ y ∧ y ≤ 1000000) (hm : -1000000 ≤ m ∧ m ≤ 1000000) (hd : -1000000 ≤ d ∧ d ≤ 1000000) (w0 w : World) (o : Ok w0 w) :
    Calls Tryd.prog 13 #[.int .i64 y, .int .i64 m, .int .i64 d] w (Fine (.tuple #[.int .i64 v, .int .i64 e]) w0) := by
  have := fine_of (day_r y m d (by omega) (by omega) (by omega) (by omega) (by omega) (by omega) w o.2) o
  rwa [h] at this
theorem week_c (n v e : Int) (h : weekR n = (v, e)) (hn : -1000000 ≤ n ∧ n ≤ 1000000) (w0 w : World) (o : Ok w0 w) :
    Calls Tryd.prog 15 #[.int .i64 n] w (Fine (.tuple #[.int .i64 v, .int .i64 e]) w0) := by
  have := fine_of (week_any n (by omega) (by omega) w) o
  rwa [h] at this
theorem nth_c (y m d k v e : Int) (h : nthR y m d k = (v, e)) (hy : -1000000 ≤ y ∧ y ≤ 1000000) (hm : -1000000 ≤ m ∧ m ≤ 1000000) (hd : -1000000 ≤ d ∧ d ≤ 1000000) (hk : -1000000 ≤ k ∧ k ≤ 1000000) (w0 w : World) (o : Ok w0 w) :
    Calls Tryd.prog 17 #[.int .i64 y, .int .i64 m, .int .i64 d, .int .i64 k] w (Fine (.tuple #[.int .i64 v, .int .i64 e]) w0) := by
  have := fine_of (nth_any y m d k (by omega) (by omega) (by omega) (by omega) (by omega) (by omega) (by omega) (by omega) w o.2) o
  rwa [h] at this

set_option maxRecDepth 100000 in
theorem head_true (w0 w : World) (o : Ok w0 w) : Calls Tryd.prog 10 #[] w (Fine (.bool true) w0) := by
  have OK := Lib.hid o
  clear o
  have A1 := Lib.hid (date_c 59 2000 2 29 (by decide +kernel) (by decide +kernel) (by omega) w0)
  have A2 := Lib.hid (week_c 59 1 0 (by decide +kernel) (by omega) w0)
  have A3 := Lib.hid (day_c 2001 1 1 366 0 (by decide +kernel) (by omega) (by omega) (by omega) w0)
  have A4 := Lib.hid (nth_c 2000 3 6 1 64 0 (by decide +kernel) (by omega) (by omega) (by omega) (by omega) w0)
  have A5 := Lib.hid (nth_c 2000 3 6 (-1) 85 0 (by decide +kernel) (by omega) (by omega) (by omega) (by omega) w0)
  have A6 := Lib.hid (nth_c 2000 1 5 5 28 0 (by decide +kernel) (by omega) (by omega) (by omega) (by omega) w0)
  have A7 := Lib.hid (nth_c 2000 1 2 5 0 4 (by decide +kernel) (by omega) (by omega) (by omega) (by omega) w0)
  have A8 := Lib.hid (day_c 2093 2 1 34000 0 (by decide +kernel) (by omega) (by omega) (by omega) w0)
  go_enter Tryd.func10, Tryd.ntmps10
  go_wp2_with (first
    | (go_at_call 11; refine (A1.out _ OK.out).mono ?_; rintro e w1 ⟨rfl, o1⟩; have O1 := Lib.hid o1; clear o1 OK)
    | (go_at_call 15; refine (A2.out _ O1.out).mono ?_; rintro e w2 ⟨rfl, o2⟩; have O2 := Lib.hid o2; clear o2 O1)
    | (go_at_call 13; refine (A3.out _ O2.out).mono ?_; rintro e w3 ⟨rfl, o3⟩; have O3 := Lib.hid o3; clear o3 O2)
    | (go_at_call 17; refine (A4.out _ O3.out).mono ?_; rintro e w4 ⟨rfl, o4⟩; have O4 := Lib.hid o4; clear o4 O3)
    | (go_at_call 17; refine (A5.out _ O4.out).mono ?_; rintro e w5 ⟨rfl, o5⟩; have O5 := Lib.hid o5; clear o5 O4)
    | (go_at_call 17; refine (A6.out _ O5.out).mono ?_; rintro e w6 ⟨rfl, o6⟩; have O6 := Lib.hid o6; clear o6 O5)
    | (go_at_call 17; refine (A7.out _ O6.out).mono ?_; rintro e w7 ⟨rfl, o7⟩; have O7 := Lib.hid o7; clear o7 O6)
    | (go_at_call 13; refine (A8.out _ O7.out).mono ?_; rintro e w8 ⟨rfl, o8⟩; have O8 := Lib.hid o8; clear o8 O7))
  go_ret
  exact ⟨rfl, O8.out⟩

theorem on_any (n : Int) (h1 : 0 ≤ n) (h2 : n ≤ 4294967295) (w : World) :
    Calls Tryd.prog 19 #[.int .u32 n] w fun e w' => e = .returned (.int .i64 (n % 34001)) ∧ w = w' := by
  have e1 : Int.tmod n 34001 = n % 34001 := Int.tmod_eq_emod_of_nonneg h1
  have e2 : wrap64 n = n := by unfold wrap64; omega
  go_enter Tryd.func19, Tryd.ntmps19
  go_wp2_with fail
  go_ret
  exact ⟨rfl, rfl⟩

theorem u32_wf {x : Int} (h : (Lit.int .u32 x).wf = true) : 0 ≤ x ∧ x ≤ 4294967295 := by
  have e1 : IntKind.u32.min = 0 := by decide
  have e2 : IntKind.u32.max = 4294967295 := by decide
  simp [Lit.wf, e1, e2] at h; omega
theorem u8_wf {x : Int} (h : (Lit.int .u8 x).wf = true) : 0 ≤ x ∧ x ≤ 255 := by
  have e1 : IntKind.u8.min = 0 := by decide
  have e2 : IntKind.u8.max = 255 := by decide
  simp [Lit.wf, e1, e2] at h; omega
theorem i64_wf {x : Int} (h : (Lit.int .i64 x).wf = true) : -9223372036854775808 ≤ x ∧ x ≤ 9223372036854775807 := by
  have e1 : IntKind.i64.min = -9223372036854775808 := by decide
  have e2 : IntKind.i64.max = 9223372036854775807 := by decide
  simp [Lit.wf, e1, e2] at h; omega
end Go.Proofs.YtaakkfbampgoaaaDoor
