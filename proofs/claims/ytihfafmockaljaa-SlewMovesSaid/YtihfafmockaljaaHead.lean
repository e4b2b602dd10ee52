/- Layer 9: the fixed examples that each statement begins with (gen/gen_laws.py writes this). -/
import Derived.Test.YtihfafmockaljaaRPart
namespace Go.Proofs.Ytihfafmockaljaa
open Go.RowKit Go
set_option linter.unusedVariables false
set_option linter.unusedSimpArgs false

theorem ex_start : startR 0 1000 = (0, 1000, 0, 0) := by decide
theorem ex_steer : steerR 0 1000 0 2000 4000 100000000 20000 = (2000, 3000, 50000000, 0) := by decide
theorem ex_show : showR 2000 3000 50000000 22000 = (24000, 0) := by decide
theorem ex_left : leftR 0 1000 0 2000 4000 100000000 20000 = (0, 0) := by decide
theorem ex_left2 : leftR 0 1000 0 2000 4000 10000000 20000 = (800, 0) := by decide
theorem ex_order : showR 2000 3000 50000000 1999 = (0, 30) := by decide

set_option maxRecDepth 100000 in
set_option maxHeartbeats 8000000 in
theorem head_true (G : Slw) (w : World) : Calls Try.prog 9 #[] w (Gives (.bool true) w) := by
  have A1 := Lib.hid (G.start 0 1000 ⟨by omega, by omega⟩ ⟨by omega, by omega⟩)
  rw [ex_start] at A1
  have A2 := Lib.hid (G.steer 0 1000 0 2000 4000 100000000 20000 ⟨by omega, by omega⟩ ⟨by omega, by omega⟩ ⟨by omega, by omega⟩ ⟨by omega, by omega⟩ ⟨by omega, by omega⟩ ⟨by omega, by omega⟩ ⟨by omega, by omega⟩)
  rw [ex_steer] at A2
  have A3 := Lib.hid (G.shows 2000 3000 50000000 22000 ⟨by omega, by omega⟩ ⟨by omega, by omega⟩ ⟨by omega, by omega⟩ ⟨by omega, by omega⟩)
  rw [ex_show] at A3
  have A4 := Lib.hid (G.left 0 1000 0 2000 4000 100000000 20000 ⟨by omega, by omega⟩ ⟨by omega, by omega⟩ ⟨by omega, by omega⟩ ⟨by omega, by omega⟩ ⟨by omega, by omega⟩ ⟨by omega, by omega⟩ ⟨by omega, by omega⟩)
  rw [ex_left] at A4
  have A5 := Lib.hid (G.left 0 1000 0 2000 4000 10000000 20000 ⟨by omega, by omega⟩ ⟨by omega, by omega⟩ ⟨by omega, by omega⟩ ⟨by omega, by omega⟩ ⟨by omega, by omega⟩ ⟨by omega, by omega⟩ ⟨by omega, by omega⟩)
  rw [ex_left2] at A5
  have A6 := Lib.hid (G.shows 2000 3000 50000000 1999 ⟨by omega, by omega⟩ ⟨by omega, by omega⟩ ⟨by omega, by omega⟩ ⟨by omega, by omega⟩)
  rw [ex_order] at A6
  dsimp only at A1 A2 A3 A4 A5 A6
  unfold clV at A1 A2 A3 A4 A5 A6
  clear G
  have BB : Hid (Below w.heap.size w w) := Below.refl _ w
  go_enter Try.func9, Try.ntmps9
  go_wp2_with (first
    | (go_at_call 16; (with_reducible refine (A1.out _).mono ?_); rintro e w1 ⟨rfl, b1⟩; have O := Lib.hid (Three.new w1 23 (.int .i64 0) (.int .i64 1000) (.int .i64 0)); replace BB := Lib.hid (below_more BB.out b1); have Go := Lib.hid BB.out.size; replace BB := Lib.hid (BB.out.alloc BB.out.size (.cells #[.int .i64 0, .int .i64 1000, .int .i64 0] 23)); replace o_0 := O.out.c0; replace o_1 := O.out.c1; replace o_2 := O.out.c2; replace o_l := O.out.lt; clear b1 A1)
    | (go_at_call 12; (with_reducible refine (A2.out _).mono ?_); rintro e w2 ⟨rfl, b2⟩; replace O := Lib.hid ((O.out.below b2 O.out.lt).alloc (.cells #[.int .i64 2000, .int .i64 3000, .int .i64 50000000] 23)); have C := Lib.hid (Three.new w2 23 (.int .i64 2000) (.int .i64 3000) (.int .i64 50000000)); replace BB := Lib.hid (below_more BB.out b2); have Gc := Lib.hid BB.out.size; replace BB := Lib.hid (BB.out.alloc BB.out.size (.cells #[.int .i64 2000, .int .i64 3000, .int .i64 50000000] 23)); replace o_0 := O.out.c0; replace o_1 := O.out.c1; replace o_2 := O.out.c2; replace o_l := O.out.lt; replace c_0 := C.out.c0; replace c_1 := C.out.c1; replace c_2 := C.out.c2; replace c_l := C.out.lt; clear b2 A2)
    | (go_at_call 10; (with_reducible refine (A3.out _).mono ?_); rintro e w3 ⟨rfl, b3⟩; replace O := Lib.hid (O.out.below b3 O.out.lt); replace C := Lib.hid (C.out.below b3 C.out.lt); replace BB := Lib.hid (below_more BB.out b3); replace o_0 := O.out.c0; replace o_1 := O.out.c1; replace o_2 := O.out.c2; replace o_l := O.out.lt; replace c_0 := C.out.c0; replace c_1 := C.out.c1; replace c_2 := C.out.c2; replace c_l := C.out.lt; clear b3 A3)
    | (go_at_call 13; (with_reducible refine (A4.out _).mono ?_); rintro e w4 ⟨rfl, b4⟩; replace O := Lib.hid (O.out.below b4 O.out.lt); replace C := Lib.hid (C.out.below b4 C.out.lt); replace BB := Lib.hid (below_more BB.out b4); replace o_0 := O.out.c0; replace o_1 := O.out.c1; replace o_2 := O.out.c2; replace o_l := O.out.lt; replace c_0 := C.out.c0; replace c_1 := C.out.c1; replace c_2 := C.out.c2; replace c_l := C.out.lt; clear b4 A4)
    | (go_at_call 13; (with_reducible refine (A5.out _).mono ?_); rintro e w5 ⟨rfl, b5⟩; replace O := Lib.hid (O.out.below b5 O.out.lt); replace C := Lib.hid (C.out.below b5 C.out.lt); replace BB := Lib.hid (below_more BB.out b5); replace o_0 := O.out.c0; replace o_1 := O.out.c1; replace o_2 := O.out.c2; replace o_l := O.out.lt; replace c_0 := C.out.c0; replace c_1 := C.out.c1; replace c_2 := C.out.c2; replace c_l := C.out.lt; clear b5 A5)
    | (go_at_call 10; (with_reducible refine (A6.out _).mono ?_); rintro e w6 ⟨rfl, b6⟩; replace O := Lib.hid (O.out.below b6 O.out.lt); replace C := Lib.hid (C.out.below b6 C.out.lt); replace BB := Lib.hid (below_more BB.out b6); replace o_0 := O.out.c0; replace o_1 := O.out.c1; replace o_2 := O.out.c2; replace o_l := O.out.lt; replace c_0 := C.out.c0; replace c_1 := C.out.c1; replace c_2 := C.out.c2; replace c_l := C.out.lt; clear b6 A6))
  go_ret
  exact ⟨by simp, BB.out⟩
end Go.Proofs.Ytihfafmockaljaa
