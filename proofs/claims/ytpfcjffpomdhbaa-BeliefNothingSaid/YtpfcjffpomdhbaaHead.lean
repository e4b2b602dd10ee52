/- Layer 8: the fixed examples that each statement begins with (gen/gen_laws.py writes this). -/
import Derived.Test.YtpfcjffpomdhbaaCon
namespace Go.Proofs.Ytpfcjffpomdhbaa
open Go.RowKit Go
set_option linter.unusedVariables false
set_option linter.unusedSimpArgs false

theorem ex_at : atR 5 100 200 50000 1000005 = (1000050, 1000251, 0) := by decide
theorem ex_adv : advR 5 100 200 50000 1000005 = (1000005, 1000050, 1000251, 0) := by decide
theorem ex_meet : meetR 5 100 200 150 300 = (5, 150, 200, true, 0) := by decide
theorem ex_meet2 : meetR 5 100 200 201 300 = (5, 100, 200, false, 0) := by decide
theorem ex_wrs : wrsR 100 200 140 = (60, 0) := by decide
theorem ex_start : startR 7 = (7, 0, 3000000000000000, 0) := by decide
theorem ex_order : atR 5 100 200 50000 4 = (0, 0, 30) := by decide

set_option maxHeartbeats 4000000 in
set_option maxRecDepth 100000 in
theorem head_true (G : Blf) (w : World) : Calls Try.prog 11 #[] w (Gives (.bool true) w) := by
  have A1 := Lib.hid (G.at_ 5 100 200 50000 1000005 ⟨by omega, by omega⟩ ⟨by omega, by omega⟩ ⟨by omega, by omega⟩ ⟨by omega, by omega⟩ ⟨by omega, by omega⟩)
  have A2 := Lib.hid (G.adv 5 100 200 50000 1000005 ⟨by omega, by omega⟩ ⟨by omega, by omega⟩ ⟨by omega, by omega⟩ ⟨by omega, by omega⟩ ⟨by omega, by omega⟩)
  have A3 := Lib.hid (G.meet 5 100 200 150 300 ⟨by omega, by omega⟩ ⟨by omega, by omega⟩ ⟨by omega, by omega⟩ ⟨by omega, by omega⟩ ⟨by omega, by omega⟩)
  have A4 := Lib.hid (G.meet 5 100 200 201 300 ⟨by omega, by omega⟩ ⟨by omega, by omega⟩ ⟨by omega, by omega⟩ ⟨by omega, by omega⟩ ⟨by omega, by omega⟩)
  have A5 := Lib.hid (G.wrs 100 200 140 ⟨by omega, by omega⟩ ⟨by omega, by omega⟩ ⟨by omega, by omega⟩)
  have A6 := Lib.hid (G.start 7 ⟨by omega, by omega⟩)
  have A7 := Lib.hid (G.at_ 5 100 200 50000 4 ⟨by omega, by omega⟩ ⟨by omega, by omega⟩ ⟨by omega, by omega⟩ ⟨by omega, by omega⟩ ⟨by omega, by omega⟩)
  rw [ex_at] at A1
  rw [ex_adv] at A2
  rw [ex_meet] at A3
  rw [ex_meet2] at A4
  rw [ex_wrs] at A5
  rw [ex_start] at A6
  rw [ex_order] at A7
  dsimp only at A1 A2 A3 A4 A5 A6 A7
  unfold rgV at A1 A3 A4 A5 A7
  unfold blV at A1 A2 A3 A4 A6 A7
  clear G
  obtain ⟨W, hW⟩ : ∃ W, w.alloc (.cells #[.int .i64 5, .int .i64 100, .int .i64 200] 25) = W := ⟨_, rfl⟩
  have B : Hid (Three W (w.heap.size) 25 (.int .i64 5) (.int .i64 100) (.int .i64 200)) := by rw [← hW]; exact Three.new w _ _ _ _
  have BB : Hid (Below w.heap.size w W) := by rw [← hW]; exact below_alloc w _
  have b_0 := B.out.c0
  have b_1 := B.out.c1
  have b_2 := B.out.c2
  have b_l := B.out.lt
  go_enter Try.func11, Try.ntmps11
  go_wp2_with (first
    | (go_at_call 14; (with_reducible refine (A1.out _).mono ?_); rintro e w1 ⟨rfl, b1⟩; replace B := Lib.hid ((B.out.below b1 B.out.lt).alloc (.cells #[.int .i64 1000050, .int .i64 1000251] 23)); have I := Lib.hid (Two.new w1 23 (.int .i64 1000050) (.int .i64 1000251)); replace BB := Lib.hid (below_more BB.out b1); have Gi := Lib.hid BB.out.size; replace BB := Lib.hid (BB.out.alloc BB.out.size (.cells #[.int .i64 1000050, .int .i64 1000251] 23)); replace b_0 := B.out.c0; replace b_1 := B.out.c1; replace b_2 := B.out.c2; replace b_l := B.out.lt; replace i_0 := I.out.c0; replace i_1 := I.out.c1; replace i_l := I.out.lt; clear b1 A1)
    | (go_at_call 16; (with_reducible refine (A2.out _).mono ?_); rintro e w2 ⟨rfl, b2⟩; replace B := Lib.hid ((B.out.below b2 B.out.lt).alloc (.cells #[.int .i64 1000005, .int .i64 1000050, .int .i64 1000251] 25)); replace I := Lib.hid ((I.out.below b2 I.out.lt).alloc (.cells #[.int .i64 1000005, .int .i64 1000050, .int .i64 1000251] 25)); have C := Lib.hid (Three.new w2 25 (.int .i64 1000005) (.int .i64 1000050) (.int .i64 1000251)); replace BB := Lib.hid (below_more BB.out b2); have Gc := Lib.hid BB.out.size; replace BB := Lib.hid (BB.out.alloc BB.out.size (.cells #[.int .i64 1000005, .int .i64 1000050, .int .i64 1000251] 25)); replace b_0 := B.out.c0; replace b_1 := B.out.c1; replace b_2 := B.out.c2; replace b_l := B.out.lt; replace i_0 := I.out.c0; replace i_1 := I.out.c1; replace i_l := I.out.lt; replace c_0 := C.out.c0; replace c_1 := C.out.c1; replace c_2 := C.out.c2; replace c_l := C.out.lt; clear b2 A2)
    | (go_at_call 18; (with_reducible refine (A3.out _).mono ?_); rintro e w3 ⟨rfl, b3⟩; replace B := Lib.hid ((B.out.below b3 B.out.lt).alloc (.cells #[.int .i64 5, .int .i64 150, .int .i64 200] 25)); replace I := Lib.hid ((I.out.below b3 I.out.lt).alloc (.cells #[.int .i64 5, .int .i64 150, .int .i64 200] 25)); replace C := Lib.hid ((C.out.below b3 C.out.lt).alloc (.cells #[.int .i64 5, .int .i64 150, .int .i64 200] 25)); have M := Lib.hid (Three.new w3 25 (.int .i64 5) (.int .i64 150) (.int .i64 200)); replace BB := Lib.hid (below_more BB.out b3); have Gm := Lib.hid BB.out.size; replace BB := Lib.hid (BB.out.alloc BB.out.size (.cells #[.int .i64 5, .int .i64 150, .int .i64 200] 25)); replace b_0 := B.out.c0; replace b_1 := B.out.c1; replace b_2 := B.out.c2; replace b_l := B.out.lt; replace i_0 := I.out.c0; replace i_1 := I.out.c1; replace i_l := I.out.lt; replace c_0 := C.out.c0; replace c_1 := C.out.c1; replace c_2 := C.out.c2; replace c_l := C.out.lt; replace m_0 := M.out.c0; replace m_1 := M.out.c1; replace m_2 := M.out.c2; replace m_l := M.out.lt; clear b3 A3)
    | (go_at_call 18; (with_reducible refine (A4.out _).mono ?_); rintro e w4 ⟨rfl, b4⟩; replace B := Lib.hid ((B.out.below b4 B.out.lt).alloc (.cells #[.int .i64 5, .int .i64 100, .int .i64 200] 25)); replace I := Lib.hid ((I.out.below b4 I.out.lt).alloc (.cells #[.int .i64 5, .int .i64 100, .int .i64 200] 25)); replace C := Lib.hid ((C.out.below b4 C.out.lt).alloc (.cells #[.int .i64 5, .int .i64 100, .int .i64 200] 25)); replace M := Lib.hid ((M.out.below b4 M.out.lt).alloc (.cells #[.int .i64 5, .int .i64 100, .int .i64 200] 25)); have N := Lib.hid (Three.new w4 25 (.int .i64 5) (.int .i64 100) (.int .i64 200)); replace BB := Lib.hid (below_more BB.out b4); have Gn := Lib.hid BB.out.size; replace BB := Lib.hid (BB.out.alloc BB.out.size (.cells #[.int .i64 5, .int .i64 100, .int .i64 200] 25)); replace b_0 := B.out.c0; replace b_1 := B.out.c1; replace b_2 := B.out.c2; replace b_l := B.out.lt; replace i_0 := I.out.c0; replace i_1 := I.out.c1; replace i_l := I.out.lt; replace c_0 := C.out.c0; replace c_1 := C.out.c1; replace c_2 := C.out.c2; replace c_l := C.out.lt; replace m_0 := M.out.c0; replace m_1 := M.out.c1; replace m_2 := M.out.c2; replace m_l := M.out.lt; replace n_0 := N.out.c0; replace n_1 := N.out.c1; replace n_2 := N.out.c2; replace n_l := N.out.lt; clear b4 A4)
    | (go_at_call 20; (with_reducible refine (A5.out _).mono ?_); rintro e w5 ⟨rfl, b5⟩; replace B := Lib.hid (B.out.below b5 B.out.lt); replace I := Lib.hid (I.out.below b5 I.out.lt); replace C := Lib.hid (C.out.below b5 C.out.lt); replace M := Lib.hid (M.out.below b5 M.out.lt); replace N := Lib.hid (N.out.below b5 N.out.lt); replace BB := Lib.hid (below_more BB.out b5); replace b_0 := B.out.c0; replace b_1 := B.out.c1; replace b_2 := B.out.c2; replace b_l := B.out.lt; replace i_0 := I.out.c0; replace i_1 := I.out.c1; replace i_l := I.out.lt; replace c_0 := C.out.c0; replace c_1 := C.out.c1; replace c_2 := C.out.c2; replace c_l := C.out.lt; replace m_0 := M.out.c0; replace m_1 := M.out.c1; replace m_2 := M.out.c2; replace m_l := M.out.lt; replace n_0 := N.out.c0; replace n_1 := N.out.c1; replace n_2 := N.out.c2; replace n_l := N.out.lt; clear b5 A5)
    | (go_at_call 12; (with_reducible refine (A6.out _).mono ?_); rintro e w6 ⟨rfl, b6⟩; replace B := Lib.hid ((B.out.below b6 B.out.lt).alloc (.cells #[.int .i64 7, .int .i64 0, .int .i64 3000000000000000] 25)); replace I := Lib.hid ((I.out.below b6 I.out.lt).alloc (.cells #[.int .i64 7, .int .i64 0, .int .i64 3000000000000000] 25)); replace C := Lib.hid ((C.out.below b6 C.out.lt).alloc (.cells #[.int .i64 7, .int .i64 0, .int .i64 3000000000000000] 25)); replace M := Lib.hid ((M.out.below b6 M.out.lt).alloc (.cells #[.int .i64 7, .int .i64 0, .int .i64 3000000000000000] 25)); replace N := Lib.hid ((N.out.below b6 N.out.lt).alloc (.cells #[.int .i64 7, .int .i64 0, .int .i64 3000000000000000] 25)); have S := Lib.hid (Three.new w6 25 (.int .i64 7) (.int .i64 0) (.int .i64 3000000000000000)); replace BB := Lib.hid (below_more BB.out b6); have Gs := Lib.hid BB.out.size; replace BB := Lib.hid (BB.out.alloc BB.out.size (.cells #[.int .i64 7, .int .i64 0, .int .i64 3000000000000000] 25)); replace b_0 := B.out.c0; replace b_1 := B.out.c1; replace b_2 := B.out.c2; replace b_l := B.out.lt; replace i_0 := I.out.c0; replace i_1 := I.out.c1; replace i_l := I.out.lt; replace c_0 := C.out.c0; replace c_1 := C.out.c1; replace c_2 := C.out.c2; replace c_l := C.out.lt; replace m_0 := M.out.c0; replace m_1 := M.out.c1; replace m_2 := M.out.c2; replace m_l := M.out.lt; replace n_0 := N.out.c0; replace n_1 := N.out.c1; replace n_2 := N.out.c2; replace n_l := N.out.lt; replace s_0 := S.out.c0; replace s_1 := S.out.c1; replace s_2 := S.out.c2; replace s_l := S.out.lt; clear b6 A6)
    | (go_at_call 14; (with_reducible refine (A7.out _).mono ?_); rintro e w7 ⟨rfl, b7⟩; replace B := Lib.hid ((B.out.below b7 B.out.lt).alloc (.cells #[.int .i64 0, .int .i64 0] 23)); replace I := Lib.hid ((I.out.below b7 I.out.lt).alloc (.cells #[.int .i64 0, .int .i64 0] 23)); replace C := Lib.hid ((C.out.below b7 C.out.lt).alloc (.cells #[.int .i64 0, .int .i64 0] 23)); replace M := Lib.hid ((M.out.below b7 M.out.lt).alloc (.cells #[.int .i64 0, .int .i64 0] 23)); replace N := Lib.hid ((N.out.below b7 N.out.lt).alloc (.cells #[.int .i64 0, .int .i64 0] 23)); replace S := Lib.hid ((S.out.below b7 S.out.lt).alloc (.cells #[.int .i64 0, .int .i64 0] 23)); have Z := Lib.hid (Two.new w7 23 (.int .i64 0) (.int .i64 0)); replace BB := Lib.hid (below_more BB.out b7); have Gz := Lib.hid BB.out.size; replace BB := Lib.hid (BB.out.alloc BB.out.size (.cells #[.int .i64 0, .int .i64 0] 23)); replace b_0 := B.out.c0; replace b_1 := B.out.c1; replace b_2 := B.out.c2; replace b_l := B.out.lt; replace i_0 := I.out.c0; replace i_1 := I.out.c1; replace i_l := I.out.lt; replace c_0 := C.out.c0; replace c_1 := C.out.c1; replace c_2 := C.out.c2; replace c_l := C.out.lt; replace m_0 := M.out.c0; replace m_1 := M.out.c1; replace m_2 := M.out.c2; replace m_l := M.out.lt; replace n_0 := N.out.c0; replace n_1 := N.out.c1; replace n_2 := N.out.c2; replace n_l := N.out.lt; replace s_0 := S.out.c0; replace s_1 := S.out.c1; replace s_2 := S.out.c2; replace s_l := S.out.lt; replace z_0 := Z.out.c0; replace z_1 := Z.out.c1; replace z_l := Z.out.lt; clear b7 A7))
  go_ret
  exact ⟨by simp, BB.out⟩
end Go.Proofs.Ytpfcjffpomdhbaa
