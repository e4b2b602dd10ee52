/- Layer 9: SlewMoves, its second half (gen/gen_laws.py writes this). -/
import Derived.Test.YtihfafmockaljaaHead
import Derived.Test.YtihfafmockaljaaMoves
namespace Go.Proofs.Ytihfafmockaljaa
open Go.RowKit Go
set_option linter.unusedVariables false
set_option linter.unusedSimpArgs false

set_option maxRecDepth 100000 in
set_option maxHeartbeats 8000000 in
theorem moves_e3 (p s r a v m h b n p2 s2 a2 v2 x y z x' y' z' e : Int) (w : World) (HD : Hid HeadIs) (K1 : Hid (FarIs p false)) (K2 : Hid (FarIs s false)) (K3 : Hid (FarIs a false)) (K4 : Hid (FarIs v false)) (b1 : -2147483648 ≤ b) (b2 : b ≤ 2147483647) (n1 : -2147483648 ≤ n) (n2 : n ≤ 2147483647) (gp : 2000000000000 ≤ p ∧ p ≤ 2998000000000000) (gs : 2000000000000 ≤ s ∧ s ≤ 2998000000000000) (ga : 2000000000000 ≤ a ∧ a ≤ 2998000000000000) (gv : 2000000000000 ≤ v ∧ v ≤ 2998000000000000) (hp2 : p + b = p2) (hs2 : s + n = s2) (ha2 : a + b = a2) (hv2 : v + n = v2) (e0 : e ≠ 0) (q0 : e ≠ 3) (A1 : Hid (SteerIs p s r a v m h x y z e)) (A2 : Hid (SteerIs p2 s2 r a2 v2 m h x' y' z' 3)) : MovesIs p s r a v m h b n w := by
  obtain ⟨gp1, gp2⟩ := gp
  obtain ⟨gs1, gs2⟩ := gs
  obtain ⟨ga1, ga2⟩ := ga
  obtain ⟨gv1, gv2⟩ := gv
  have e1 : (e != 0) = true := by simp; omega
  have e2 : (e == 0) = false := by simp; omega
  have q1 : (e == 3) = false := by simp; omega
  obtain ⟨W, hW⟩ : ∃ W, (w.alloc (.cells #[.int .i64 p, .int .i64 s, .int .i64 r] 23)) = W := ⟨_, rfl⟩
  have O : Hid (Three W (w.heap.size) 23 (.int .i64 p) (.int .i64 s) (.int .i64 r)) := by
    rw [← hW]
    have k := Three.new w 23 (.int .i64 p) (.int .i64 s) (.int .i64 r)
    exact k
  have BB : Hid (Below w.heap.size w W) := by rw [← hW]; exact below_alloc w _
  have o_0 := O.out.c0
  have o_1 := O.out.c1
  have o_2 := O.out.c2
  have o_l := O.out.lt
  go_enter Try.func7, Try.ntmps7
  go_wp2_with (first
    | (go_at_call 9; (with_reducible refine (HD.out _).mono ?_); rintro e w1 ⟨rfl, b1⟩; replace O := Lib.hid (O.out.below b1 O.out.lt); replace BB := Lib.hid (below_more BB.out b1); replace o_0 := O.out.c0; replace o_1 := O.out.c1; replace o_2 := O.out.c2; replace o_l := O.out.lt; clear b1; have OA := Lib.hid (O.out.alloc (.cells #[.int .i64 p2, .int .i64 s2, .int .i64 r] 23)); have QA := Lib.hid (Three.new w1 23 (.int .i64 p2) (.int .i64 s2) (.int .i64 r)); have BA := Lib.hid (BB.out.alloc BB.out.size (.cells #[.int .i64 p2, .int .i64 s2, .int .i64 r] 23)); have oa_0 := OA.out.c0; have oa_1 := OA.out.c1; have oa_2 := OA.out.c2; have oa_l := OA.out.lt; have q_0 := QA.out.c0; have q_1 := QA.out.c1; have q_2 := QA.out.c2; have q_l := QA.out.lt; replace O := OA; have Q := QA; replace BB := BA; clear OA QA BA HD)
    | (go_at_call 15; (with_reducible refine (K1.out _).mono ?_); rintro e w' ⟨rfl, rfl⟩; clear K1)
    | (go_at_call 15; (with_reducible refine (K2.out _).mono ?_); rintro e w' ⟨rfl, rfl⟩; clear K2)
    | (go_at_call 15; (with_reducible refine (K3.out _).mono ?_); rintro e w' ⟨rfl, rfl⟩; clear K3)
    | (go_at_call 15; (with_reducible refine (K4.out _).mono ?_); rintro e w' ⟨rfl, rfl⟩; clear K4)
    | (go_at_call 12; (with_reducible refine (A1.out _).mono ?_); rintro e w2 ⟨rfl, b2⟩; replace O := Lib.hid ((O.out.below b2 O.out.lt).alloc (.cells #[.int .i64 x, .int .i64 y, .int .i64 z] 23)); replace Q := Lib.hid ((Q.out.below b2 Q.out.lt).alloc (.cells #[.int .i64 x, .int .i64 y, .int .i64 z] 23)); have C := Lib.hid (Three.new w2 23 (.int .i64 x) (.int .i64 y) (.int .i64 z)); replace BB := Lib.hid (below_more BB.out b2); have Gc := Lib.hid BB.out.size; replace BB := Lib.hid (BB.out.alloc BB.out.size (.cells #[.int .i64 x, .int .i64 y, .int .i64 z] 23)); replace o_0 := O.out.c0; replace o_1 := O.out.c1; replace o_2 := O.out.c2; replace o_l := O.out.lt; replace q_0 := Q.out.c0; replace q_1 := Q.out.c1; replace q_2 := Q.out.c2; replace q_l := Q.out.lt; replace c_0 := C.out.c0; replace c_1 := C.out.c1; replace c_2 := C.out.c2; replace c_l := C.out.lt; clear b2 A1)
    | (go_at_call 12; (with_reducible refine (A2.out _).mono ?_); rintro e w3 ⟨rfl, b3⟩; replace O := Lib.hid ((O.out.below b3 O.out.lt).alloc (.cells #[.int .i64 x', .int .i64 y', .int .i64 z'] 23)); replace Q := Lib.hid ((Q.out.below b3 Q.out.lt).alloc (.cells #[.int .i64 x', .int .i64 y', .int .i64 z'] 23)); replace C := Lib.hid ((C.out.below b3 C.out.lt).alloc (.cells #[.int .i64 x', .int .i64 y', .int .i64 z'] 23)); have D := Lib.hid (Three.new w3 23 (.int .i64 x') (.int .i64 y') (.int .i64 z')); replace BB := Lib.hid (below_more BB.out b3); have Gd := Lib.hid BB.out.size; replace BB := Lib.hid (BB.out.alloc BB.out.size (.cells #[.int .i64 x', .int .i64 y', .int .i64 z'] 23)); replace o_0 := O.out.c0; replace o_1 := O.out.c1; replace o_2 := O.out.c2; replace o_l := O.out.lt; replace q_0 := Q.out.c0; replace q_1 := Q.out.c1; replace q_2 := Q.out.c2; replace q_l := Q.out.lt; replace c_0 := C.out.c0; replace c_1 := C.out.c1; replace c_2 := C.out.c2; replace c_l := C.out.lt; replace d_0 := D.out.c0; replace d_1 := D.out.c1; replace d_2 := D.out.c2; replace d_l := D.out.lt; clear b3 A2))
  go_ret
  exact ⟨by simp, BB.out⟩

set_option maxRecDepth 100000 in
set_option maxHeartbeats 8000000 in
theorem moves_3e (p s r a v m h b n p2 s2 a2 v2 x y z x' y' z' f : Int) (w : World) (HD : Hid HeadIs) (K1 : Hid (FarIs p false)) (K2 : Hid (FarIs s false)) (K3 : Hid (FarIs a false)) (K4 : Hid (FarIs v false)) (b1 : -2147483648 ≤ b) (b2 : b ≤ 2147483647) (n1 : -2147483648 ≤ n) (n2 : n ≤ 2147483647) (gp : 2000000000000 ≤ p ∧ p ≤ 2998000000000000) (gs : 2000000000000 ≤ s ∧ s ≤ 2998000000000000) (ga : 2000000000000 ≤ a ∧ a ≤ 2998000000000000) (gv : 2000000000000 ≤ v ∧ v ≤ 2998000000000000) (hp2 : p + b = p2) (hs2 : s + n = s2) (ha2 : a + b = a2) (hv2 : v + n = v2) (q0 : f ≠ 3) (A1 : Hid (SteerIs p s r a v m h x y z 3)) (A2 : Hid (SteerIs p2 s2 r a2 v2 m h x' y' z' f)) : MovesIs p s r a v m h b n w := by
  obtain ⟨gp1, gp2⟩ := gp
  obtain ⟨gs1, gs2⟩ := gs
  obtain ⟨ga1, ga2⟩ := ga
  obtain ⟨gv1, gv2⟩ := gv
  have q1 : ((3 : Int) == f) = false := by simp; omega
  obtain ⟨W, hW⟩ : ∃ W, (w.alloc (.cells #[.int .i64 p, .int .i64 s, .int .i64 r] 23)) = W := ⟨_, rfl⟩
  have O : Hid (Three W (w.heap.size) 23 (.int .i64 p) (.int .i64 s) (.int .i64 r)) := by
    rw [← hW]
    have k := Three.new w 23 (.int .i64 p) (.int .i64 s) (.int .i64 r)
    exact k
  have BB : Hid (Below w.heap.size w W) := by rw [← hW]; exact below_alloc w _
  have o_0 := O.out.c0
  have o_1 := O.out.c1
  have o_2 := O.out.c2
  have o_l := O.out.lt
  go_enter Try.func7, Try.ntmps7
  go_wp2_with (first
    | (go_at_call 9; (with_reducible refine (HD.out _).mono ?_); rintro e w1 ⟨rfl, b1⟩; replace O := Lib.hid (O.out.below b1 O.out.lt); replace BB := Lib.hid (below_more BB.out b1); replace o_0 := O.out.c0; replace o_1 := O.out.c1; replace o_2 := O.out.c2; replace o_l := O.out.lt; clear b1; have OA := Lib.hid (O.out.alloc (.cells #[.int .i64 p2, .int .i64 s2, .int .i64 r] 23)); have QA := Lib.hid (Three.new w1 23 (.int .i64 p2) (.int .i64 s2) (.int .i64 r)); have BA := Lib.hid (BB.out.alloc BB.out.size (.cells #[.int .i64 p2, .int .i64 s2, .int .i64 r] 23)); have oa_0 := OA.out.c0; have oa_1 := OA.out.c1; have oa_2 := OA.out.c2; have oa_l := OA.out.lt; have q_0 := QA.out.c0; have q_1 := QA.out.c1; have q_2 := QA.out.c2; have q_l := QA.out.lt; replace O := OA; have Q := QA; replace BB := BA; clear OA QA BA HD)
    | (go_at_call 15; (with_reducible refine (K1.out _).mono ?_); rintro e w' ⟨rfl, rfl⟩; clear K1)
    | (go_at_call 15; (with_reducible refine (K2.out _).mono ?_); rintro e w' ⟨rfl, rfl⟩; clear K2)
    | (go_at_call 15; (with_reducible refine (K3.out _).mono ?_); rintro e w' ⟨rfl, rfl⟩; clear K3)
    | (go_at_call 15; (with_reducible refine (K4.out _).mono ?_); rintro e w' ⟨rfl, rfl⟩; clear K4)
    | (go_at_call 12; (with_reducible refine (A1.out _).mono ?_); rintro e w2 ⟨rfl, b2⟩; replace O := Lib.hid ((O.out.below b2 O.out.lt).alloc (.cells #[.int .i64 x, .int .i64 y, .int .i64 z] 23)); replace Q := Lib.hid ((Q.out.below b2 Q.out.lt).alloc (.cells #[.int .i64 x, .int .i64 y, .int .i64 z] 23)); have C := Lib.hid (Three.new w2 23 (.int .i64 x) (.int .i64 y) (.int .i64 z)); replace BB := Lib.hid (below_more BB.out b2); have Gc := Lib.hid BB.out.size; replace BB := Lib.hid (BB.out.alloc BB.out.size (.cells #[.int .i64 x, .int .i64 y, .int .i64 z] 23)); replace o_0 := O.out.c0; replace o_1 := O.out.c1; replace o_2 := O.out.c2; replace o_l := O.out.lt; replace q_0 := Q.out.c0; replace q_1 := Q.out.c1; replace q_2 := Q.out.c2; replace q_l := Q.out.lt; replace c_0 := C.out.c0; replace c_1 := C.out.c1; replace c_2 := C.out.c2; replace c_l := C.out.lt; clear b2 A1)
    | (go_at_call 12; (with_reducible refine (A2.out _).mono ?_); rintro e w3 ⟨rfl, b3⟩; replace O := Lib.hid ((O.out.below b3 O.out.lt).alloc (.cells #[.int .i64 x', .int .i64 y', .int .i64 z'] 23)); replace Q := Lib.hid ((Q.out.below b3 Q.out.lt).alloc (.cells #[.int .i64 x', .int .i64 y', .int .i64 z'] 23)); replace C := Lib.hid ((C.out.below b3 C.out.lt).alloc (.cells #[.int .i64 x', .int .i64 y', .int .i64 z'] 23)); have D := Lib.hid (Three.new w3 23 (.int .i64 x') (.int .i64 y') (.int .i64 z')); replace BB := Lib.hid (below_more BB.out b3); have Gd := Lib.hid BB.out.size; replace BB := Lib.hid (BB.out.alloc BB.out.size (.cells #[.int .i64 x', .int .i64 y', .int .i64 z'] 23)); replace o_0 := O.out.c0; replace o_1 := O.out.c1; replace o_2 := O.out.c2; replace o_l := O.out.lt; replace q_0 := Q.out.c0; replace q_1 := Q.out.c1; replace q_2 := Q.out.c2; replace q_l := Q.out.lt; replace c_0 := C.out.c0; replace c_1 := C.out.c1; replace c_2 := C.out.c2; replace c_l := C.out.lt; replace d_0 := D.out.c0; replace d_1 := D.out.c1; replace d_2 := D.out.c2; replace d_l := D.out.lt; clear b3 A2))
  go_ret
  exact ⟨by simp, BB.out⟩

set_option maxRecDepth 100000 in
set_option maxHeartbeats 8000000 in
theorem moves_y (p s r a v m h b n p2 s2 a2 v2 y z y2 : Int) (w : World) (HD : Hid HeadIs) (K1 : Hid (FarIs p false)) (K2 : Hid (FarIs s false)) (K3 : Hid (FarIs a false)) (K4 : Hid (FarIs v false)) (b1 : -2147483648 ≤ b) (b2 : b ≤ 2147483647) (n1 : -2147483648 ≤ n) (n2 : n ≤ 2147483647) (gp : 2000000000000 ≤ p ∧ p ≤ 2998000000000000) (gs : 2000000000000 ≤ s ∧ s ≤ 2998000000000000) (ga : 2000000000000 ≤ a ∧ a ≤ 2998000000000000) (gv : 2000000000000 ≤ v ∧ v ≤ 2998000000000000) (hp2 : p + b = p2) (hs2 : s + n = s2) (ha2 : a + b = a2) (hv2 : v + n = v2) (K5 : Hid (FarIs y true)) (A1 : Hid (SteerIs p s r a v m h a y z 0)) (A2 : Hid (SteerIs p2 s2 r a2 v2 m h a2 y2 z 0)) : MovesIs p s r a v m h b n w := by
  obtain ⟨gp1, gp2⟩ := gp
  obtain ⟨gs1, gs2⟩ := gs
  obtain ⟨ga1, ga2⟩ := ga
  obtain ⟨gv1, gv2⟩ := gv
  obtain ⟨W, hW⟩ : ∃ W, (w.alloc (.cells #[.int .i64 p, .int .i64 s, .int .i64 r] 23)) = W := ⟨_, rfl⟩
  have O : Hid (Three W (w.heap.size) 23 (.int .i64 p) (.int .i64 s) (.int .i64 r)) := by
    rw [← hW]
    have k := Three.new w 23 (.int .i64 p) (.int .i64 s) (.int .i64 r)
    exact k
  have BB : Hid (Below w.heap.size w W) := by rw [← hW]; exact below_alloc w _
  have o_0 := O.out.c0
  have o_1 := O.out.c1
  have o_2 := O.out.c2
  have o_l := O.out.lt
  go_enter Try.func7, Try.ntmps7
  go_wp2_with (first
    | (go_at_call 9; (with_reducible refine (HD.out _).mono ?_); rintro e w1 ⟨rfl, b1⟩; replace O := Lib.hid (O.out.below b1 O.out.lt); replace BB := Lib.hid (below_more BB.out b1); replace o_0 := O.out.c0; replace o_1 := O.out.c1; replace o_2 := O.out.c2; replace o_l := O.out.lt; clear b1; have OA := Lib.hid (O.out.alloc (.cells #[.int .i64 p2, .int .i64 s2, .int .i64 r] 23)); have QA := Lib.hid (Three.new w1 23 (.int .i64 p2) (.int .i64 s2) (.int .i64 r)); have BA := Lib.hid (BB.out.alloc BB.out.size (.cells #[.int .i64 p2, .int .i64 s2, .int .i64 r] 23)); have oa_0 := OA.out.c0; have oa_1 := OA.out.c1; have oa_2 := OA.out.c2; have oa_l := OA.out.lt; have q_0 := QA.out.c0; have q_1 := QA.out.c1; have q_2 := QA.out.c2; have q_l := QA.out.lt; replace O := OA; have Q := QA; replace BB := BA; clear OA QA BA HD)
    | (go_at_call 15; (with_reducible refine (K1.out _).mono ?_); rintro e w' ⟨rfl, rfl⟩; clear K1)
    | (go_at_call 15; (with_reducible refine (K2.out _).mono ?_); rintro e w' ⟨rfl, rfl⟩; clear K2)
    | (go_at_call 15; (with_reducible refine (K3.out _).mono ?_); rintro e w' ⟨rfl, rfl⟩; clear K3)
    | (go_at_call 15; (with_reducible refine (K4.out _).mono ?_); rintro e w' ⟨rfl, rfl⟩; clear K4)
    | (go_at_call 12; (with_reducible refine (A1.out _).mono ?_); rintro e w2 ⟨rfl, b2⟩; replace O := Lib.hid ((O.out.below b2 O.out.lt).alloc (.cells #[.int .i64 a, .int .i64 y, .int .i64 z] 23)); replace Q := Lib.hid ((Q.out.below b2 Q.out.lt).alloc (.cells #[.int .i64 a, .int .i64 y, .int .i64 z] 23)); have C := Lib.hid (Three.new w2 23 (.int .i64 a) (.int .i64 y) (.int .i64 z)); replace BB := Lib.hid (below_more BB.out b2); have Gc := Lib.hid BB.out.size; replace BB := Lib.hid (BB.out.alloc BB.out.size (.cells #[.int .i64 a, .int .i64 y, .int .i64 z] 23)); replace o_0 := O.out.c0; replace o_1 := O.out.c1; replace o_2 := O.out.c2; replace o_l := O.out.lt; replace q_0 := Q.out.c0; replace q_1 := Q.out.c1; replace q_2 := Q.out.c2; replace q_l := Q.out.lt; replace c_0 := C.out.c0; replace c_1 := C.out.c1; replace c_2 := C.out.c2; replace c_l := C.out.lt; clear b2 A1)
    | (go_at_call 12; (with_reducible refine (A2.out _).mono ?_); rintro e w3 ⟨rfl, b3⟩; replace O := Lib.hid ((O.out.below b3 O.out.lt).alloc (.cells #[.int .i64 a2, .int .i64 y2, .int .i64 z] 23)); replace Q := Lib.hid ((Q.out.below b3 Q.out.lt).alloc (.cells #[.int .i64 a2, .int .i64 y2, .int .i64 z] 23)); replace C := Lib.hid ((C.out.below b3 C.out.lt).alloc (.cells #[.int .i64 a2, .int .i64 y2, .int .i64 z] 23)); have D := Lib.hid (Three.new w3 23 (.int .i64 a2) (.int .i64 y2) (.int .i64 z)); replace BB := Lib.hid (below_more BB.out b3); have Gd := Lib.hid BB.out.size; replace BB := Lib.hid (BB.out.alloc BB.out.size (.cells #[.int .i64 a2, .int .i64 y2, .int .i64 z] 23)); replace o_0 := O.out.c0; replace o_1 := O.out.c1; replace o_2 := O.out.c2; replace o_l := O.out.lt; replace q_0 := Q.out.c0; replace q_1 := Q.out.c1; replace q_2 := Q.out.c2; replace q_l := Q.out.lt; replace c_0 := C.out.c0; replace c_1 := C.out.c1; replace c_2 := C.out.c2; replace c_l := C.out.lt; replace d_0 := D.out.c0; replace d_1 := D.out.c1; replace d_2 := D.out.c2; replace d_l := D.out.lt; clear b3 A2)
    | (go_at_call 15; (with_reducible refine (K5.out _).mono ?_); rintro e w' ⟨rfl, rfl⟩; clear K5))
  go_ret
  exact ⟨by simp, BB.out⟩

set_option maxRecDepth 100000 in
set_option maxHeartbeats 8000000 in
theorem moves_yes (p s r a v m h b n p2 s2 a2 v2 y z y2 l : Int) (w : World) (HD : Hid HeadIs) (K1 : Hid (FarIs p false)) (K2 : Hid (FarIs s false)) (K3 : Hid (FarIs a false)) (K4 : Hid (FarIs v false)) (b1 : -2147483648 ≤ b) (b2 : b ≤ 2147483647) (n1 : -2147483648 ≤ n) (n2 : n ≤ 2147483647) (gp : 2000000000000 ≤ p ∧ p ≤ 2998000000000000) (gs : 2000000000000 ≤ s ∧ s ≤ 2998000000000000) (ga : 2000000000000 ≤ a ∧ a ≤ 2998000000000000) (gv : 2000000000000 ≤ v ∧ v ≤ 2998000000000000) (hp2 : p + b = p2) (hs2 : s + n = s2) (ha2 : a + b = a2) (hv2 : v + n = v2) (hy2 : y + n = y2) (yy : 2000000000000 ≤ y ∧ y ≤ 2998000000000000) (K5 : Hid (FarIs y false)) (A3 : Hid (LeftIs p s r a v m h l 0)) (A4 : Hid (LeftIs p2 s2 r a2 v2 m h l 0)) (A1 : Hid (SteerIs p s r a v m h a y z 0)) (A2 : Hid (SteerIs p2 s2 r a2 v2 m h a2 y2 z 0)) : MovesIs p s r a v m h b n w := by
  obtain ⟨gp1, gp2⟩ := gp
  obtain ⟨gs1, gs2⟩ := gs
  obtain ⟨ga1, ga2⟩ := ga
  obtain ⟨gv1, gv2⟩ := gv
  obtain ⟨yy1, yy2⟩ := yy
  obtain ⟨W, hW⟩ : ∃ W, (w.alloc (.cells #[.int .i64 p, .int .i64 s, .int .i64 r] 23)) = W := ⟨_, rfl⟩
  have O : Hid (Three W (w.heap.size) 23 (.int .i64 p) (.int .i64 s) (.int .i64 r)) := by
    rw [← hW]
    have k := Three.new w 23 (.int .i64 p) (.int .i64 s) (.int .i64 r)
    exact k
  have BB : Hid (Below w.heap.size w W) := by rw [← hW]; exact below_alloc w _
  have o_0 := O.out.c0
  have o_1 := O.out.c1
  have o_2 := O.out.c2
  have o_l := O.out.lt
  go_enter Try.func7, Try.ntmps7
  go_wp2_with (first
    | (go_at_call 9; (with_reducible refine (HD.out _).mono ?_); rintro e w1 ⟨rfl, b1⟩; replace O := Lib.hid (O.out.below b1 O.out.lt); replace BB := Lib.hid (below_more BB.out b1); replace o_0 := O.out.c0; replace o_1 := O.out.c1; replace o_2 := O.out.c2; replace o_l := O.out.lt; clear b1; have OA := Lib.hid (O.out.alloc (.cells #[.int .i64 p2, .int .i64 s2, .int .i64 r] 23)); have QA := Lib.hid (Three.new w1 23 (.int .i64 p2) (.int .i64 s2) (.int .i64 r)); have BA := Lib.hid (BB.out.alloc BB.out.size (.cells #[.int .i64 p2, .int .i64 s2, .int .i64 r] 23)); have oa_0 := OA.out.c0; have oa_1 := OA.out.c1; have oa_2 := OA.out.c2; have oa_l := OA.out.lt; have q_0 := QA.out.c0; have q_1 := QA.out.c1; have q_2 := QA.out.c2; have q_l := QA.out.lt; replace O := OA; have Q := QA; replace BB := BA; clear OA QA BA HD)
    | (go_at_call 15; (with_reducible refine (K1.out _).mono ?_); rintro e w' ⟨rfl, rfl⟩; clear K1)
    | (go_at_call 15; (with_reducible refine (K2.out _).mono ?_); rintro e w' ⟨rfl, rfl⟩; clear K2)
    | (go_at_call 15; (with_reducible refine (K3.out _).mono ?_); rintro e w' ⟨rfl, rfl⟩; clear K3)
    | (go_at_call 15; (with_reducible refine (K4.out _).mono ?_); rintro e w' ⟨rfl, rfl⟩; clear K4)
    | (go_at_call 12; (with_reducible refine (A1.out _).mono ?_); rintro e w2 ⟨rfl, b2⟩; replace O := Lib.hid ((O.out.below b2 O.out.lt).alloc (.cells #[.int .i64 a, .int .i64 y, .int .i64 z] 23)); replace Q := Lib.hid ((Q.out.below b2 Q.out.lt).alloc (.cells #[.int .i64 a, .int .i64 y, .int .i64 z] 23)); have C := Lib.hid (Three.new w2 23 (.int .i64 a) (.int .i64 y) (.int .i64 z)); replace BB := Lib.hid (below_more BB.out b2); have Gc := Lib.hid BB.out.size; replace BB := Lib.hid (BB.out.alloc BB.out.size (.cells #[.int .i64 a, .int .i64 y, .int .i64 z] 23)); replace o_0 := O.out.c0; replace o_1 := O.out.c1; replace o_2 := O.out.c2; replace o_l := O.out.lt; replace q_0 := Q.out.c0; replace q_1 := Q.out.c1; replace q_2 := Q.out.c2; replace q_l := Q.out.lt; replace c_0 := C.out.c0; replace c_1 := C.out.c1; replace c_2 := C.out.c2; replace c_l := C.out.lt; clear b2 A1)
    | (go_at_call 12; (with_reducible refine (A2.out _).mono ?_); rintro e w3 ⟨rfl, b3⟩; replace O := Lib.hid ((O.out.below b3 O.out.lt).alloc (.cells #[.int .i64 a2, .int .i64 y2, .int .i64 z] 23)); replace Q := Lib.hid ((Q.out.below b3 Q.out.lt).alloc (.cells #[.int .i64 a2, .int .i64 y2, .int .i64 z] 23)); replace C := Lib.hid ((C.out.below b3 C.out.lt).alloc (.cells #[.int .i64 a2, .int .i64 y2, .int .i64 z] 23)); have D := Lib.hid (Three.new w3 23 (.int .i64 a2) (.int .i64 y2) (.int .i64 z)); replace BB := Lib.hid (below_more BB.out b3); have Gd := Lib.hid BB.out.size; replace BB := Lib.hid (BB.out.alloc BB.out.size (.cells #[.int .i64 a2, .int .i64 y2, .int .i64 z] 23)); replace o_0 := O.out.c0; replace o_1 := O.out.c1; replace o_2 := O.out.c2; replace o_l := O.out.lt; replace q_0 := Q.out.c0; replace q_1 := Q.out.c1; replace q_2 := Q.out.c2; replace q_l := Q.out.lt; replace c_0 := C.out.c0; replace c_1 := C.out.c1; replace c_2 := C.out.c2; replace c_l := C.out.lt; replace d_0 := D.out.c0; replace d_1 := D.out.c1; replace d_2 := D.out.c2; replace d_l := D.out.lt; clear b3 A2)
    | (go_at_call 15; (with_reducible refine (K5.out _).mono ?_); rintro e w' ⟨rfl, rfl⟩; clear K5)
    | (go_at_call 13; (with_reducible refine (A3.out _).mono ?_); rintro e w4 ⟨rfl, b4⟩; replace O := Lib.hid (O.out.below b4 O.out.lt); replace Q := Lib.hid (Q.out.below b4 Q.out.lt); replace C := Lib.hid (C.out.below b4 C.out.lt); replace D := Lib.hid (D.out.below b4 D.out.lt); replace BB := Lib.hid (below_more BB.out b4); replace o_0 := O.out.c0; replace o_1 := O.out.c1; replace o_2 := O.out.c2; replace o_l := O.out.lt; replace q_0 := Q.out.c0; replace q_1 := Q.out.c1; replace q_2 := Q.out.c2; replace q_l := Q.out.lt; replace c_0 := C.out.c0; replace c_1 := C.out.c1; replace c_2 := C.out.c2; replace c_l := C.out.lt; replace d_0 := D.out.c0; replace d_1 := D.out.c1; replace d_2 := D.out.c2; replace d_l := D.out.lt; clear b4 A3)
    | (go_at_call 13; (with_reducible refine (A4.out _).mono ?_); rintro e w5 ⟨rfl, b5⟩; replace O := Lib.hid (O.out.below b5 O.out.lt); replace Q := Lib.hid (Q.out.below b5 Q.out.lt); replace C := Lib.hid (C.out.below b5 C.out.lt); replace D := Lib.hid (D.out.below b5 D.out.lt); replace BB := Lib.hid (below_more BB.out b5); replace o_0 := O.out.c0; replace o_1 := O.out.c1; replace o_2 := O.out.c2; replace o_l := O.out.lt; replace q_0 := Q.out.c0; replace q_1 := Q.out.c1; replace q_2 := Q.out.c2; replace q_l := Q.out.lt; replace c_0 := C.out.c0; replace c_1 := C.out.c1; replace c_2 := C.out.c2; replace c_l := C.out.lt; replace d_0 := D.out.c0; replace d_1 := D.out.c1; replace d_2 := D.out.c2; replace d_l := D.out.lt; clear b5 A4))
  go_ret
  exact ⟨by simp, BB.out⟩

end Go.Proofs.Ytihfafmockaljaa
