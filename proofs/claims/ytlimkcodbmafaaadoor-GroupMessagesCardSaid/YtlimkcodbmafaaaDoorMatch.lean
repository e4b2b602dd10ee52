/- Layer 6: GroupMatchesReference. -/
import Derived.Laws.StructEq
import Derived.Test.YtlimkcodbmafaaaDoorNats
namespace Go.Proofs.YtlimkcodbmafaaaDoor
open Go.RowKit Go.Sort Go
set_option linter.unusedVariables false
set_option linter.unusedSimpArgs false

theorem equal_sg (a b : Int) (w : World) : (Op.equalIn 10000 23 (.agg #[.int .i64 a, .int .i64 b]) (.agg #[.int .i64 a, .int .i64 b])).run Tryd.prog w = .ok true w := by
  rw [show (10000 : Nat) = 9999 + 1 from rfl, run_equalIn_struct w 9999 23 _ _ (by kernel_rfl) (by kernel_rfl)]
  simp [go_sem]
theorem eql_sg (a b : Int) (w : World) : (binOp .eql 23 (.agg #[.int .i64 a, .int .i64 b]) (.agg #[.int .i64 a, .int .i64 b])).run Tryd.prog w = .ok (.bool true) w := by
  rw [run_eql_struct, equal_sg]; rfl

set_option maxHeartbeats 4000000 in
theorem match_walk (G : Grp) (a b x y c s : Int) (ha : I64 a) (hb : I64 b) (hx : I64 x) (hy : I64 y) (hc : I64 c) (hs : I64 s) (A : Option Addr) (n cap : Nat) (zs : List Int) (w : World) (hr : RowI w.heap.size w A n zs) (hl : n ≤ cap) (hcap : cap ≤ 9223372036854775807) (hn : A = none → cap = 0) (ht : Tab w) :
    Calls Tryd.prog 3 #[.int .i64 a, .int .i64 b, .int .i64 x, .int .i64 y, .agg #[.int .i64 c, .int .i64 s], .slice A n cap] w (Gives (.bool true) w) := by
  have GG := Lib.hid G
  obtain ⟨W, hW⟩ : ∃ W, w.alloc (.cells #[.int .i64 c, .int .i64 s] 23) = W := ⟨_, rfl⟩
  have HT : Hid (Two W w.heap.size 23 (.int .i64 c) (.int .i64 s)) := by rw [← hW]; exact Two.new w _ _ _
  have BW : Hid (Below w.heap.size w W) := by rw [← hW]; exact below_alloc w _
  have lt0 := HT.out.lt
  have OK := Lib.hid (ok_refl (ht.step BW.out))
  obtain ⟨m, hm⟩ : ∃ m, min n 20 = m := ⟨_, rfl⟩
  have FW := Lib.hid (few_any A n cap m hm)
  have R0 := Lib.hid ((row_few hr).step BW.out)
  rw [hm] at R0
  have m1 : m ≤ 20 := by omega
  have HN := Lib.hid hn
  generalize zs.take 20 = l at R0
  clear hr hn ht hm
  have HD := Lib.hid (head_true G W)
  have M1 := Lib.hid (fun w' (o : Ok W w') => fine_of (GG.out.mul a b ha hb w') o)
  have M2 := Lib.hid (fun w' (o : Ok W w') => fine_of (rmul_any a b ha.1 ha.2 hb.1 hb.2 w') o)
  have N1 := Lib.hid (fun w' (o : Ok W w') => fine_of (GG.out.mem a (decide (ElI a)) (by simp) ha w') o)
  have N2 := Lib.hid (fun w' (o : Ok W w') => fine_same (rmember_any a (decide (ElI a)) (by simp) ha.1 ha.2 w') o)
  have X1 := Lib.hid (fun w' (o : Ok W w') => fine_of (GG.out.exp a x ha hx w') o)
  have X2 := Lib.hid (fun w' (o : Ok W w') => fine_of (rexp_any a x ha.1 ha.2 hx.1 hx.2 w') o)
  have S1 := Lib.hid (fun w' (o : Ok W w') => fine_of (GG.out.sign x y hx hy A m cap l w' (R0.out.step o.1) (by omega) HN.out o.2) o)
  have S2 := Lib.hid (fun w' (o : Ok W w') => rsign_any x y hx hy A m cap l w' (R0.out.step o.1) (by omega) HN.out)
  have V1 := Lib.hid (fun w' (o : Ok W w') => GG.out.ver a c s ha hc hs A m cap l w' (R0.out.step o.1) (by omega) HN.out o.2)
  have V2 := Lib.hid (fun w' (o : Ok W w') => rver_any a c s ha hc hs A m cap l w' (R0.out.step o.1) (by omega) HN.out)
  generalize (mulR a b).1 = r1 at M1 M2
  generalize (mulR a b).2 = r2 at M1 M2
  generalize (expR a x).1 = r3 at X1 X2
  generalize (expR a x).2 = r4 at X1 X2
  generalize decide (ElI a) = q1 at N1 N2
  generalize (signR x y l).1 = s1 at S1 S2
  generalize (signR x y l).2.1 = s2 at S1 S2
  generalize (signR x y l).2.2 = s3 at S1 S2
  generalize (verR a c s l).1 = v1 at V1 V2
  generalize (verR a c s l).2 = v2 at V1 V2
  unfold sgV at S1 S2 V1 V2
  have EQ := eql_sg s1 s2
  go_enter Tryd.func3, Tryd.ntmps3
  go_wp2_with (first
    | (go_at_call 9; refine (HD.out _ OK.out).mono ?_; rintro e w1 ⟨rfl, o1⟩; have O1 := Lib.hid o1; clear o1 OK)
    | (go_at_call 10; refine (FW.out _ hl hcap HN.out).mono ?_; rintro e w' ⟨rfl, rfl⟩)
    | (go_at_call 11; refine (M1.out _ O1.out).mono ?_; rintro e w2 ⟨rfl, o2⟩; have O2 := Lib.hid o2; clear o2 O1)
    | (go_at_call 12; refine (M2.out _ O2.out).mono ?_; rintro e w3 ⟨rfl, o3⟩; have O3 := Lib.hid o3; clear o3 O2)
    | (go_at_call 13; refine (N1.out _ O3.out).mono ?_; rintro e w4 ⟨rfl, o4⟩; have O4 := Lib.hid o4; clear o4 O3)
    | (go_at_call 14; refine (N2.out _ O4.out).mono ?_; rintro e w5 ⟨rfl, o5⟩; have O5 := Lib.hid o5; clear o5 O4)
    | (go_at_call 15; refine (X1.out _ O5.out).mono ?_; rintro e w6 ⟨rfl, o6⟩; have O6 := Lib.hid o6; clear o6 O5)
    | (go_at_call 16; refine (X2.out _ O6.out).mono ?_; rintro e w7 ⟨rfl, o7⟩; have O7 := Lib.hid o7; clear o7 O6)
    | (go_at_call 17; refine (S1.out _ O7.out).mono ?_; rintro e w8 ⟨rfl, o8⟩; have O8 := Lib.hid o8; clear o8 O7)
    | (go_at_call 18; refine (S2.out _ (ok_grow O8.out (below_alloc _ _))).mono ?_; rintro e w9 ⟨rfl, b9⟩; refine Hid.out ?_))
  refine Lib.hid ?_
  have o9 := ok_grow (ok_grow O8.out (below_alloc _ (.cells #[.int .i64 s1, .int .i64 s2] 23))) b9
  have T8 : Two w9 w8.heap.size 23 (.int .i64 s1) (.int .i64 s2) := (Two.new w8 _ _ _).below b9 (by simp)
  have T9 : Two w9 w.heap.size 23 (.int .i64 c) (.int .i64 s) := HT.out.below o9.1 lt0
  have k0 := T8.c0
  have k1 := T8.c1
  have k2 := T8.lt
  have k3 := T9.c0
  have k4 := T9.c1
  have k5 := T9.lt
  have O9 := Lib.hid (ok_grow o9 (below_alloc _ (.cells #[.int .i64 s1, .int .i64 s2] 23)))
  have T10 := Lib.hid T9
  clear T8 T9 b9 o9 O8 hW
  go_wp2_with (go_at_call 19; refine (V1.out _ O9.out).mono ?_; rintro e w10 ⟨rfl, b10⟩; refine Hid.out ?_)
  refine Lib.hid ?_
  have O10 := Lib.hid (ok_grow O9.out b10)
  have T11 : Two w10 w.heap.size 23 (.int .i64 c) (.int .i64 s) := HT.out.below O10.out.1 lt0
  have k6 := T11.c0
  have k7 := T11.c1
  have k8 := T11.lt
  clear T11 b10 O9
  go_wp2_with (go_at_call 20; refine (V2.out _ O10.out).mono ?_; rintro e w11 ⟨rfl, b11⟩)
  have O11 := Lib.hid (ok_grow O10.out b11)
  all_goals (go_ret; exact ⟨by first | (simp; done) | (simp; omega), below_more BW.out O11.out.1⟩)

theorem match_law (G : Grp) (a b x y c s : Int) (A : Option Addr) (n cap : Nat) (zs : List Int) (w : World) (ha : (Lit.int .i64 a).wf = true) (hb : (Lit.int .i64 b).wf = true) (hx : (Lit.int .i64 x).wf = true) (hy : (Lit.int .i64 y).wf = true) (hc : I64 c) (hs : I64 s)
    (hr : RowI w.heap.size w A n zs) (hl : n ≤ cap) (hcap : cap ≤ 9223372036854775807) (hn : A = none → cap = 0) (ht : Tab w) :
    Calls Tryd.prog 3 #[.int .i64 a, .int .i64 b, .int .i64 x, .int .i64 y, .agg #[.int .i64 c, .int .i64 s], .slice A n cap] w (Gives (.bool true) w) :=
  match_walk G a b x y c s (i64_wf ha) (i64_wf hb) (i64_wf hx) (i64_wf hy) hc hs A n cap zs w hr hl hcap hn ht
end Go.Proofs.YtlimkcodbmafaaaDoor
