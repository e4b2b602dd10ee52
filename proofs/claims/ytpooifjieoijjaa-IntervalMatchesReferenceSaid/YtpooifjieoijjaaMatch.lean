/- Layer 2: IntervalMatchesReference. -/
import Derived.Test.YtpooifjieoijjaaCovers
import Derived.Test.YtpooifjieoijjaaRMeet
import Derived.Test.YtpooifjieoijjaaRHull
import Derived.Test.YtpooifjieoijjaaRCover
import Derived.Test.YtpooifjieoijjaaRefs2
import Derived.Deep.DeepCutAuto
namespace Go.Proofs.Ytpooifjieoijjaa
open Go.RowKit Go Go.Sort
set_option linter.unusedVariables false

theorem rvalid_grown (a b : Int) (w : World) : Calls Try.prog 15 #[.agg #[.int .i64 a, .int .i64 b]] w fun e w' => e = .returned (.bool (validB (a, b))) ∧ ∃ q os', w' = grow (w.drewN q) os' := by
  by_cases h1 : 0 ≤ a
  · by_cases h2 : a ≤ b
    · by_cases h3 : b ≤ 3000000000000000
      · have e : validB (a, b) = true := by simp [validB, h1, h2, h3]
        rw [e]
        clear e
        go_enter Try.func15, Try.ntmps15
        go_wp2_with fail
        go_ret
        exact ⟨rfl, 0, _, by rw [alloc_eq_grow]; rfl⟩
      · have e : validB (a, b) = false := by simp [validB, h1, h2, h3]
        rw [e]
        clear e
        go_enter Try.func15, Try.ntmps15
        go_wp2_with fail
        go_ret
        exact ⟨rfl, 0, _, by rw [alloc_eq_grow]; rfl⟩
    · have e : validB (a, b) = false := by simp [validB, h1, h2]
      rw [e]
      clear e
      go_enter Try.func15, Try.ntmps15
      go_wp2_with fail
      go_ret
      exact ⟨rfl, 0, _, by rw [alloc_eq_grow]; rfl⟩
  · have e : validB (a, b) = false := by simp [validB, h1]
    rw [e]
    clear e
    go_enter Try.func15, Try.ntmps15
    go_wp2_with fail
    go_ret
    exact ⟨rfl, 0, _, by rw [alloc_eq_grow]; rfl⟩


theorem eql_refl (u v : Int) (w : World) : (binOp .eql 24 (.agg #[.int .i64 u, .int .i64 v]) (.agg #[.int .i64 u, .int .i64 v])).run Try.prog w = .ok (.bool true) w :=
  (eql_iv (u, v) (u, v) w).trans (by simp)

theorem box1 (w : World) (u v : Value) : ∃ W g, w.alloc (.cells #[u, v] 24) = W ∧ w.heap.size = g ∧ Two W g 24 u v ∧ Below w.heap.size w W := ⟨_, _, rfl, rfl, Two.new _ _ _ _, below_alloc _ _⟩
theorem store2 (w : World) (g : Nat) (u v : Value) : ∃ W, (w.setCell ⟨g, 0, none⟩ u).setCell ⟨g, 1, none⟩ v = W ∧ (∀ {u' v' : Value}, Two w g 24 u' v' → Two W g 24 u v) ∧ (∀ (k : Nat) {u' v' : Value}, k ≠ g → Two w k 24 u' v' → Two W k 24 u' v') ∧ (∀ (B : Nat) (w0 : World), B ≤ g → Below B w0 w → Below B w0 W) :=
  ⟨_, rfl, fun h => (h.set0 _).set1 _, fun k _ _ hk h => (h.far (p := ⟨g, 0, none⟩) hk _).far (p := ⟨g, 1, none⟩) hk _, fun B w0 hB h => (h.setCell (p := ⟨g, 0, none⟩) hB _).setCell (p := ⟨g, 1, none⟩) hB _⟩

set_option maxRecDepth 100000 in
set_option maxHeartbeats 4000000 in
theorem match_yes (A : Option Addr) (len cap : Nat) (zs : List (Int × Int)) (a b c d left right x need : Int) (w : World) (hr : Row w.heap.size w A len zs) (hl : len ≤ cap) (hm : cap ≤ 9223372036854775807) (h70 : len ≤ 70) :
    Calls Try.prog 3 #[.slice A len cap, .agg #[.int .i64 a, .int .i64 b], .agg #[.int .i64 c, .int .i64 d], .int .i64 left, .int .i64 right, .int .i64 x, .int .i64 need] w (Gives (.bool true) w) := by
  have HD := Lib.hid head_true
  have HR := Lib.hid hr
  have FE := Lib.hid (few_any A len cap)
  rw [show decide (len ≤ 70) = true by simpa using h70] at FE
  have ME := Lib.hid (meet_any a b c d)
  have MR := Lib.hid (rmeet_any a b c d)
  generalize meetR (a, b) (c, d) = m at ME MR
  obtain ⟨⟨m1, m2⟩, my, me⟩ := m
  have HU := Lib.hid (fun W h => hull_any A len cap zs W h hl hm)
  have HUR := Lib.hid (fun W h => rhull_any A len cap zs W h (by omega))
  generalize hullR zs = u at HU HUR
  obtain ⟨⟨u1, u2⟩, ue⟩ := u
  have GR := Lib.hid (grow_any a b left right)
  have GRR := Lib.hid (rgrow_any a b left right)
  generalize growR (a, b) left right = g at GR GRR
  obtain ⟨⟨g1, g2⟩, ge⟩ := g
  have DE := Lib.hid (fun W h => depth_any A len cap zs x W h (by omega))
  have DER := Lib.hid (fun W h => rdepthE_any A len cap zs x W h (by omega))
  generalize depthR zs x = n at DE DER
  obtain ⟨n1, ne⟩ := n
  have VK := Lib.hid (valid_grown a b)
  have VKR := Lib.hid (rvalid_grown a b)
  generalize validB (a, b) = p at VK VKR
  have ME : Hid (∀ W : World, Calls Try.prog 12 #[.agg #[.int .i64 a, .int .i64 b], .agg #[.int .i64 c, .int .i64 d]] W (Gives (.tuple #[.agg #[.int .i64 m1, .int .i64 m2], .bool my, .int .i64 me]) W)) := ME.out
  have MR : Hid (∀ W : World, Calls Try.prog 13 #[.agg #[.int .i64 a, .int .i64 b], .agg #[.int .i64 c, .int .i64 d]] W (Gives (.tuple #[.agg #[.int .i64 m1, .int .i64 m2], .bool my, .int .i64 me]) W)) := MR.out
  have HU : Hid (∀ W : World, Row W.heap.size W A len zs → Calls Try.prog 16 #[.slice A len cap] W (Gives (.tuple #[.agg #[.int .i64 u1, .int .i64 u2], .int .i64 ue]) W)) := HU.out
  have HUR : Hid (∀ W : World, Row W.heap.size W A len zs → Calls Try.prog 17 #[.slice A len cap] W (Gives (.tuple #[.agg #[.int .i64 u1, .int .i64 u2], .int .i64 ue]) W)) := HUR.out
  have GR : Hid (∀ W : World, Calls Try.prog 18 #[.agg #[.int .i64 a, .int .i64 b], .int .i64 left, .int .i64 right] W (Gives (.tuple #[.agg #[.int .i64 g1, .int .i64 g2], .int .i64 ge]) W)) := GR.out
  have GRR : Hid (∀ W : World, Calls Try.prog 19 #[.agg #[.int .i64 a, .int .i64 b], .int .i64 left, .int .i64 right] W (Gives (.tuple #[.agg #[.int .i64 g1, .int .i64 g2], .int .i64 ge]) W)) := GRR.out
  have DE : Hid (∀ W : World, Row W.heap.size W A len zs → Calls Try.prog 20 #[.slice A len cap, .int .i64 x] W (Gives (.tuple #[.int .i64 n1, .int .i64 ne]) W)) := DE.out
  have DER : Hid (∀ W : World, Row W.heap.size W A len zs → Calls Try.prog 21 #[.slice A len cap, .int .i64 x] W (Gives (.tuple #[.int .i64 n1, .int .i64 ne]) W)) := DER.out
  clear hr
  go_enter Try.func3, Try.ntmps3
  go_wp2_with fail
  obtain ⟨W, e, T8, T9, HB⟩ := boxes2 w (.int .i64 a) (.int .i64 b) (.int .i64 c) (.int .i64 d)
  rw [e]
  clear e
  have T8 := Lib.hid T8
  have T9 := Lib.hid T9
  have B := Lib.hid HB
  clear HB
  refine (HD.out _).mono ?_
  rintro e v1 ⟨rfl, bb⟩
  have T8 := Lib.hid (T8.out.step bb)
  have T9 := Lib.hid (T9.out.step bb)
  have B := Lib.hid (below_more B.out bb)
  clear bb
  go_wp2_with fail
  refine (FE.out _).mono ?_
  rintro e v2 ⟨rfl, bb⟩
  have T8 := Lib.hid (T8.out.step bb)
  have T9 := Lib.hid (T9.out.step bb)
  have B := Lib.hid (below_more B.out bb)
  clear bb
  have T8c0 := T8.out.c0
  have T8c1 := T8.out.c1
  have T8f0 := T8.out.free 0
  have T8f1 := T8.out.free 1
  have T8lt := T8.out.lt
  have T9c0 := T9.out.c0
  have T9c1 := T9.out.c1
  have T9f0 := T9.out.free 0
  have T9f1 := T9.out.free 1
  have T9lt := T9.out.lt
  go_wp2_with fail
  refine (ME.out _).mono ?_
  rintro e v3 ⟨rfl, bb⟩
  have T8 := Lib.hid (T8.out.step bb)
  have T9 := Lib.hid (T9.out.step bb)
  have B := Lib.hid (below_more B.out bb)
  clear bb
  clear T8c0 T8c1 T8f0 T8f1 T8lt T9c0 T9c1 T9f0 T9f1 T9lt
  have T8c0 := T8.out.c0
  have T8c1 := T8.out.c1
  have T9c0 := T9.out.c0
  have T9c1 := T9.out.c1
  have T8lt := T8.out.lt
  have T9lt := T9.out.lt
  go_wp2_with fail
  obtain ⟨W16, g16, e1, e2, T16, bb⟩ := box1 v3 (.int .i64 m1) (.int .i64 m2)
  have hg16 : w.heap.size < g16 := by rw [← e2]; exact T8.out.lt
  rw [e1, e2]
  clear e1 e2
  have T16 := Lib.hid T16
  have T8 := Lib.hid (T8.out.step bb)
  have T9 := Lib.hid (T9.out.step bb)
  have B := Lib.hid (below_more B.out bb)
  clear bb
  clear T8c0 T8c1 T9c0 T9c1 T8lt T9lt
  refine (MR.out _).mono ?_
  rintro e v4 ⟨rfl, bb⟩
  have T8 := Lib.hid (T8.out.step bb)
  have T16 := Lib.hid (T16.out.step bb)
  have B := Lib.hid (below_more B.out bb)
  clear bb
  have T8c0 := T8.out.c0
  have T8c1 := T8.out.c1
  have T8f0 := T8.out.free 0
  have T8f1 := T8.out.free 1
  have T8lt := T8.out.lt
  have T16c0 := T16.out.c0
  have T16c1 := T16.out.c1
  have T16f0 := T16.out.free 0
  have T16f1 := T16.out.free 1
  have T16lt := T16.out.lt
  go_upto_region 6 with fail
  clear T8c0 T8c1 T8f0 T8f1 T8lt T16c0 T16c1 T16f0 T16f1 T16lt
  obtain ⟨W19, g19, e1, e2, T19, bb⟩ := box1 v4 (.int .i64 m1) (.int .i64 m2)
  have hg19 : g16 < g19 := by rw [← e2]; exact T16.out.lt
  rw [e1, e2]
  clear e1 e2
  have T19 := Lib.hid T19
  have T8 := Lib.hid (T8.out.step bb)
  have T16 := Lib.hid (T16.out.step bb)
  have B := Lib.hid (below_more B.out bb)
  clear bb
  have hmx : Try.prog.follows .mixedOrders = true := by kernel_rfl
  have EQ := eql_refl
  go_cut [15] (fun s wx => s = .bool true ∧ Hid (Below W19.heap.size W19 wx))
  case first =>
    have lt8 := T8.out.lt
    have lt16 := T16.out.lt
    have lt19 := T19.out.lt
    have c0 := T8.out.c0
    have c1 := T8.out.c1
    have c2 := T16.out.c0
    have c3 := T16.out.c1
    have c4 := T19.out.c0
    have c5 := T19.out.c1
    have d0 := cell_grown lt8 c0
    have d1 := cell_grown (a := ⟨w.heap.size, 1, none⟩) lt8 c1
    have d2 := cell_grown lt16 c2
    have d3 := cell_grown (a := ⟨g16, 1, none⟩) lt16 c3
    have d4 := cell_grown lt19 c4
    have d5 := cell_grown (a := ⟨g19, 1, none⟩) lt19 c5
    clear T8 T16 T19 B HD FE ME MR HU HUR GR GRR DE DER HR
    cases p with
    | true =>
      refine wp_region_quiet_grown hmx (by kernel_rfl) ?_
      repeat (go_big_quiet_step ((first | (go_at_call 14; refine Calls.grown_of (VK.out _)) | (go_at_call 15; refine Calls.grown_of (VKR.out _)))))
      refine wpQuiet_nil ?_
      intro _ hw'
      obtain ⟨⟨nq, osq⟩, hw''⟩ := hw'
      subst hw''
      have HB2 := Lib.hid (below_grown W19 nq osq)
      clear d0 d1 d2 d3 d4 d5 c0 c1 c2 c3 c4 c5
      go_wp2_with fail
      go_meet
      exact ⟨rfl, HB2.out⟩
    | false =>
      refine wp_region_quiet_grown hmx (by kernel_rfl) ?_
      repeat (go_big_quiet_step ((first | (go_at_call 14; refine Calls.grown_of (VK.out _)) | (go_at_call 15; refine Calls.grown_of (VKR.out _)))))
      refine wpQuiet_nil ?_
      intro _ hw'
      obtain ⟨⟨nq, osq⟩, hw''⟩ := hw'
      subst hw''
      have HB2 := Lib.hid (below_grown W19 nq osq)
      clear d0 d1 d2 d3 d4 d5 c0 c1 c2 c3 c4 c5
      go_wp2_with fail
      go_meet
      exact ⟨rfl, HB2.out⟩
  case rest =>
  obtain ⟨rfl, bb⟩ := hcut
  have T8 := Lib.hid (T8.out.step bb.out)
  have T16 := Lib.hid (T16.out.step bb.out)
  have T19 := Lib.hid (T19.out.step bb.out)
  have B := Lib.hid (below_more B.out bb.out)
  clear bb
  obtain ⟨w6, rfl⟩ : ∃ w6 : World, w6 = wc := ⟨_, rfl⟩
  go_wp2_with fail
  refine (HU.out _ ((HR.out.below B.out).more B.out.size)).mono ?_
  rintro e v5 ⟨rfl, bb⟩
  have T8 := Lib.hid (T8.out.step bb)
  have T16 := Lib.hid (T16.out.step bb)
  have T19 := Lib.hid (T19.out.step bb)
  have B := Lib.hid (below_more B.out bb)
  clear bb
  have T8c0 := T8.out.c0
  have T8c1 := T8.out.c1
  have T8f0 := T8.out.free 0
  have T8f1 := T8.out.free 1
  have T8lt := T8.out.lt
  have T16c0 := T16.out.c0
  have T16c1 := T16.out.c1
  have T16f0 := T16.out.free 0
  have T16f1 := T16.out.free 1
  have T16lt := T16.out.lt
  have T19c0 := T19.out.c0
  have T19c1 := T19.out.c1
  have T19f0 := T19.out.free 0
  have T19f1 := T19.out.free 1
  have T19lt := T19.out.lt
  go_wp2_with fail
  clear T8c0 T8c1 T8f0 T8f1 T8lt T16c0 T16c1 T16f0 T16f1 T16lt T19c0 T19c1 T19f0 T19f1 T19lt
  obtain ⟨X1, e1, s1, s2, s3⟩ := store2 v5 g16 (.int .i64 u1) (.int .i64 u2)
  rw [e1]
  clear e1
  have T16 := Lib.hid (s1 T16.out)
  have T8 := Lib.hid (s2 w.heap.size (by omega) T8.out)
  have T19 := Lib.hid (s2 g19 (by omega) T19.out)
  have B := Lib.hid (s3 _ _ (by omega) B.out)
  clear s1 s2 s3
  refine (HUR.out _ ((HR.out.below B.out).more B.out.size)).mono ?_
  rintro e v6 ⟨rfl, bb⟩
  have T8 := Lib.hid (T8.out.step bb)
  have T16 := Lib.hid (T16.out.step bb)
  have T19 := Lib.hid (T19.out.step bb)
  have B := Lib.hid (below_more B.out bb)
  clear bb
  have T8c0 := T8.out.c0
  have T8c1 := T8.out.c1
  have T8f0 := T8.out.free 0
  have T8f1 := T8.out.free 1
  have T8lt := T8.out.lt
  have T16c0 := T16.out.c0
  have T16c1 := T16.out.c1
  have T16f0 := T16.out.free 0
  have T16f1 := T16.out.free 1
  have T16lt := T16.out.lt
  have T19c0 := T19.out.c0
  have T19c1 := T19.out.c1
  have T19f0 := T19.out.free 0
  have T19f1 := T19.out.free 1
  have T19lt := T19.out.lt
  go_upto_region 9 with fail
  clear T8c0 T8c1 T8f0 T8f1 T8lt T16c0 T16c1 T16f0 T16f1 T16lt T19c0 T19c1 T19f0 T19f1 T19lt
  obtain ⟨X2, e1, s1, s2, s3⟩ := store2 v6 g19 (.int .i64 u1) (.int .i64 u2)
  rw [e1]
  clear e1
  have T19 := Lib.hid (s1 T19.out)
  have T8 := Lib.hid (s2 w.heap.size (by omega) T8.out)
  have T16 := Lib.hid (s2 g16 (by omega) T16.out)
  have B := Lib.hid (s3 _ _ (by omega) B.out)
  clear s1 s2 s3
  have T8c0 := T8.out.c0
  have T8c1 := T8.out.c1
  have T8f0 := T8.out.free 0
  have T8f1 := T8.out.free 1
  have T8lt := T8.out.lt
  have T16c0 := T16.out.c0
  have T16c1 := T16.out.c1
  have T16f0 := T16.out.free 0
  have T16f1 := T16.out.free 1
  have T16lt := T16.out.lt
  have T19c0 := T19.out.c0
  have T19c1 := T19.out.c1
  have T19f0 := T19.out.free 0
  have T19f1 := T19.out.free 1
  have T19lt := T19.out.lt
  go_wp2_with fail
  clear T8c0 T8c1 T8f0 T8f1 T8lt T16c0 T16c1 T16f0 T16f1 T16lt T19c0 T19c1 T19f0 T19f1 T19lt
  refine (GR.out _).mono ?_
  rintro e v7 ⟨rfl, bb⟩
  have T8 := Lib.hid (T8.out.step bb)
  have T16 := Lib.hid (T16.out.step bb)
  have T19 := Lib.hid (T19.out.step bb)
  have B := Lib.hid (below_more B.out bb)
  clear bb
  have T8c0 := T8.out.c0
  have T8c1 := T8.out.c1
  have T8f0 := T8.out.free 0
  have T8f1 := T8.out.free 1
  have T8lt := T8.out.lt
  have T16c0 := T16.out.c0
  have T16c1 := T16.out.c1
  have T16f0 := T16.out.free 0
  have T16f1 := T16.out.free 1
  have T16lt := T16.out.lt
  have T19c0 := T19.out.c0
  have T19c1 := T19.out.c1
  have T19f0 := T19.out.free 0
  have T19f1 := T19.out.free 1
  have T19lt := T19.out.lt
  go_wp2_with fail
  clear T8c0 T8c1 T8f0 T8f1 T8lt T16c0 T16c1 T16f0 T16f1 T16lt T19c0 T19c1 T19f0 T19f1 T19lt
  obtain ⟨X3, e1, s1, s2, s3⟩ := store2 v7 g16 (.int .i64 g1) (.int .i64 g2)
  rw [e1]
  clear e1
  have T16 := Lib.hid (s1 T16.out)
  have T8 := Lib.hid (s2 w.heap.size (by omega) T8.out)
  have T19 := Lib.hid (s2 g19 (by omega) T19.out)
  have B := Lib.hid (s3 _ _ (by omega) B.out)
  clear s1 s2 s3
  refine (GRR.out _).mono ?_
  rintro e v8 ⟨rfl, bb⟩
  have T8 := Lib.hid (T8.out.step bb)
  have T16 := Lib.hid (T16.out.step bb)
  have T19 := Lib.hid (T19.out.step bb)
  have B := Lib.hid (below_more B.out bb)
  clear bb
  have T8c0 := T8.out.c0
  have T8c1 := T8.out.c1
  have T8f0 := T8.out.free 0
  have T8f1 := T8.out.free 1
  have T8lt := T8.out.lt
  have T16c0 := T16.out.c0
  have T16c1 := T16.out.c1
  have T16f0 := T16.out.free 0
  have T16f1 := T16.out.free 1
  have T16lt := T16.out.lt
  have T19c0 := T19.out.c0
  have T19c1 := T19.out.c1
  have T19f0 := T19.out.free 0
  have T19f1 := T19.out.free 1
  have T19lt := T19.out.lt
  go_upto_region 12 with fail
  clear T8c0 T8c1 T8f0 T8f1 T8lt T16c0 T16c1 T16f0 T16f1 T16lt T19c0 T19c1 T19f0 T19f1 T19lt
  obtain ⟨X4, e1, s1, s2, s3⟩ := store2 v8 g19 (.int .i64 g1) (.int .i64 g2)
  rw [e1]
  clear e1
  have T19 := Lib.hid (s1 T19.out)
  have T8 := Lib.hid (s2 w.heap.size (by omega) T8.out)
  have T16 := Lib.hid (s2 g16 (by omega) T16.out)
  have B := Lib.hid (s3 _ _ (by omega) B.out)
  clear s1 s2 s3
  have T8c0 := T8.out.c0
  have T8c1 := T8.out.c1
  have T8f0 := T8.out.free 0
  have T8f1 := T8.out.free 1
  have T8lt := T8.out.lt
  have T16c0 := T16.out.c0
  have T16c1 := T16.out.c1
  have T16f0 := T16.out.free 0
  have T16f1 := T16.out.free 1
  have T16lt := T16.out.lt
  have T19c0 := T19.out.c0
  have T19c1 := T19.out.c1
  have T19f0 := T19.out.free 0
  have T19f1 := T19.out.free 1
  have T19lt := T19.out.lt
  go_wp2_with fail
  clear T8c0 T8c1 T8f0 T8f1 T8lt T16c0 T16c1 T16f0 T16f1 T16lt T19c0 T19c1 T19f0 T19f1 T19lt
  refine (DE.out _ ((HR.out.below B.out).more B.out.size)).mono ?_
  rintro e v9 ⟨rfl, bb⟩
  have B := Lib.hid (below_more B.out bb)
  clear bb
  go_wp2_with fail
  refine (DER.out _ ((HR.out.below B.out).more B.out.size)).mono ?_
  rintro e v10 ⟨rfl, bb⟩
  have B := Lib.hid (below_more B.out bb)
  clear bb
  by_cases hv : okList zs = true ∧ 1 ≤ need ∧ need ≤ 64
  · obtain ⟨ho, q1, q2⟩ := hv
    have HO := Lib.hid ho
    clear ho
    go_wp2_with fail
    refine (cover_ok A len cap zs need v10 ((HR.out.below B.out).more B.out.size) HO.out q1 q2).mono ?_
    rintro e v20 ⟨A5, cap5, xs, rfl, hX, hx5, hC, bb⟩
    have HX := Lib.hid hX
    have HC := Lib.hid hC
    have B := Lib.hid (below_more B.out bb)
    clear hX hC bb
    go_wp2_with fail
    refine (rcover_ok A len cap zs need v20 ((HR.out.below B.out).more B.out.size) HO.out q1 q2).mono ?_
    rintro e v21 ⟨A6, cap6, ys, rfl, hY, hy6, hC2, bb⟩
    obtain rfl : ys = xs := cover_unique hC2 HC.out (fun _ => rfl)
    have HX := Lib.hid (HX.out.step bb)
    have HY := Lib.hid hY
    have B := Lib.hid (below_more B.out bb)
    clear hY hC2 bb HC
    have SA := Lib.hid (rsame_any A5 A6 ys.length ys.length cap5 cap6 ys ys v21 HX.out HY.out (by omega) (by omega))
    rw [show decide (ys = ys) = true by simp] at SA
    go_wp2_with fail
    refine SA.out.mono ?_
    rintro e v22 ⟨rfl, bb⟩
    have B := Lib.hid (below_more B.out bb)
    clear bb
    go_wp2_with fail
    go_ret
    exact ⟨rfl, B.out⟩
  · have hv' : okList zs = false ∨ need < 1 ∨ 64 < need := by
      cases ho : okList zs with
      | false => exact .inl rfl
      | true => exact .inr (by rw [ho] at hv; simp at hv; omega)
    have HV := Lib.hid hv'
    clear hv hv'
    go_wp2_with fail
    refine (cover_no A len cap zs need v10 ((HR.out.below B.out).more B.out.size) (by omega) HV.out).mono ?_
    rintro e v20 ⟨rfl, bb⟩
    have B := Lib.hid (below_more B.out bb)
    clear bb
    go_wp2_with fail
    refine (rcover_no A len cap zs need v20 ((HR.out.below B.out).more B.out.size) (by omega) HV.out).mono ?_
    rintro e v21 ⟨rfl, bb⟩
    have B := Lib.hid (below_more B.out bb)
    clear bb
    have SA := Lib.hid (rsame_any none none 0 0 0 0 [] [] v21 ⟨rfl, fun h => by omega⟩ ⟨rfl, fun h => by omega⟩ (by omega) (by omega))
    rw [show decide (([] : List (Int × Int)) = []) = true by simp] at SA
    go_wp2_with fail
    refine SA.out.mono ?_
    rintro e v22 ⟨rfl, bb⟩
    have B := Lib.hid (below_more B.out bb)
    clear bb
    go_wp2_with fail
    go_ret
    exact ⟨rfl, B.out⟩

theorem match_law (A : Option Addr) (len cap : Nat) (zs : List (Int × Int)) (a b c d left right x need : Int) (w : World) (hr : Row w.heap.size w A len zs) (hl : len ≤ cap) (hm : cap ≤ 9223372036854775807) (_ : (Lit.int .i64 left).wf = true) (_ : (Lit.int .i64 right).wf = true) (_ : (Lit.int .i64 x).wf = true) (_ : (Lit.int .i64 need).wf = true) :
    Calls Try.prog 3 #[.slice A len cap, .agg #[.int .i64 a, .int .i64 b], .agg #[.int .i64 c, .int .i64 d], .int .i64 left, .int .i64 right, .int .i64 x, .int .i64 need] w (Gives (.bool true) w) := by
  by_cases h70 : len ≤ 70
  · exact match_yes A len cap zs a b c d left right x need w hr hl hm h70
  · have HD := Lib.hid head_true
    have FE := Lib.hid (few_any A len cap)
    rw [show decide (len ≤ 70) = false by simpa using h70] at FE
    clear hr
    go_enter Try.func3, Try.ntmps3
    go_wp2_with fail
    obtain ⟨W, e, T8, T9, HB⟩ := boxes2 w (.int .i64 a) (.int .i64 b) (.int .i64 c) (.int .i64 d)
    rw [e]
    clear e T8 T9
    have B := Lib.hid HB
    clear HB
    refine (HD.out _).mono ?_
    rintro e v1 ⟨rfl, bb⟩
    have B := Lib.hid (below_more B.out bb)
    clear bb
    go_wp2_with fail
    refine (FE.out _).mono ?_
    rintro e v2 ⟨rfl, bb⟩
    have B := Lib.hid (below_more B.out bb)
    clear bb
    go_wp2_with fail
    go_ret
    exact ⟨rfl, B.out⟩
end Go.Proofs.Ytpooifjieoijjaa
