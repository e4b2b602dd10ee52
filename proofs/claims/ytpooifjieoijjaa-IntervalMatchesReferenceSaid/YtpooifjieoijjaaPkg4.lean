/- Layer 2: Hull at any list, Depth and Grow of package interval. -/
import Derived.Test.YtpooifjieoijjaaPkg2
import Derived.Test.YtpooifjieoijjaaPkg3
namespace Go.Proofs.Ytpooifjieoijjaa
open Go.RowKit Go
set_option linter.unusedVariables false

theorem hull_none (A : Option Addr) (len cap : Nat) (zs : List (Int × Int)) (w : World) (hr : Row w.heap.size w A len zs) (hm : len ≤ 9223372036854775807) (h : okList zs = false ∨ len = 0) :
    Calls Try.prog 16 #[.slice A len cap] w (Gives (.tuple #[ivV (0, 0), .int .i64 1]) w) := by
  have V : Hid (Calls Try.prog 28 #[.slice A len cap] (w.alloc (.cells #[.int .i64 0, .int .i64 0] 24)) (Gives (.bool (okList zs)) (w.alloc (.cells #[.int .i64 0, .int .i64 0] 24)))) :=
    validList_any A len cap zs _ ((hr.below (below_alloc w _)).more (by simp)) (by omega)
  clear hr
  cases ho : okList zs with
  | false =>
    have HO : Hid _ := ho
    clear ho h
    go_enter Try.func16, Try.ntmps16
    go_wp2_with fail
    refine V.out.mono ?_
    rintro e w1 ⟨rfl, b1⟩
    rw [HO.out]
    have hb : Below w.heap.size w w1 := (below_alloc w _).trans (b1.mono (by simp))
    have T0 : Two w1 w.heap.size 24 (.int .i64 0) (.int .i64 0) := (Two.new w _ _ _).below b1 (by simp)
    clear b1
    have t0 := T0.c0
    have t1 := T0.c1
    have t2 := T0.free 0
    have t3 := T0.free 1
    have t4 := T0.lt
    go_wp2_with fail
    refine bodyPost_ret (v := .tuple #[.agg #[.int .i64 0, .int .i64 0], .int .i64 1]) (by simp [results, Try.results16, go_sem, t0, t1]) rfl ⟨rfl, ?_⟩
    exact (hb.setCell (p := ⟨w.heap.size, 0, none⟩) (by simp) _).setCell (p := ⟨w.heap.size, 1, none⟩) (by simp) _
  | true =>
    have h0 : len = 0 := by simpa [ho] using h
    subst h0
    have HO : Hid _ := ho
    clear ho h
    go_enter Try.func16, Try.ntmps16
    go_wp2_with fail
    refine V.out.mono ?_
    rintro e w1 ⟨rfl, b1⟩
    rw [HO.out]
    have hb : Below w.heap.size w w1 := (below_alloc w _).trans (b1.mono (by simp))
    have T0 : Two w1 w.heap.size 24 (.int .i64 0) (.int .i64 0) := (Two.new w _ _ _).below b1 (by simp)
    clear b1
    have t0 := T0.c0
    have t1 := T0.c1
    have t2 := T0.free 0
    have t3 := T0.free 1
    have t4 := T0.lt
    go_wp2_with fail
    refine bodyPost_ret (v := .tuple #[.agg #[.int .i64 0, .int .i64 0], .int .i64 1]) (by simp [results, Try.results16, go_sem, t0, t1]) rfl ⟨rfl, ?_⟩
    exact (hb.setCell (p := ⟨w.heap.size, 0, none⟩) (by simp) _).setCell (p := ⟨w.heap.size, 1, none⟩) (by simp) _

theorem hull_any (A : Option Addr) (len cap : Nat) (zs : List (Int × Int)) (w : World) (hr : Row w.heap.size w A len zs) (hl : len ≤ cap) (hm : cap ≤ 9223372036854775807) :
    Calls Try.prog 16 #[.slice A len cap] w (Gives (.tuple #[ivV (hullR zs).1, .int .i64 (hullR zs).2]) w) := by
  cases ho : okList zs with
  | false =>
    have e : hullR zs = ((0, 0), 1) := by unfold hullR; rw [ho]; rfl
    rw [e]; exact hull_none A len cap zs w hr (by omega) (.inl ho)
  | true =>
    cases zs with
    | nil => exact hull_none A len cap [] w hr (by omega) (.inr hr.1.symm)
    | cons x r =>
      obtain ⟨p, rfl, _, _⟩ := hr.2 (by have := hr.1; simp at this; omega)
      have e : hullR (x :: r) = (r.foldl widen x, 0) := by unfold hullR; rw [ho]; rfl
      rw [e]
      exact hull_yes p len cap (x :: r) w hr hl hm x r rfl ho

def inB (i : Int × Int) (x : Int) : Bool := decide (i.1 ≤ x) && decide (x ≤ i.2)
def depthN (zs : List (Int × Int)) (x : Int) : Nat := zs.countP (inB · x)
def depthR (zs : List (Int × Int)) (x : Int) : Int × Int := if okList zs = true then ((depthN zs x : Int), 0) else (0, 1)

theorem depthN_le (zs : List (Int × Int)) (x : Int) : depthN zs x ≤ zs.length := List.countP_le_length

set_option maxHeartbeats 1000000 in
theorem depth_any (A : Option Addr) (len cap : Nat) (zs : List (Int × Int)) (x : Int) (w : World) (hr : Row w.heap.size w A len zs) (hm : len ≤ 9223372036854775807) :
    Calls Try.prog 20 #[.slice A len cap, .int .i64 x] w (Gives (.tuple #[.int .i64 (depthR zs x).1, .int .i64 (depthR zs x).2]) w) := by
  have V : Hid (Calls Try.prog 28 #[.slice A len cap] w (Gives (.bool (okList zs)) w)) := validList_any A len cap zs _ hr (by omega)
  have HR : Hid (Row w.heap.size w A len zs) := hr
  have HL : Hid (zs.length = len) := hr.1
  clear hr
  cases ho : okList zs with
  | false =>
    have HE : Hid (depthR zs x = (0, 1)) := by show depthR zs x = _; rw [depthR, ho]; rfl
    have HO : Hid _ := ho
    clear ho
    go_enter Try.func20, Try.ntmps20
    go_wp2_with fail
    refine V.out.mono ?_
    rintro e w1 ⟨rfl, b1⟩
    rw [HO.out]
    go_wp2_with fail
    go_ret2
    exact ⟨by rw [HE.out]; rfl, b1⟩
  | true =>
    have HE : Hid (depthR zs x = ((depthN zs x : Int), 0)) := by show depthR zs x = _; rw [depthR, ho]; rfl
    have HO : Hid _ := ho
    clear ho
    go_enter Try.func20, Try.ntmps20
    go_wp2_with fail
    refine V.out.mono ?_
    rintro e w1 ⟨rfl, b1⟩
    rw [HO.out]
    go_wp2_with fail
    go_loopw [6, 14] (fun d i wr => ∃ k n : Nat, k ≤ len ∧ n ≤ k ∧ i = .int .i64 k ∧ d = .int .i64 n ∧ Hid (n = depthN (zs.take k) x) ∧ Below w.heap.size w wr) (fun _ i _ => len - (intOf i).toNat)
    case atStart => exact ⟨0, 0, Nat.zero_le _, Nat.zero_le _, rfl, rfl, rfl, b1⟩
    case round =>
      obtain ⟨k, n, hk, hn, rfl, rfl, HN, hb⟩ := hrel
      by_cases hlt : k < len
      · obtain ⟨p, rfl, hp, hc⟩ := (HR.out.below hb).2 (by omega)
        obtain ⟨c1, c2⟩ := hc k hlt
        clear hc
        have HS : Hid _ := take_snoc zs (0, 0) k (by rw [HL.out]; exact hlt)
        generalize hy : zs.getD k (0, 0) = y at c1 c2 HS
        clear hy
        rcases Int.lt_or_le x y.1 with q1 | q1
        · go_wp2_with fail
          go_roundw
          case rel =>
            refine ⟨k + 1, n, by omega, by omega, by go_num, rfl, ?_, hb.alloc hb.size _⟩
            show n = depthN (zs.take (k + 1)) x
            rw [HS.out, HN.out, depthN, depthN, List.countP_append]
            have : ¬ y.1 ≤ x := by omega
            simp [inB, this]
          case measure => simp [intOf]; omega
        · rcases Int.lt_or_le y.2 x with q2 | q2
          · go_wp2_with fail
            go_roundw
            case rel =>
              refine ⟨k + 1, n, by omega, by omega, by go_num, rfl, ?_, hb.alloc hb.size _⟩
              show n = depthN (zs.take (k + 1)) x
              rw [HS.out, HN.out, depthN, depthN, List.countP_append]
              have : ¬ x ≤ y.2 := by omega
              simp [inB, this]
            case measure => simp [intOf]; omega
          · go_wp2_with fail
            go_roundw
            case rel =>
              refine ⟨k + 1, n + 1, by omega, by omega, by go_num, by go_num, ?_, hb.alloc hb.size _⟩
              show n + 1 = depthN (zs.take (k + 1)) x
              rw [HS.out, HN.out, depthN, depthN, List.countP_append]
              simp [inB, q1, q2]
            case measure => simp [intOf]; omega
      · obtain rfl : k = len := by omega
        have hE : n = depthN zs x := by rw [HN.out, List.take_of_length_le (by have := HL.out; omega)]
        have HF : Hid _ := hE
        clear hE
        go_wp2_with fail
        go_ret2
        exact ⟨by rw [HE.out, ← HF.out]; rfl, hb⟩

def timeB (x : Int) : Bool := decide (0 ≤ x) && decide (x ≤ 3000000000000000)
theorem timeB_yes {x : Int} (h : timeB x = true) : 0 ≤ x ∧ x ≤ 3000000000000000 := by simpa [timeB] using h
theorem isTime_any (x : Int) (w : World) : Calls Try.prog 29 #[.int .i64 x] w fun e w' => e = .returned (.bool (timeB x)) ∧ w = w' := by
  by_cases h1 : 0 ≤ x
  · by_cases h2 : x ≤ 3000000000000000
    · have e : timeB x = true := by simp [timeB, h1, h2]
      rw [e]; clear e
      go_enter Try.func29, Try.ntmps29
      go_wp2_with fail
      go_ret
      exact ⟨rfl, rfl⟩
    · have e : timeB x = false := by simp [timeB, h1, h2]
      rw [e]; clear e
      go_enter Try.func29, Try.ntmps29
      go_wp2_with fail
      go_ret
      exact ⟨rfl, rfl⟩
  · have e : timeB x = false := by simp [timeB, h1]
    rw [e]; clear e
    go_enter Try.func29, Try.ntmps29
    go_wp2_with fail
    go_ret
    exact ⟨rfl, rfl⟩

def growR (i : Int × Int) (l r : Int) : (Int × Int) × Int :=
  if validB i = true ∧ timeB l = true ∧ timeB r = true then ((max (i.1 - l) 0, min (i.2 + r) 3000000000000000), 0) else ((0, 0), 1)

theorem growR_no {i : Int × Int} {l r : Int} (h : ¬ (validB i = true ∧ timeB l = true ∧ timeB r = true)) : growR i l r = ((0, 0), 1) := by rw [growR, if_neg h]

set_option maxHeartbeats 1000000 in
theorem grow_any (a b l r : Int) (w : World) : Calls Try.prog 18 #[.agg #[.int .i64 a, .int .i64 b], .int .i64 l, .int .i64 r] w
    (Gives (.tuple #[ivV (growR (a, b) l r).1, .int .i64 (growR (a, b) l r).2]) w) := by
  have V : Hid (∀ (a b : Int) (w : World), Calls Try.prog 14 #[.agg #[.int .i64 a, .int .i64 b]] w (Gives (.bool (validB (a, b))) w)) := valid_any
  have I : Hid (∀ (x : Int) (w : World), Calls Try.prog 29 #[.int .i64 x] w fun e w' => e = .returned (.bool (timeB x)) ∧ w = w') := isTime_any
  have bel : ∀ (W1 : World), Below (w.heap.size + 1 + 1) ((w.alloc (.cells #[.int .i64 a, .int .i64 b] 24)).alloc (.cells #[.int .i64 0, .int .i64 0] 24)) W1 → Below w.heap.size w W1 := fun W1 h => ((below_alloc w _).alloc (by simp) _).trans (h.mono (by omega))
  have BEL : Hid _ := bel
  clear bel
  cases hv : validB (a, b) with
  | false =>
    have HE : Hid (growR (a, b) l r = ((0, 0), 1)) := growR_no (by simp [hv])
    have HV : Hid _ := hv
    clear hv
    go_enter Try.func18, Try.ntmps18
    go_wp2_with fail
    refine (V.out _ _ _).mono ?_
    rintro e w1 ⟨rfl, b1⟩
    rw [HV.out]
    have T0 : Two w1 (w.heap.size + 1) 24 (.int .i64 0) (.int .i64 0) := Two.below (by have := Two.new (w.alloc (.cells #[.int .i64 a, .int .i64 b] 24)) 24 (.int .i64 0) (.int .i64 0); rwa [World.size_alloc] at this) b1 (by simp)
    have hb := BEL.out _ (b1.mono (by simp))
    clear b1
    have t0 := T0.c0
    have t1 := T0.c1
    have t2 := T0.free 0
    have t3 := T0.free 1
    have t4 := T0.lt
    go_wp2_with fail
    refine bodyPost_ret (v := .tuple #[.agg #[.int .i64 0, .int .i64 0], .int .i64 1]) (by simp [results, Try.results18, go_sem, t0, t1]) rfl ⟨by rw [HE.out]; rfl, ?_⟩
    exact (hb.setCell (p := ⟨w.heap.size + 1, 0, none⟩) (by simp) _).setCell (p := ⟨w.heap.size + 1, 1, none⟩) (by simp) _
  | true =>
    have HV : Hid _ := hv
    have hv' := validB_yes hv
    cases hl : timeB l with
    | false =>
      have HE : Hid (growR (a, b) l r = ((0, 0), 1)) := growR_no (by simp [hl])
      have HL : Hid _ := hl
      clear hl hv hv'
      go_enter Try.func18, Try.ntmps18
      go_wp2_with fail
      refine (V.out _ _ _).mono ?_
      rintro e w1 ⟨rfl, b1⟩
      rw [HV.out]
      have T0 : Two w1 (w.heap.size + 1) 24 (.int .i64 0) (.int .i64 0) := Two.below (by have := Two.new (w.alloc (.cells #[.int .i64 a, .int .i64 b] 24)) 24 (.int .i64 0) (.int .i64 0); rwa [World.size_alloc] at this) b1 (by simp)
      have k1 : w1.cell? ⟨w.heap.size, 0, none⟩ = some (.int .i64 a) := keepC b1 (by go_cell)
      have k2 : w1.cell? ⟨w.heap.size, 1, none⟩ = some (.int .i64 b) := keepC b1 (by go_cell)
      have hb := BEL.out _ (b1.mono (by simp))
      clear b1
      have t0 := T0.c0
      have t1 := T0.c1
      have t2 := T0.free 0
      have t3 := T0.free 1
      have t4 := T0.lt
      go_wp2_with fail
      refine (I.out _ _).mono ?_
      rintro e w2 ⟨rfl, rfl⟩
      rw [HL.out]
      go_wp2_with fail
      refine bodyPost_ret (v := .tuple #[.agg #[.int .i64 (0), .int .i64 (0)], .int .i64 1]) (by simp [results, Try.results18, go_sem, t0, t1]) rfl ⟨by rw [HE.out]; rfl, ?_⟩
      exact (hb.setCell (p := ⟨w.heap.size + 1, 0, none⟩) (by simp) _).setCell (p := ⟨w.heap.size + 1, 1, none⟩) (by simp) _
    | true =>
      have HL : Hid _ := hl
      have hl' := timeB_yes hl
      cases hr : timeB r with
      | false =>
        have HE : Hid (growR (a, b) l r = ((0, 0), 1)) := growR_no (by simp [hr])
        have HR : Hid _ := hr
        clear hl hv hv' hr hl'
        go_enter Try.func18, Try.ntmps18
        go_wp2_with fail
        refine (V.out _ _ _).mono ?_
        rintro e w1 ⟨rfl, b1⟩
        rw [HV.out]
        have T0 : Two w1 (w.heap.size + 1) 24 (.int .i64 0) (.int .i64 0) := Two.below (by have := Two.new (w.alloc (.cells #[.int .i64 a, .int .i64 b] 24)) 24 (.int .i64 0) (.int .i64 0); rwa [World.size_alloc] at this) b1 (by simp)
        have k1 : w1.cell? ⟨w.heap.size, 0, none⟩ = some (.int .i64 a) := keepC b1 (by go_cell)
        have k2 : w1.cell? ⟨w.heap.size, 1, none⟩ = some (.int .i64 b) := keepC b1 (by go_cell)
        have hb := BEL.out _ (b1.mono (by simp))
        clear b1
        have t0 := T0.c0
        have t1 := T0.c1
        have t2 := T0.free 0
        have t3 := T0.free 1
        have t4 := T0.lt
        go_wp2_with fail
        refine (I.out _ _).mono ?_
        rintro e w2 ⟨rfl, rfl⟩
        rw [HL.out]
        go_wp2_with fail
        refine (I.out _ _).mono ?_
        rintro e w2 ⟨rfl, rfl⟩
        rw [HR.out]
        go_wp2_with fail
        refine bodyPost_ret (v := .tuple #[.agg #[.int .i64 (0), .int .i64 (0)], .int .i64 1]) (by simp [results, Try.results18, go_sem, t0, t1]) rfl ⟨by rw [HE.out]; rfl, ?_⟩
        exact (hb.setCell (p := ⟨w.heap.size + 1, 0, none⟩) (by simp) _).setCell (p := ⟨w.heap.size + 1, 1, none⟩) (by simp) _
      | true =>
        have HR : Hid _ := hr
        have hr' := timeB_yes hr
        have hg : growR (a, b) l r = ((max (a - l) 0, min (b + r) 3000000000000000), 0) := by rw [growR, if_pos ⟨hv, hl, hr⟩]
        have HG : Hid _ := hg
        clear hl hv hr hg
        obtain ⟨v1, v2, v3⟩ := hv'
        simp only at v1 v2 v3
        obtain ⟨l1, l2⟩ := hl'
        obtain ⟨r1, r2⟩ := hr'
        rcases Int.lt_or_le (a - l) 0 with q1 | q1 <;> rcases Int.lt_or_le 3000000000000000 (b + r) with q2 | q2
        · have HE : Hid (growR (a, b) l r = ((0, 3000000000000000), 0)) := by
              show growR (a, b) l r = _
              rw [HG.out]; congr 2 <;> omega
          go_enter Try.func18, Try.ntmps18
          go_wp2_with fail
          refine (V.out _ _ _).mono ?_
          rintro e w1 ⟨rfl, b1⟩
          rw [HV.out]
          have T0 : Two w1 (w.heap.size + 1) 24 (.int .i64 0) (.int .i64 0) := Two.below (by have := Two.new (w.alloc (.cells #[.int .i64 a, .int .i64 b] 24)) 24 (.int .i64 0) (.int .i64 0); rwa [World.size_alloc] at this) b1 (by simp)
          have k1 : w1.cell? ⟨w.heap.size, 0, none⟩ = some (.int .i64 a) := keepC b1 (by go_cell)
          have k2 : w1.cell? ⟨w.heap.size, 1, none⟩ = some (.int .i64 b) := keepC b1 (by go_cell)
          have hb := BEL.out _ (b1.mono (by simp))
          clear b1
          have t0 := T0.c0
          have t1 := T0.c1
          have t2 := T0.free 0
          have t3 := T0.free 1
          have t4 := T0.lt
          go_wp2_with fail
          refine (I.out _ _).mono ?_
          rintro e w2 ⟨rfl, rfl⟩
          rw [HL.out]
          go_wp2_with fail
          refine (I.out _ _).mono ?_
          rintro e w2 ⟨rfl, rfl⟩
          rw [HR.out]
          go_wp2_with fail
          refine bodyPost_ret (v := .tuple #[.agg #[.int .i64 (0), .int .i64 (3000000000000000)], .int .i64 0]) (by simp [results, Try.results18, go_sem, t0, t1]) rfl ⟨by rw [HE.out]; rfl, ?_⟩
          exact (hb.setCell (p := ⟨w.heap.size + 1, 0, none⟩) (by simp) _).setCell (p := ⟨w.heap.size + 1, 1, none⟩) (by simp) _
        · have HE : Hid (growR (a, b) l r = ((0, b + r), 0)) := by
              show growR (a, b) l r = _
              rw [HG.out]; congr 2 <;> omega
          go_enter Try.func18, Try.ntmps18
          go_wp2_with fail
          refine (V.out _ _ _).mono ?_
          rintro e w1 ⟨rfl, b1⟩
          rw [HV.out]
          have T0 : Two w1 (w.heap.size + 1) 24 (.int .i64 0) (.int .i64 0) := Two.below (by have := Two.new (w.alloc (.cells #[.int .i64 a, .int .i64 b] 24)) 24 (.int .i64 0) (.int .i64 0); rwa [World.size_alloc] at this) b1 (by simp)
          have k1 : w1.cell? ⟨w.heap.size, 0, none⟩ = some (.int .i64 a) := keepC b1 (by go_cell)
          have k2 : w1.cell? ⟨w.heap.size, 1, none⟩ = some (.int .i64 b) := keepC b1 (by go_cell)
          have hb := BEL.out _ (b1.mono (by simp))
          clear b1
          have t0 := T0.c0
          have t1 := T0.c1
          have t2 := T0.free 0
          have t3 := T0.free 1
          have t4 := T0.lt
          go_wp2_with fail
          refine (I.out _ _).mono ?_
          rintro e w2 ⟨rfl, rfl⟩
          rw [HL.out]
          go_wp2_with fail
          refine (I.out _ _).mono ?_
          rintro e w2 ⟨rfl, rfl⟩
          rw [HR.out]
          go_wp2_with fail
          refine bodyPost_ret (v := .tuple #[.agg #[.int .i64 (0), .int .i64 (b + r)], .int .i64 0]) (by simp [results, Try.results18, go_sem, t0, t1]) rfl ⟨by rw [HE.out]; rfl, ?_⟩
          exact (hb.setCell (p := ⟨w.heap.size + 1, 0, none⟩) (by simp) _).setCell (p := ⟨w.heap.size + 1, 1, none⟩) (by simp) _
        · have HE : Hid (growR (a, b) l r = ((a - l, 3000000000000000), 0)) := by
              show growR (a, b) l r = _
              rw [HG.out]; congr 2 <;> omega
          go_enter Try.func18, Try.ntmps18
          go_wp2_with fail
          refine (V.out _ _ _).mono ?_
          rintro e w1 ⟨rfl, b1⟩
          rw [HV.out]
          have T0 : Two w1 (w.heap.size + 1) 24 (.int .i64 0) (.int .i64 0) := Two.below (by have := Two.new (w.alloc (.cells #[.int .i64 a, .int .i64 b] 24)) 24 (.int .i64 0) (.int .i64 0); rwa [World.size_alloc] at this) b1 (by simp)
          have k1 : w1.cell? ⟨w.heap.size, 0, none⟩ = some (.int .i64 a) := keepC b1 (by go_cell)
          have k2 : w1.cell? ⟨w.heap.size, 1, none⟩ = some (.int .i64 b) := keepC b1 (by go_cell)
          have hb := BEL.out _ (b1.mono (by simp))
          clear b1
          have t0 := T0.c0
          have t1 := T0.c1
          have t2 := T0.free 0
          have t3 := T0.free 1
          have t4 := T0.lt
          go_wp2_with fail
          refine (I.out _ _).mono ?_
          rintro e w2 ⟨rfl, rfl⟩
          rw [HL.out]
          go_wp2_with fail
          refine (I.out _ _).mono ?_
          rintro e w2 ⟨rfl, rfl⟩
          rw [HR.out]
          go_wp2_with fail
          refine bodyPost_ret (v := .tuple #[.agg #[.int .i64 (a - l), .int .i64 (3000000000000000)], .int .i64 0]) (by simp [results, Try.results18, go_sem, t0, t1]) rfl ⟨by rw [HE.out]; rfl, ?_⟩
          exact (hb.setCell (p := ⟨w.heap.size + 1, 0, none⟩) (by simp) _).setCell (p := ⟨w.heap.size + 1, 1, none⟩) (by simp) _
        · have HE : Hid (growR (a, b) l r = ((a - l, b + r), 0)) := by
              show growR (a, b) l r = _
              rw [HG.out]; congr 2 <;> omega
          go_enter Try.func18, Try.ntmps18
          go_wp2_with fail
          refine (V.out _ _ _).mono ?_
          rintro e w1 ⟨rfl, b1⟩
          rw [HV.out]
          have T0 : Two w1 (w.heap.size + 1) 24 (.int .i64 0) (.int .i64 0) := Two.below (by have := Two.new (w.alloc (.cells #[.int .i64 a, .int .i64 b] 24)) 24 (.int .i64 0) (.int .i64 0); rwa [World.size_alloc] at this) b1 (by simp)
          have k1 : w1.cell? ⟨w.heap.size, 0, none⟩ = some (.int .i64 a) := keepC b1 (by go_cell)
          have k2 : w1.cell? ⟨w.heap.size, 1, none⟩ = some (.int .i64 b) := keepC b1 (by go_cell)
          have hb := BEL.out _ (b1.mono (by simp))
          clear b1
          have t0 := T0.c0
          have t1 := T0.c1
          have t2 := T0.free 0
          have t3 := T0.free 1
          have t4 := T0.lt
          go_wp2_with fail
          refine (I.out _ _).mono ?_
          rintro e w2 ⟨rfl, rfl⟩
          rw [HL.out]
          go_wp2_with fail
          refine (I.out _ _).mono ?_
          rintro e w2 ⟨rfl, rfl⟩
          rw [HR.out]
          go_wp2_with fail
          refine bodyPost_ret (v := .tuple #[.agg #[.int .i64 (a - l), .int .i64 (b + r)], .int .i64 0]) (by simp [results, Try.results18, go_sem, t0, t1]) rfl ⟨by rw [HE.out]; rfl, ?_⟩
          exact (hb.setCell (p := ⟨w.heap.size + 1, 0, none⟩) (by simp) _).setCell (p := ⟨w.heap.size + 1, 1, none⟩) (by simp) _
end Go.Proofs.Ytpooifjieoijjaa
