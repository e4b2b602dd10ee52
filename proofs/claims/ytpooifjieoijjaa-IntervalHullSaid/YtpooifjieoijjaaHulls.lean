/- Layer 2: IntervalHull. -/
import Derived.BigQuiet
import Derived.Test.YtpooifjieoijjaaHead
namespace Go.Proofs.Ytpooifjieoijjaa
open Go.RowKit Go
set_option linter.unusedVariables false

theorem widen_fold (r : List (Int × Int)) : ∀ x : Int × Int, (r.foldl widen x).1 ≤ x.1 ∧ x.2 ≤ (r.foldl widen x).2 ∧ (∀ i ∈ r, (r.foldl widen x).1 ≤ i.1 ∧ i.2 ≤ (r.foldl widen x).2) ∧ ((r.foldl widen x).1 = x.1 ∨ ∃ i ∈ r, (r.foldl widen x).1 = i.1) ∧ ((r.foldl widen x).2 = x.2 ∨ ∃ i ∈ r, (r.foldl widen x).2 = i.2) := by
  induction r with
  | nil => intro x; simp
  | cons y r ih =>
    intro x
    obtain ⟨h1, h2, h3, h4, h5⟩ := ih (widen x y)
    rw [List.foldl_cons]
    generalize r.foldl widen (widen x y) = h at h1 h2 h3 h4 h5
    have e1 : (widen x y).1 = min x.1 y.1 := rfl
    have e2 : (widen x y).2 = max x.2 y.2 := rfl
    rw [e1] at h1 h4
    rw [e2] at h2 h5
    have a1 : h.1 ≤ x.1 ∧ h.1 ≤ y.1 := by clear h2 h3 h4 h5 e1 e2 ih; omega
    have a2 : x.2 ≤ h.2 ∧ y.2 ≤ h.2 := by clear h1 h3 h4 h5 e1 e2 ih; omega
    refine ⟨a1.1, a2.1, ?_, ?_, ?_⟩
    · intro i hi
      rcases List.mem_cons.1 hi with rfl | hi
      · exact ⟨a1.2, a2.2⟩
      · exact h3 i hi
    · rcases h4 with h4 | ⟨i, hi, h4⟩
      · by_cases hc : x.1 ≤ y.1
        · exact .inl (by clear h5 h3 ih; omega)
        · exact .inr ⟨y, List.mem_cons_self .., by clear h5 h3 ih; omega⟩
      · exact .inr ⟨i, List.mem_cons_of_mem _ hi, h4⟩
    · rcases h5 with h5 | ⟨i, hi, h5⟩
      · by_cases hc : y.2 ≤ x.2
        · exact .inl (by clear h4 h3 ih; omega)
        · exact .inr ⟨y, List.mem_cons_self .., by clear h4 h3 ih; omega⟩
      · exact .inr ⟨i, List.mem_cons_of_mem _ hi, h5⟩

def hitB (h : Int) (l : List (Int × Int)) : Bool := l.any fun i => decide (h = i.1)
def hitE (h : Int) (l : List (Int × Int)) : Bool := l.any fun i => decide (h = i.2)

theorem hull_facts (zs : List (Int × Int)) (ho : okList zs = true) (hn : zs ≠ []) : ∃ lo hi, hullR zs = ((lo, hi), 0) ∧ (∀ k, k < zs.length → lo ≤ (zs.getD k (0, 0)).1 ∧ (zs.getD k (0, 0)).2 ≤ hi) ∧ hitB lo zs = true ∧ hitE hi zs = true := by
  cases zs with
  | nil => exact absurd rfl hn
  | cons x r =>
    obtain ⟨h1, h2, h3, h4, h5⟩ := widen_fold r x
    have e : hullR (x :: r) = (r.foldl widen x, 0) := by unfold hullR; rw [ho]; rfl
    rw [e]
    generalize r.foldl widen x = h at *
    refine ⟨h.1, h.2, rfl, ?_, ?_, ?_⟩
    · intro k hk
      cases k with
      | zero => exact ⟨h1, h2⟩
      | succ k =>
        rw [List.getD_cons_succ, show r.getD k (0, 0) = r[k]'(by simpa using hk) by simp [List.getD, show k < r.length by simpa using hk]]
        exact h3 _ (List.getElem_mem _)
    · rw [hitB, List.any_eq_true]
      rcases h4 with h4 | ⟨i, hi, h4⟩
      · exact ⟨x, List.mem_cons_self .., by simpa using h4⟩
      · exact ⟨i, List.mem_cons_of_mem _ hi, by simpa using h4⟩
    · rw [hitE, List.any_eq_true]
      rcases h5 with h5 | ⟨i, hi, h5⟩
      · exact ⟨x, List.mem_cons_self .., by simpa using h5⟩
      · exact ⟨i, List.mem_cons_of_mem _ hi, by simpa using h5⟩

theorem hulls_no (A : Option Addr) (len cap : Nat) (zs : List (Int × Int)) (w : World) (hr : Row w.heap.size w A len zs) (hl : len ≤ 9223372036854775807) (h : okList zs = false ∨ len = 0) :
    Calls Try.prog 5 #[.slice A len cap] w (Gives (.bool true) w) := by
  have HD := Lib.hid head_true
  have HR := Lib.hid hr
  clear hr
  cases ho : okList zs with
  | false =>
    have HO := Lib.hid ho
    clear ho h
    go_enter Try.func5, Try.ntmps5
    go_wp2_with fail
    refine (HD.out _).mono ?_
    rintro e w1 ⟨rfl, bb⟩
    have HR := Lib.hid (HR.out.step bb)
    have B := Lib.hid bb
    clear bb
    go_wp2_with fail
    refine (rlist_any A len cap zs w1 HR.out hl).mono ?_
    rintro e w2 ⟨rfl, bb⟩
    rw [HO.out]
    have B := Lib.hid (below_more B.out bb)
    clear bb
    go_wp2_with fail
    go_ret
    exact ⟨rfl, B.out⟩
  | true =>
    obtain rfl : len = 0 := by simpa [ho] using h
    have HO := Lib.hid ho
    clear ho h
    go_enter Try.func5, Try.ntmps5
    go_wp2_with fail
    refine (HD.out _).mono ?_
    rintro e w1 ⟨rfl, bb⟩
    have HR := Lib.hid (HR.out.step bb)
    have B := Lib.hid bb
    clear bb
    go_wp2_with fail
    refine (rlist_any A 0 cap zs w1 HR.out hl).mono ?_
    rintro e w2 ⟨rfl, bb⟩
    rw [HO.out]
    have B := Lib.hid (below_more B.out bb)
    clear bb
    go_wp2_with fail
    go_ret
    exact ⟨rfl, B.out⟩

set_option maxHeartbeats 2000000 in
theorem hulls_yes (A : Option Addr) (len cap : Nat) (zs : List (Int × Int)) (lo hi : Int) (w : World) (hr : Row w.heap.size w A len zs) (hl : len ≤ 9223372036854775807) (hlc : len ≤ cap) (hcm : cap ≤ 9223372036854775807) (ho : okList zs = true) (h0 : 0 < len)
    (hh : hullR zs = ((lo, hi), 0)) (hf : ∀ k, k < zs.length → lo ≤ (zs.getD k (0, 0)).1 ∧ (zs.getD k (0, 0)).2 ≤ hi) (hb : hitB lo zs = true) (he : hitE hi zs = true) :
    Calls Try.prog 5 #[.slice A len cap] w (Gives (.bool true) w) := by
  have HD := Lib.hid head_true
  have HR := Lib.hid hr
  have HL := Lib.hid hr.1
  have HO := Lib.hid ho
  have HF := Lib.hid hf
  have HB := Lib.hid hb
  have HE := Lib.hid he
  have HH := Lib.hid hh
  clear hr ho hf hb he hh
  have hne : ((len : Int) == 0) = false := by rw [beq_eq_false_iff_ne]; omega
  go_enter Try.func5, Try.ntmps5
  go_wp2_with fail
  refine (HD.out _).mono ?_
  rintro e w1 ⟨rfl, bb⟩
  have HR := Lib.hid (HR.out.step bb)
  have B := Lib.hid bb
  clear bb
  go_wp2_with fail
  refine (rlist_any A len cap zs w1 HR.out hl).mono ?_
  rintro e w2 ⟨rfl, bb⟩
  rw [HO.out]
  have HR := Lib.hid (HR.out.step bb)
  have B := Lib.hid (below_more B.out bb)
  clear bb
  have HU := Lib.hid (hull_any A len cap zs w2 HR.out hlc hcm)
  rw [HH.out] at HU
  go_wp2_with fail
  refine HU.out.mono ?_
  rintro e w3 ⟨rfl, bb⟩
  have HR := Lib.hid (HR.out.step bb)
  have B := Lib.hid (below_more B.out bb)
  clear bb HU hne
  have T4 := Lib.hid (Two.new w3 24 (.int .i64 lo) (.int .i64 hi))
  have BB := Lib.hid (below_alloc w3 (.cells #[.int .i64 lo, .int .i64 hi] 24))
  have HR := Lib.hid (HR.out.step BB.out)
  have B := Lib.hid (below_more B.out BB.out)
  clear BB
  unfold ivV
  go_wp2_with fail
  go_loopw [6, 7, 8] (fun s6 s7 i wr => ∃ (k : Nat) (b e : Bool), k ≤ len ∧ s6 = .bool b ∧ s7 = .bool e ∧ i = .int .i64 k ∧ Hid (b = hitB lo (zs.take k)) ∧ Hid (e = hitE hi (zs.take k)) ∧ Hid (Row wr.heap.size wr A len zs) ∧ Hid (Two wr w3.heap.size 24 (.int .i64 lo) (.int .i64 hi)) ∧ Hid (Below w.heap.size w wr)) (fun _ _ i _ => len - (intOf i).toNat)
  case atStart => exact ⟨0, false, false, Nat.zero_le _, rfl, rfl, rfl, rfl, rfl, HR.out, T4.out, B.out⟩
  case round =>
    obtain ⟨k, b, e, hk, rfl, rfl, rfl, Hb, He, HRr, HTr, HBr⟩ := hrel
    by_cases hlt : k < len
    · obtain ⟨p, rfl, hp, hc⟩ := HRr.out.2 (by omega)
      obtain ⟨c1, c2⟩ := hc k hlt
      obtain ⟨f1, f2⟩ := HF.out k (by rw [HL.out]; exact hlt)
      clear hc
      have HS := Lib.hid (take_snoc zs (0, 0) k (by rw [HL.out]; exact hlt))
      generalize zs.getD k (0, 0) = x at c1 c2 HS f1 f2
      have t1 := HTr.out.c0
      have t2 := HTr.out.c1
      have i1 : (0 : Int) ≤ k := by omega
      have i2 : (k : Int) < len := by omega
      have z1 : decide (x.1 < lo) = false := by rw [decide_eq_false_iff_not]; omega
      have z2 : decide (hi < x.2) = false := by rw [decide_eq_false_iff_not]; omega
      go_wp2_with fail
      go_quiet (fail)
      clear z1 z2
      have t1 : (wr.drewN nq).cell? ⟨w3.heap.size, 0, none⟩ = some (.int .i64 lo) := t1
      have t2 : (wr.drewN nq).cell? ⟨w3.heap.size, 1, none⟩ = some (.int .i64 hi) := t2
      have c1 : (wr.drewN nq).cell? (p.add (k * 2)) = some (.int .i64 x.1) := c1
      have c2 : (wr.drewN nq).cell? ⟨(p.add (k * 2)).block, (p.add (k * 2)).off + 1, none⟩ = some (.int .i64 x.2) := c2
      have HR2 : Hid (Row (wr.drewN nq).heap.size (wr.drewN nq) (some p) len zs) := HRr.out
      have HT2 : Hid (Two (wr.drewN nq) w3.heap.size 24 (.int .i64 lo) (.int .i64 hi)) := HTr.out
      have HB2 : Hid (Below w.heap.size w (wr.drewN nq)) := ⟨HBr.out.os, HBr.out.tape, HBr.out.output, HBr.out.size, HBr.out.block⟩
      generalize wr.drewN nq = wa at t1 t2 c1 c2 HR2 HT2 HB2 ⊢
      clear HRr HTr HBr
      go_upto_region 11 with fail
      go_cut [6] (fun s wx => s = .bool (b || decide (lo = x.1)) ∧ Hid (∃ n, wx = wa.drewN n))
      case first =>
        cases b with
        | true =>
          go_quiet (fail)
          go_wp2_with fail
          go_meet
          exact ⟨rfl, nq, rfl⟩
        | false =>
          by_cases hq : lo = x.1
          · have hq1 : (lo == x.1) = true := by simpa using hq
            have hq2 : (false || decide (lo = x.1)) = true := by simpa using hq
            have HQ := Lib.hid hq2
            clear hq hq2
            go_quiet (fail)
            go_wp2_with fail
            go_meet
            exact ⟨congrArg Value.bool HQ.out.symm, nq, rfl⟩
          · have hq1 : (lo == x.1) = false := by simpa using hq
            have hq2 : (false || decide (lo = x.1)) = false := by simpa using hq
            have HQ := Lib.hid hq2
            clear hq hq2
            go_quiet (fail)
            go_wp2_with fail
            go_meet
            exact ⟨congrArg Value.bool HQ.out.symm, nq, rfl⟩
      case rest =>
      obtain ⟨rfl, HN⟩ := hcut
      obtain ⟨nb, hnb⟩ : ∃ nb, nb = (b || decide (lo = x.1)) := ⟨_, rfl⟩
      rw [← hnb]
      have HNB := Lib.hid hnb
      clear hnb
      obtain ⟨n5, hn5⟩ := HN.out
      subst hn5
      clear HN
      have t1 : (wa.drewN n5).cell? ⟨w3.heap.size, 0, none⟩ = some (.int .i64 lo) := t1
      have t2 : (wa.drewN n5).cell? ⟨w3.heap.size, 1, none⟩ = some (.int .i64 hi) := t2
      have c1 : (wa.drewN n5).cell? (p.add (k * 2)) = some (.int .i64 x.1) := c1
      have c2 : (wa.drewN n5).cell? ⟨(p.add (k * 2)).block, (p.add (k * 2)).off + 1, none⟩ = some (.int .i64 x.2) := c2
      have HR2 : Hid (Row (wa.drewN n5).heap.size (wa.drewN n5) (some p) len zs) := HR2.out
      have HT2 : Hid (Two (wa.drewN n5) w3.heap.size 24 (.int .i64 lo) (.int .i64 hi)) := HT2.out
      have HB2 : Hid (Below w.heap.size w (wa.drewN n5)) := ⟨HB2.out.os, HB2.out.tape, HB2.out.output, HB2.out.size, HB2.out.block⟩
      generalize wa.drewN n5 = wb at t1 t2 c1 c2 HR2 HT2 HB2 ⊢
      go_upto_region 12 with fail
      cases e with
      | true =>
        go_quiet (fail)
        clear t1 t2 c1 c2
        have HR2 : Hid (Row (wb.drewN nq).heap.size (wb.drewN nq) (some p) len zs) := HR2.out
        have HT2 : Hid (Two (wb.drewN nq) w3.heap.size 24 (.int .i64 lo) (.int .i64 hi)) := HT2.out
        have HB2 : Hid (Below w.heap.size w (wb.drewN nq)) := ⟨HB2.out.os, HB2.out.tape, HB2.out.output, HB2.out.size, HB2.out.block⟩
        go_wp2_with fail
        go_roundw
        case rel =>
          refine ⟨k + 1, nb, true, by omega, rfl, rfl, by go_num, ?_, ?_, HR2.out, HT2.out, HB2.out⟩
          · show nb = hitB lo (zs.take (k + 1))
            rw [HNB.out, Hb.out, HS.out, hitB, hitB, List.any_append]; simp
          · show true = hitE hi (zs.take (k + 1))
            rw [HS.out, hitE, List.any_append, show (zs.take k).any (fun i => decide (hi = i.2)) = _ from He.out.symm]; simp
        case measure => simp [intOf]; omega
      | false =>
        by_cases hq : hi = x.2
        · have hq1 : (hi == x.2) = true := by simpa using hq
          have HQ := Lib.hid hq
          clear hq
          go_quiet (fail)
          clear t1 t2 c1 c2
          have HR2 : Hid (Row (wb.drewN nq).heap.size (wb.drewN nq) (some p) len zs) := HR2.out
          have HT2 : Hid (Two (wb.drewN nq) w3.heap.size 24 (.int .i64 lo) (.int .i64 hi)) := HT2.out
          have HB2 : Hid (Below w.heap.size w (wb.drewN nq)) := ⟨HB2.out.os, HB2.out.tape, HB2.out.output, HB2.out.size, HB2.out.block⟩
          go_wp2_with fail
          go_roundw
          case rel =>
            refine ⟨k + 1, nb, true, by omega, rfl, rfl, by go_num, ?_, ?_, HR2.out, HT2.out, HB2.out⟩
            · show nb = hitB lo (zs.take (k + 1))
              rw [HNB.out, Hb.out, HS.out, hitB, hitB, List.any_append]; simp
            · show true = hitE hi (zs.take (k + 1))
              rw [HS.out, hitE, List.any_append, show (zs.take k).any (fun i => decide (hi = i.2)) = _ from He.out.symm]; simp [HQ.out]
          case measure => simp [intOf]; omega
        · have hq1 : (hi == x.2) = false := by simpa using hq
          have HQ := Lib.hid hq
          clear hq
          go_quiet (fail)
          clear t1 t2 c1 c2
          have HR2 : Hid (Row (wb.drewN nq).heap.size (wb.drewN nq) (some p) len zs) := HR2.out
          have HT2 : Hid (Two (wb.drewN nq) w3.heap.size 24 (.int .i64 lo) (.int .i64 hi)) := HT2.out
          have HB2 : Hid (Below w.heap.size w (wb.drewN nq)) := ⟨HB2.out.os, HB2.out.tape, HB2.out.output, HB2.out.size, HB2.out.block⟩
          go_wp2_with fail
          go_roundw
          case rel =>
            refine ⟨k + 1, nb, false, by omega, rfl, rfl, by go_num, ?_, ?_, HR2.out, HT2.out, HB2.out⟩
            · show nb = hitB lo (zs.take (k + 1))
              rw [HNB.out, Hb.out, HS.out, hitB, hitB, List.any_append]; simp
            · show false = hitE hi (zs.take (k + 1))
              rw [HS.out, hitE, List.any_append, show (zs.take k).any (fun i => decide (hi = i.2)) = _ from He.out.symm]; simp [HQ.out]
          case measure => simp [intOf]; omega
    · obtain rfl : k = len := by omega
      have hE : zs.take k = zs := by rw [← HL.out]; exact List.take_length
      have hb1 : b = true := by rw [Hb.out, hE, HB.out]
      have he1 : e = true := by rw [He.out, hE, HE.out]
      subst hb1 he1
      go_wp2_with fail
      go_ret
      exact ⟨rfl, HBr.out⟩

theorem hulls_law (A : Option Addr) (len cap : Nat) (zs : List (Int × Int)) (w : World) (hr : Row w.heap.size w A len zs) (hl : len ≤ cap) (hm : cap ≤ 9223372036854775807) :
    Calls Try.prog 5 #[.slice A len cap] w (Gives (.bool true) w) := by
  cases ho : okList zs with
  | false => exact hulls_no A len cap zs w hr (by omega) (.inl ho)
  | true =>
    by_cases h0 : len = 0
    · exact hulls_no A len cap zs w hr (by omega) (.inr h0)
    · have hne : zs ≠ [] := by intro e; have := hr.1; rw [e] at this; simp at this; omega
      obtain ⟨lo, hi, hh, hf, hb, he⟩ := hull_facts zs ho hne
      exact hulls_yes A len cap zs lo hi w hr (by omega) hl hm ho (by omega) hh hf hb he
end Go.Proofs.Ytpooifjieoijjaa
