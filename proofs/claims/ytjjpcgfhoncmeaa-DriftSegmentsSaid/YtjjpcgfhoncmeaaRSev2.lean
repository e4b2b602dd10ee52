/- Layer 7: the reference's Several, where the table is well-formed and the segments are not too many. -/
import Derived.Test.YtjjpcgfhoncmeaaRSev
namespace Go.Proofs.Ytjjpcgfhoncmeaa
open Go.RowKit Go
set_option linter.unusedVariables false
set_option linter.unusedSimpArgs false

theorem take_sg {α : Type} (zs : List α) (d : α) (k : Nat) (h : k < zs.length) : zs.take (k + 1) = zs.take k ++ [zs.getD k d] := by
  rw [List.take_succ_eq_append_getElem h]; simp [h]
/-- One segment more. -/
theorem first_take {T : Tb} {l : List Sg} {k : Nat} (hk : k < l.length) (h : firstE T (l.take k) = 0) : firstE T (l.take (k + 1)) = segE T (l.getD k Sg.nil) := by
  rw [take_sg l Sg.nil k hk, firstE_app, if_pos h]
  simp only [firstE]
  split <;> simp_all
theorem lo_take (T : Tb) {l : List Sg} {k : Nat} (hk : k < l.length) : sumLo T (l.take (k + 1)) = sumLo T (l.take k) + segLo T (l.getD k Sg.nil) := by
  rw [take_sg l Sg.nil k hk, sumLo_app]; simp [sumLo]
theorem hi_take (T : Tb) {l : List Sg} {k : Nat} (hk : k < l.length) : sumHi T (l.take (k + 1)) = sumHi T (l.take k) + segHi T (l.getD k Sg.nil) := by
  rw [take_sg l Sg.nil k hk, sumHi_app]; simp [sumHi]
theorem first_all {T : Tb} {l : List Sg} {k : Nat} (hk : k < l.length) (h : firstE T (l.take k) = 0) (q : segE T (l.getD k Sg.nil) ≠ 0) : firstE T l = segE T (l.getD k Sg.nil) := by
  have e : l = l.take (k + 1) ++ l.drop (k + 1) := (List.take_append_drop _ _).symm
  have a := first_take hk h
  rw [e, firstE_app, a, if_neg q]
  rw [← e]

set_option maxHeartbeats 8000000 in
theorem rsev_yes (T : Tb) (A : Option Addr) (len cap : Nat) (l : List Sg) (ho : T.Ok) (h64 : len ≤ 64) (w : World) (ht : T.At w) (hr : RowS w.heap.size w A len l) :
    Calls Try.prog 22 #[T.val, .slice A len cap] w (Gives (.tuple #[rgV (sevR T l).1 (sevR T l).2.1, .int .i64 (sevR T l).2.2]) w) := by
  obtain ⟨W, hW⟩ : ∃ W, (w.alloc (.cells T.cells 25)).alloc (.cells #[.int .i64 0, .int .i64 0] 27) = W := ⟨_, rfl⟩
  have HT : Hid (Three W w.heap.size 25 (.slice T.A0 T.n0 T.c0) (.slice T.A1 T.n1 T.c1) (.slice T.A2 T.n2 T.c2)) := by rw [← hW]; exact (Three.new w _ _ _ _).alloc _
  have HU : Hid (Two W (w.heap.size + 1) 27 (.int .i64 0) (.int .i64 0)) := by
    rw [← hW]
    have h := Two.new (w.alloc (.cells T.cells 25)) 27 (.int .i64 0) (.int .i64 0)
    rwa [show (w.alloc (.cells T.cells 25)).heap.size = w.heap.size + 1 by simp] at h
  have BW : Hid (Below w.heap.size w W) := by rw [← hW]; exact ((below_alloc w _).alloc (by simp) _)
  have SW : W.heap.size = w.heap.size + 2 := by rw [← hW]; simp
  have t3 := HT.out.lt
  have t0 := HT.out.c0
  have t1 := HT.out.c1
  have t2 := HT.out.c2
  have V := Lib.hid (rvalid_any T true (by simp [ho]) W (ht.step BW.out))
  have LN := hr.1
  have LH := Lib.hid LN
  have HR := Lib.hid hr
  have HA := Lib.hid ht
  have e1 : Hid (sevR T l = if firstE T l ≠ 0 then (0, 0, firstE T l) else if 3000000000000000 < sumHi T l then (0, 0, 3) else (sumLo T l, sumHi T l, 0)) := by
    unfold Hid sevR; rw [if_pos ho, if_neg (by omega)]
  have RW := Lib.hid (fun (s : Sg) (W' : World) (b : Below w.heap.size w W') => rworst_any T s.tl s.th s.al s.ah W' (ht.step b))
  clear hr ht LN
  unfold Tb.val at V RW ⊢
  unfold Tb.cells at hW
  go_enter Try.func22, Try.ntmps22
  go_wp2_with (go_at_call 14; refine V.out.mono ?_; rintro e w1 ⟨rfl, b1⟩; refine Hid.out ?_)
  refine Lib.hid ?_
  have O1 : Hid (Own3 T w1 w.heap.size) := ⟨HT.out.below b1 HT.out.lt, HU.out.below b1 HU.out.lt⟩
  have B1 := Lib.hid (below_more BW.out b1)
  have S1 : w.heap.size + 2 ≤ w1.heap.size := by rw [← SW]; exact b1.size
  clear t0 t1 t2 t3 b1 V hW SW
  obtain ⟨g, hg⟩ : ∃ g, w1.heap.size = g := ⟨_, rfl⟩
  have G1 : Hid (w.heap.size + 2 ≤ g) := by rw [← hg]; exact S1
  obtain ⟨W2, hW2⟩ : ∃ W2, w1.alloc (.cells #[.int .i64 0, .int .i64 0] 27) = W2 := ⟨_, rfl⟩
  have X2 : Hid (Two W2 g 27 (.int .i64 0) (.int .i64 0)) := by rw [← hW2, ← hg]; exact Two.new w1 _ _ _
  have O2 : Hid (Own3 T W2 w.heap.size) := by rw [← hW2]; exact O1.out.far ((below_alloc w1 _).mono S1)
  have B2 : Hid (Below w.heap.size w W2) := by rw [← hW2]; exact B1.out.alloc (by omega) _
  clear O1 B1 S1
  go_wp2_with fail
  go_loopw [8] (fun i wr => ∃ (k : Nat) (lo hi : Int), k ≤ len ∧ i = .int .i64 k ∧ Hid (firstE T (l.take k) = 0) ∧ Hid (lo = sumLo T (l.take k)) ∧ Hid (hi = sumHi T (l.take k)) ∧ Hid (Two wr g 27 (.int .i64 lo) (.int .i64 hi)) ∧ Hid (Own3 T wr w.heap.size) ∧ Hid (Below w.heap.size w wr)) (fun i _ => len - (intOf i).toNat)
  case atStart => exact ⟨0, 0, 0, by omega, rfl, rfl, rfl, rfl, X2, O2, B2⟩
  case round =>
    obtain ⟨k, lo, hi, hk, rfl, F, L1, L2, X, O, B⟩ := hrel
    have x0 := X.out.c0
    have x1 := X.out.c1
    have x2 := X.out.lt
    have y0 := O.out.res.c0
    have y1 := O.out.res.c1
    have y2 := O.out.res.free 0
    have y3 := O.out.res.free 1
    have y4 := O.out.res.lt
    by_cases h : k < len
    · obtain ⟨p, rfl, hp, SA, SI⟩ := (HR.out.step B.out).at_ k h
      have hkl : k < l.length := by have := LH.out; omega
      have F' := Lib.hid (fun q => first_all hkl F.out q)
      have F2 := Lib.hid ((first_take hkl F.out))
      have L1' := Lib.hid (lo_take T hkl)
      have L2' := Lib.hid (hi_take T hkl)
      have SB : 0 ≤ lo ∧ lo ≤ 200000000000000000 ∧ 0 ≤ hi ∧ hi ≤ 200000000000000000 := by
        have SB := sum_bound T (l.take k) F.out
        rw [← L1.out, ← L2.out, List.length_take] at SB
        omega
      have RW := Lib.hid (RW.out (l.getD k Sg.nil))
      have WE := worst_err T (l.getD k Sg.nil).tl (l.getD k Sg.nil).th (l.getD k Sg.nil).al (l.getD k Sg.nil).ah
      have WB := worst_bound T (l.getD k Sg.nil).tl (l.getD k Sg.nil).th (l.getD k Sg.nil).al (l.getD k Sg.nil).ah
      unfold segE at F' F2
      generalize l.getD k Sg.nil = z at SA SI F' F2 L1' L2' RW WE WB
      obtain ⟨c, tl, th, al, ah⟩ := z
      obtain ⟨ic, itl, ith, ial, iah⟩ := SI
      obtain ⟨z0, z1, z2, z3, z4⟩ := SA
      dsimp only at ic itl ith ial iah z0 z1 z2 z3 z4 F' F2 L1' L2' RW WE WB
      obtain ⟨q, hq⟩ : ∃ q, p.add (k * 5) = q := ⟨_, rfl⟩
      have qb : q.block < wr.heap.size := by rw [← hq, block_of_add]; exact hp
      rw [hq] at z0 z1 z2 z3 z4
      by_cases hs : StretchOk c
      · rw [if_pos hs] at F' F2
        have K2 := Lib.hid (rstretch_any c true (by simp; exact hs) ic.1 ic.2)
        unfold segLo at L1'
        unfold segHi at L2'
        generalize worstR T tl th al ah = m at F' F2 L1' L2' RW WE WB
        obtain ⟨ra, er⟩ := m
        dsimp only at F' F2 L1' L2' RW WE WB
        have RWD := Lib.hid (RW.out wr.drew B.out.drew)
        unfold rgV at RWD
        have EL := Lib.hid (rel_yes ra c WB hs)
        unfold rgV at EL
        have BD : Hid (Below w.heap.size w wr.drew) := B.out.drew
        have OD : Hid (Own3 T wr.drew w.heap.size) := ⟨O.out.tb, O.out.res⟩
        have XD : Hid (Two wr.drew g 27 (.int .i64 lo) (.int .i64 hi)) := X.out
        have ZD : Hid (SgAt wr.drew q ⟨c, tl, th, al, ah⟩) := ⟨z0, z1, z2, z3, z4⟩
        have t0 := O.out.tb.c0
        have t1 := O.out.tb.c1
        have t2 := O.out.tb.c2
        have t3 := O.out.tb.lt
        have h1 := y4
        go_wp2_with (go_at_call 39; refine (K2.out _).mono ?_; rintro e w' ⟨rfl, rfl⟩)
        go_region_held3 (fun w' => w'.cell? ⟨w.heap.size, 0, none⟩ = some (.slice T.A0 T.n0 T.c0) ∧ w'.cell? ⟨w.heap.size, 1, none⟩ = some (.slice T.A1 T.n1 T.c1) ∧ w'.cell? ⟨w.heap.size, 2, none⟩ = some (.slice T.A2 T.n2 T.c2) ∧ w'.cell? ⟨q.block, q.off + 1, none⟩ = some (.int .i64 tl) ∧ w'.cell? ⟨q.block, q.off + 2, none⟩ = some (.int .i64 th) ∧ w'.cell? ⟨q.block, q.off + 3, none⟩ = some (.int .i64 al) ∧ w'.cell? ⟨q.block, q.off + 4, none⟩ = some (.int .i64 ah)) (go_keep)
          (first
            | (go_at_call 16; (with_reducible refine RWD.out.mono ?_); rintro e w5 ⟨rfl, b5⟩; have O5 := Lib.hid (Own3.far OD.out (b5.mono OD.out.res.lt)); have X5 := Lib.hid (XD.out.below b5 XD.out.lt); have B5 := Lib.hid (below_more BD.out b5); have Z5 := Lib.hid (ZD.out.below b5 qb); have s0 := O5.out.tb.c0; have s1 := O5.out.tb.c1; have s2 := O5.out.tb.c2; have s3 := Z5.out.2.1; have s4 := Z5.out.2.2.1; have s5 := Z5.out.2.2.2.1; have s6 := Z5.out.2.2.2.2; have s7 := Z5.out.1; clear b5))
        by_cases he : er = 0
        · subst he
          have a1 := elLo_nonneg WB.1 hs.1
          have a2 := elLo_up WB.1 hs.1
          have a3 := elHi_nonneg WB.1 WB.2 hs.1
          have a4 := elHi_le WB.1 WB.2 hs.1
          have a5 := hs.2
          generalize elLo ra c = x at L1' EL a1 a2
          generalize elHi ra c = y at L2' EL a3 a4
          rw [← L1.out] at L1'
          rw [← L2.out] at L2'
          have ES := Lib.hid (EL.out w5)
          obtain ⟨SB1, SB2, SB3, SB4⟩ := SB
          have e3 : wrap64 (lo + x) = lo + x := by unfold wrap64; omega
          have e4 : wrap64 (hi + y) = hi + y := by unfold wrap64; omega
          clear F' F L1 L2 RW WE hs RWD BD OD XD ZD
          go_wp2_with (go_at_call 18; refine ES.out.mono ?_; rintro e w6 ⟨rfl, b6⟩; have X6 := Lib.hid (X5.out.below b6 X5.out.lt); have O6 := Lib.hid (Own3.far O5.out (b6.mono O5.out.res.lt)); have B6 := Lib.hid (below_more B5.out b6); have r0 := X6.out.c0; have r1 := X6.out.c1; have r2 := X6.out.free 0; have r3 := X6.out.free 1; have r4 := X6.out.lt; clear b6)
          have gw : w.heap.size ≤ g := by have := G1.out; omega
          have gl : g < w6.heap.size := X6.out.lt
          have XN := Lib.hid (((X6.out.set0 (.int .i64 (lo + x))).set1 (.int .i64 (hi + y))).alloc (.cells #[.int .i64 x, .int .i64 y] 27))
          have ON := Lib.hid (Own3.far O6.out ((((Below.refl (w.heap.size + 2) w6).setCell (p := ⟨g, 0, none⟩) G1.out (.int .i64 (lo + x))).setCell (p := ⟨g, 1, none⟩) G1.out (.int .i64 (hi + y))).alloc (by have := G1.out; simp; omega) (.cells #[.int .i64 x, .int .i64 y] 27)))
          have BN := Lib.hid (((B6.out.setCell (p := ⟨g, 0, none⟩) gw (.int .i64 (lo + x))).setCell (p := ⟨g, 1, none⟩) gw (.int .i64 (hi + y))).alloc (by simp; omega) (.cells #[.int .i64 x, .int .i64 y] 27))
          go_roundw
          case rel => exact ⟨k + 1, lo + x, hi + y, by omega, by go_num, F2.out, L1'.out.symm, L2'.out.symm, XN.out, ON.out, BN.out⟩
          case measure => simp [intOf]; omega
        · have E : Hid (sevR T l = (0, 0, er)) := by
            unfold Hid
            rw [e1.out, if_pos (by rw [F'.out he]; exact he), F'.out he]
          have y0 := O5.out.res.c0
          have y1 := O5.out.res.c1
          have y2 := O5.out.res.free 0
          have y3 := O5.out.res.free 1
          have y4 := O5.out.res.lt
          clear F' F2 L1' L2' RW F L1 L2 e1 hs RWD BD OD XD ZD
          go_wp2_with fail
          refine bodyPost_ret (v := .tuple #[.agg #[.int .i64 0, .int .i64 0], .int .i64 er]) (by simp [results, Try.results22, go_sem, y0, y1, y4]) rfl ⟨by rw [E.out]; rfl, ?_⟩
          exact (B5.out.setCell (p := ⟨w.heap.size + 1, 0, none⟩) (by simp) _).setCell (p := ⟨w.heap.size + 1, 1, none⟩) (by simp) _
      · have E : Hid (sevR T l = (0, 0, 1)) := by
          unfold Hid
          rw [e1.out]
          rw [if_neg hs] at F'
          rw [if_pos (by rw [F'.out (by omega)]; omega), F'.out (by omega)]
        have K2 := Lib.hid (rstretch_any c false (by simp; intro a; have : ¬ c ≤ 1000000000000000 := fun b => hs ⟨a, b⟩; omega) ic.1 ic.2)
        clear F' F2 L1' L2' SB RW WE WB hs F L1 L2 e1
        go_wp2_with (go_at_call 39; refine (K2.out _).mono ?_; rintro e w' ⟨rfl, rfl⟩)
        refine bodyPost_ret (v := .tuple #[.agg #[.int .i64 0, .int .i64 0], .int .i64 1]) (by simp [results, Try.results22, go_sem, y0, y1, y4]) rfl ⟨by rw [E.out]; rfl, ?_⟩
        exact (B.out.setCell (p := ⟨w.heap.size + 1, 0, none⟩) (by simp) _).setCell (p := ⟨w.heap.size + 1, 1, none⟩) (by simp) _
    · obtain rfl : k = len := by omega
      have et : l.take k = l := by rw [List.take_of_length_le]; have := LH.out; omega
      have F' : firstE T l = 0 := by rw [← et]; exact F.out
      have L1' : lo = sumLo T l := by rw [← et]; exact L1.out
      have L2' : hi = sumHi T l := by rw [← et]; exact L2.out
      have e2 := e1.out
      rw [if_neg (by omega)] at e2
      rw [← L1', ← L2'] at e2
      by_cases q : 3000000000000000 < hi
      · rw [if_pos q] at e2
        have E2 := Lib.hid e2
        clear e2 F' L1' L2' et F L1 L2 e1
        go_wp2_with fail
        refine bodyPost_ret (v := .tuple #[.agg #[.int .i64 0, .int .i64 0], .int .i64 3]) (by simp [results, Try.results22, go_sem, y0, y1, y4]) rfl ⟨by rw [E2.out]; rfl, ?_⟩
        exact (B.out.setCell (p := ⟨w.heap.size + 1, 0, none⟩) (by simp) _).setCell (p := ⟨w.heap.size + 1, 1, none⟩) (by simp) _
      · rw [if_neg q] at e2
        have E2 := Lib.hid e2
        clear e2 F' L1' L2' et F L1 L2 e1
        go_wp2_with fail
        refine bodyPost_ret (v := .tuple #[.agg #[.int .i64 lo, .int .i64 hi], .int .i64 0]) (by simp [results, Try.results22, go_sem, y0, y1, y4]) rfl ⟨by rw [E2.out]; rfl, ?_⟩
        exact (B.out.setCell (p := ⟨w.heap.size + 1, 0, none⟩) (by simp) _).setCell (p := ⟨w.heap.size + 1, 1, none⟩) (by simp) _

theorem rsev_any (T : Tb) (A : Option Addr) (len cap : Nat) (l : List Sg) (w : World) (ht : T.At w) (hr : RowS w.heap.size w A len l) (hl : len ≤ 9223372036854775807) :
    Calls Try.prog 22 #[T.val, .slice A len cap] w (Gives (.tuple #[rgV (sevR T l).1 (sevR T l).2.1, .int .i64 (sevR T l).2.2]) w) := by
  by_cases h : T.Ok ∧ len ≤ 64
  · exact rsev_yes T A len cap l h.1 h.2 w ht hr
  · refine rsev_no T A len cap l ?_ w ht hr hl
    by_cases q : T.Ok
    · exact .inr (by have : ¬ len ≤ 64 := fun r => h ⟨q, r⟩; omega)
    · exact .inl q
end Go.Proofs.Ytjjpcgfhoncmeaa
