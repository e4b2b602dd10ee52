/- Layer 7: DriftWorst. -/
import Derived.OwnWalk
import Derived.Laws.AppendOwn
import Derived.Laws.OwnMore
import Derived.Deep.LoopGhost
import Derived.Lib.MinMax
import Derived.Test.YtjjpcgfhoncmeaaOwnS
import Derived.Test.YtjjpcgfhoncmeaaWMath
namespace Go.Proofs.Ytjjpcgfhoncmeaa
open Go.RowKit Go
set_option linter.unusedVariables false
set_option linter.unusedSimpArgs false

theorem info_int : (Try.prog.info? 3).map (fun i => (i.zero, i.size, i.bytes)) = some (some (.int .i64 0), 1, 8) := by kernel_rfl
def intCells (zs : List Int) : List Value := zs.map (.int .i64)
theorem RowI.news {B : Nat} {w : World} {p : Addr} {m : Nat} {cs : List Int} (h : RowI B w (some p) m cs) : ∀ j u, (intCells cs)[j]? = some u → w.cell? (p.add j) = some u := by
  intro j u hj
  have hl : j < cs.length := by
    have := (List.getElem?_eq_some_iff.1 hj).1
    simpa [intCells] using this
  obtain ⟨q, e, _, hc⟩ := h.2.1 (by have := h.1; omega)
  injection e with e
  subst e
  rw [hc j (by have := h.1; omega), ← hj]
  simp [intCells, List.getD, hl]
theorem own_lit (w : World) (x : Int) : (w.alloc (.cells #[.int .i64 x] 3)).ownsRow w.heap.size 3 1 (.slice (some ⟨w.heap.size, 0, none⟩) 1 1) 1 [.int .i64 x] :=
  ⟨rfl, .inr ⟨w.heap.size, 1, #[.int .i64 x], rfl, Nat.le_refl _, heap_alloc_new w _, Nat.le_refl _, by unfold maxLen; omega, rfl, rfl⟩⟩
theorem rowI_own {w : World} {base : Nat} {v : Value} {zs : List Int} {n : Nat} (h : w.ownsRow base 3 1 v n (intCells zs)) (hn : n = zs.length) (h0 : 0 < n) (hz : ∀ x ∈ zs, I64 x) :
    ∃ g cap, v = .slice (some ⟨g, 0, none⟩) n cap ∧ base ≤ g ∧ RowI w.heap.size w (some ⟨g, 0, none⟩) n zs := by
  rcases h.2 with ⟨rfl, h0'⟩ | ⟨g, cap, cur, rfl, hb, hg, hn', hm, hs, ht⟩
  · omega
  · refine ⟨g, cap, rfl, hb, hn.symm, fun _ => ⟨_, rfl, (Array.getElem?_eq_some_iff.1 hg).1, fun i hi => ?_⟩, hz⟩
    rw [add_zero_off, h.cellAt i (by omega)]
    have : i < zs.length := by omega
    simp [intCells, List.getD, this]

set_option maxRecDepth 100000 in
set_option maxHeartbeats 16000000 in
theorem worst_walk (G : Dft) (T : Tb) (tl th al ah x y : Int) (room : T.Room) (itl : I64 tl) (ith : I64 th) (ial : I64 al) (iah : I64 ah) (ix : I64 x) (iy : I64 y) (w : World) (ht : T.At w) :
    Calls Try.prog 6 #[T.val, rgV tl th, rgV al ah, .int .i64 x, .int .i64 y] w (Gives (.bool true) w) := by
  obtain ⟨i0, hi, hi0, hi1, hi2⟩ := info_parts info_int
  have HD := Lib.hid (head_true G)
  have FE := Lib.hid (fun W (b : Below w.heap.size w W) => few_any T W (ht.step b))
  have WT := Lib.hid (fun W (b : Below w.heap.size w W) => G.worst T tl th al ah room itl ith ial iah W (ht.step b))
  have BADW := Lib.hid (worst_bad T tl th al ah)
  have FACT := Lib.hid (fun (v : Int) (h : worstR T tl th al ah = (v, 0)) => worst_facts h)
  have THERE := Lib.hid (fun (v : Int) (h : worstR T tl th al ah = (v, 0)) => worst_there h)
  have OKS := Lib.hid (fun (v : Int) (h : worstR T tl th al ah = (v, 0)) => worst_ok h)
  have GG := Lib.hid G
  have RM := Lib.hid room
  have HA := Lib.hid ht
  have IT := Lib.hid itl
  have ITH := Lib.hid ith
  have IA := Lib.hid ial
  have IAH := Lib.hid iah
  obtain ⟨Q, hQ⟩ : ∃ Q, worstR T tl th al ah = Q := ⟨_, rfl⟩
  rw [hQ] at WT BADW FACT THERE OKS
  obtain ⟨v, er⟩ := Q
  dsimp only at WT BADW
  have HQ := Lib.hid hQ
  clear hQ ht room itl ith ial iah ix iy G
  unfold rgV Tb.val at *
  obtain ⟨W, hW, M⟩ := mm_start T tl th al ah w
  have M0 := Lib.hid M
  clear M
  have t0 := M0.out.tb.c0
  have t1 := M0.out.tb.c1
  have t2 := M0.out.tb.c2
  have t3 := M0.out.tb.lt
  go_enter Try.func6, Try.ntmps6
  go_wp2_with (go_at_call 9; refine (HD.out _).mono ?_; rintro e w1 ⟨rfl, b1⟩; have M1 := Lib.hid (M0.out.step b1); have t0 := M1.out.tb.c0; have t1 := M1.out.tb.c1; have t2 := M1.out.tb.c2; have t3 := M1.out.tb.lt; clear b1)
  refine (FE.out _ M1.out.bl).mono ?_
  rintro e w2 ⟨⟨q, rfl⟩, b2⟩
  have M2 := Lib.hid (M1.out.step b2)
  clear t0 t1 t2 t3 b2 M0 hW
  have t0 := M2.out.tb.c0
  have t1 := M2.out.tb.c1
  have t2 := M2.out.tb.c2
  have t3 := M2.out.tb.lt
  have p0 := M2.out.tp.c0
  have p1 := M2.out.tp.c1
  have p2 := M2.out.tp.lt
  have a0 := M2.out.ag.c0
  have a1 := M2.out.ag.c1
  have a2 := M2.out.ag.lt
  cases q with
  | false =>
    go_wp2_with fail
    go_ret
    exact ⟨rfl, M2.out.bl⟩
  | true =>
    by_cases he : er = 0
    · subst he
      have ok := (OKS.out v rfl).1
      have q1 := (OKS.out v rfl).2.1
      have q2 := (OKS.out v rfl).2.2.1
      obtain ⟨a, ha⟩ : ∃ a, max tl (min x th) = a := ⟨_, rfl⟩
      obtain ⟨b, hb⟩ : ∃ b, max al (min y ah) = b := ⟨_, rfl⟩
      have b1 : tl ≤ a := by omega
      have b2 : a ≤ th := by omega
      have b3 : al ≤ b := by omega
      have b4 : b ≤ ah := by omega
      obtain ⟨⟨r, hr, hrv⟩, ⟨n, hn, hnv⟩⟩ := FACT.out v rfl a b b1 b2 b3 b4
      have RA := Lib.hid (fun W (bb : Below w.heap.size w W) => GG.out.rate T a b RM.out ⟨by have := IT.out.1; omega, by have := ITH.out.2; omega⟩ ⟨by have := IA.out.1; omega, by have := IAH.out.2; omega⟩ W (HA.out.step bb))
      have WN := Lib.hid (fun W (bb : Below w.heap.size w W) => GG.out.worst T a th b ah RM.out ⟨by have := IT.out.1; omega, by have := ITH.out.2; omega⟩ ITH.out ⟨by have := IA.out.1; omega, by have := IAH.out.2; omega⟩ IAH.out W (HA.out.step bb))
      rw [hr] at RA
      rw [hn] at WN
      dsimp only at RA WN
      unfold rgV at WN
      unfold Tb.val at RA WN
      have d1 : decide (v < r) = false := by simp; omega
      have d2 : decide (v < n) = false := by simp; omega
      have OK := Lib.hid ok
      have L0 := HA.out.1.1
      have L1 := HA.out.2.1.1
      have o1 := ok.1.2
      have o2 := ok.2.1.2
      obtain ⟨pA, hpA, _⟩ := HA.out.1.at_ 0 (by omega)
      obtain ⟨pB, hpB, _⟩ := HA.out.2.1.at_ 0 (by omega)
      have PA := Lib.hid hpA
      have PB := Lib.hid hpB
      have RTM := Lib.hid (fun W (bb : Below w.heap.size w W) => (show RowI W.heap.size W (some pA) T.n0 T.tm by rw [← PA.out]; exact (HA.out.step bb).1))
      have RAG := Lib.hid (fun W (bb : Below w.heap.size w W) => (show RowI W.heap.size W (some pB) T.n1 T.ag by rw [← PB.out]; exact (HA.out.step bb).2.1))
      have RT := Lib.hid (fun c d (hc : I64 c) (hd : I64 d) W (bb : Below w.heap.size w W) => GG.out.rate T c d RM.out hc hd W (HA.out.step bb))
      unfold Tb.val at RT
      obtain ⟨N0, hN0⟩ : ∃ N0, 1 + T.n0 = N0 := ⟨_, rfl⟩
      obtain ⟨N1, hN1⟩ : ∃ N1, 1 + T.n1 = N1 := ⟨_, rfl⟩
      have HN0 := Lib.hid hN0
      have HN1 := Lib.hid hN1
      have m0 : T.n0 ≤ 8 := by omega
      have m1 : T.n1 ≤ 8 := by omega
      have m2 : N0 ≤ 9 := by omega
      have m3 : N1 ≤ 9 := by omega
      have I0 : Hid (∀ z ∈ tl :: T.tm, I64 z) := fun z hz => by
        rcases List.mem_cons.1 hz with rfl | hz
        · exact IT.out
        · exact HA.out.1.2.2 z hz
      have I1 : Hid (∀ z ∈ al :: T.ag, I64 z) := fun z hz => by
        rcases List.mem_cons.1 hz with rfl | hz
        · exact IA.out
        · exact HA.out.2.1.2.2 z hz
      have TH : Hid (∃ i j, i < N0 ∧ j < N1 ∧ Good T tl th al ah v ((tl :: T.tm).getD i 0) ((al :: T.ag).getD j 0)) := by
        obtain ⟨i, j, z1, z2, z3⟩ := THERE.out v rfl
        exact ⟨i, j, by omega, by omega, z3⟩
      have HL0 := Lib.hid L0
      have HL1 := Lib.hid L1
      clear hpA hpB hN0 hN1 L0 L1 o1 o2 THERE OKS
      clear b1 b2 b3 b4 hr hn hrv hnv FACT BADW ok q1 q2
      go_wp2_with (go_at_call 15; (with_reducible refine (WT.out _ M2.out.bl).mono ?_); rintro e w3 ⟨rfl, b3⟩; have M3 := Lib.hid (M2.out.step b3); have t0 := M3.out.tb.c0; have t1 := M3.out.tb.c1; have t2 := M3.out.tb.c2; have t3 := M3.out.tb.lt; have p0 := M3.out.tp.c0; have p1 := M3.out.tp.c1; have p2 := M3.out.tp.lt; have a0 := M3.out.ag.c0; have a1 := M3.out.ag.c1; have a2 := M3.out.ag.lt; clear b3)
      go_quiet (fail)
      have M4 := Lib.hid (M3.out.far (W' := w3.drewN nq) (below_draws (Below.refl _ _) nq))
      clear t0 t1 t2 t3 p0 p1 p2 a0 a1 a2
      have t0 := M4.out.tb.c0
      have t1 := M4.out.tb.c1
      have t2 := M4.out.tb.c2
      have t3 := M4.out.tb.lt
      have p0 := M4.out.tp.c0
      have p1 := M4.out.tp.c1
      have p2 := M4.out.tp.lt
      have a0 := M4.out.ag.c0
      have a1 := M4.out.ag.c1
      have a2 := M4.out.ag.lt
      go_wp2_with (first
        | (go_at_call 11; (with_reducible refine (RA.out _ M4.out.bl).mono ?_); rintro e w5 ⟨rfl, b5⟩; have M5 := Lib.hid (M4.out.step b5); have t0 := M5.out.tb.c0; have t1 := M5.out.tb.c1; have t2 := M5.out.tb.c2; have t3 := M5.out.tb.lt; have p0 := M5.out.tp.c0; have p1 := M5.out.tp.c1; have p2 := M5.out.tp.lt; have a0 := M5.out.ag.c0; have a1 := M5.out.ag.c1; have a2 := M5.out.ag.lt; clear b5)
        | (go_at_call 15; (with_reducible refine (WN.out _ M5.out.bl).mono ?_); rintro e w6 ⟨rfl, b6⟩; have M6 := Lib.hid (M5.out.step b6); have t0 := M6.out.tb.c0; have t1 := M6.out.tb.c1; have t2 := M6.out.tb.c2; have t3 := M6.out.tb.lt; have p0 := M6.out.tp.c0; have p1 := M6.out.tp.c1; have p2 := M6.out.tp.lt; have a0 := M6.out.ag.c0; have a1 := M6.out.ag.c1; have a2 := M6.out.ag.lt; clear b6)
        | (at_builtin; refine wpList_append_own _ rfl _ _ 22 rfl w6.heap.size 3 i0 (.int .i64 0) 1 8 Try.underlying22 hi hi0 hi1 hi2 rfl (by decide) _ 1 [.int .i64 tl] rfl (own_lit w6 tl) pA T.n0 T.c0 (intCells T.tm) (congrArg (fun z => Value.slice z T.n0 T.c0) PA.out) (by simp [intCells, HL0.out]) (RowI.news (RTM.out _ (M6.out.step (below_alloc w6 _)).bl)) (fun u hu => by obtain ⟨z, _, rfl⟩ := List.mem_map.1 hu; rfl) (by unfold maxLen; omega) (by omega) (by simp) ?_; intro v' w7 hown' hgrow _; have BG := Lib.hid (((Below.refl w6.heap.size w6).alloc (Nat.le_refl _) (.cells #[.int .i64 tl] 3)).grown hgrow (by simp) (fun j ej => (World.ownsRow.lt (own_lit w6 tl) j ej).1)); have M7 := Lib.hid (M6.out.step BG.out); rw [HN0.out] at hown'; obtain ⟨g, cp, rfl, gb, RC⟩ := rowI_own (zs := tl :: T.tm) hown' (by simp; have := HN0.out; have := HL0.out; omega) (by have := HN0.out; omega) I0.out; have RC0 := Lib.hid RC; clear hown' hgrow RC gb))
      clear t0 t1 t2 t3 p0 p1 p2 a0 a1 a2 BG
      go_loopw [102] (fun i wr => ∃ k : Nat, k ≤ N0 ∧ i = .int .i64 k ∧ Hid (∀ i', i' < k → ∀ j, j < N1 → ¬ Good T tl th al ah v ((tl :: T.tm).getD i' 0) ((al :: T.ag).getD j 0)) ∧ Hid (RowI wr.heap.size wr (some ⟨g, 0, none⟩) N0 (tl :: T.tm)) ∧ Hid (MM T tl th al ah w wr)) (fun i _ => N0 - (intOf i).toNat)
      case atStart => exact ⟨0, Nat.zero_le _, rfl, fun i' hi' => absurd hi' (by omega), RC0, M7⟩
      case round =>
        obtain ⟨k, hk, rfl, NOK, RW, MR⟩ := hrel
        have t0 := MR.out.tb.c0
        have t1 := MR.out.tb.c1
        have t2 := MR.out.tb.c2
        have t3 := MR.out.tb.lt
        have p0 := MR.out.tp.c0
        have p1 := MR.out.tp.c1
        have p2 := MR.out.tp.lt
        have a0 := MR.out.ag.c0
        have a1 := MR.out.ag.c1
        have a2 := MR.out.ag.lt
        by_cases hlt : k < N0
        · obtain ⟨pc, ec, hcell, hcb⟩ := RW.out.at_ k hlt
          injection ec with ec
          subst ec
          rw [add_zero_off] at hcell
          generalize hcv : (tl :: T.tm).getD k 0 = cv at hcell hcb
          have CV := Lib.hid hcv
          clear hcv
          go_wp2_with (at_builtin; refine wpList_append_own _ rfl _ _ 22 rfl wr.heap.size 3 i0 (.int .i64 0) 1 8 Try.underlying22 hi hi0 hi1 hi2 rfl (by decide) _ 1 [.int .i64 al] rfl (own_lit wr al) pB T.n1 T.c1 (intCells T.ag) (congrArg (fun z => Value.slice z T.n1 T.c1) PB.out) (by simp [intCells, HL1.out]) (RowI.news (RAG.out _ (MR.out.step (below_alloc wr _)).bl)) (fun u hu => by obtain ⟨z, _, rfl⟩ := List.mem_map.1 hu; rfl) (by unfold maxLen; omega) (by omega) (by simp) ?_; intro v' w8 hown' hgrow _; have BG := Lib.hid (((Below.refl wr.heap.size wr).alloc (Nat.le_refl _) (.cells #[.int .i64 al] 3)).grown hgrow (by simp) (fun j ej => (World.ownsRow.lt (own_lit wr al) j ej).1)); have M8 := Lib.hid (MR.out.step BG.out); rw [HN1.out] at hown'; obtain ⟨g1, cp1, rfl, gb, RC⟩ := rowI_own (zs := al :: T.ag) hown' (by simp; have := HN1.out; have := HL1.out; omega) (by have := HN1.out; omega) I1.out; have RD0 := Lib.hid RC; clear hown' hgrow RC gb)
          clear t0 t1 t2 t3 p0 p1 p2 a0 a1 a2
          have RW8 := Lib.hid (RW.out.step BG.out)
          have MR8 := M8
          clear BG M8 hcell
          obtain ⟨wo, rfl⟩ : ∃ wo : World, wo = wr := ⟨_, rfl⟩
          go_loopw [113] (fun i wr => ∃ j : Nat, j ≤ N1 ∧ i = .int .i64 j ∧ Hid (∀ j', j' < j → ¬ Good T tl th al ah v cv ((al :: T.ag).getD j' 0)) ∧ Hid (RowI wr.heap.size wr (some ⟨g, 0, none⟩) N0 (tl :: T.tm)) ∧ Hid (RowI wr.heap.size wr (some ⟨g1, 0, none⟩) N1 (al :: T.ag)) ∧ Hid (MM T tl th al ah w wr)) (fun i _ => N1 - (intOf i).toNat)
          case atStart => exact ⟨0, Nat.zero_le _, rfl, fun j' hj' => absurd hj' (by omega), RW8, RD0, MR8⟩
          case round =>
            obtain ⟨j, hj, rfl, NOJ, RW2, RD, MS⟩ := hrel
            have t0 := MS.out.tb.c0
            have t1 := MS.out.tb.c1
            have t2 := MS.out.tb.c2
            have t3 := MS.out.tb.lt
            have p0 := MS.out.tp.c0
            have p1 := MS.out.tp.c1
            have p2 := MS.out.tp.lt
            have a0 := MS.out.ag.c0
            have a1 := MS.out.ag.c1
            have a2 := MS.out.ag.lt
            by_cases hltj : j < N1
            · obtain ⟨pd, ed, hcell, hdb⟩ := RD.out.at_ j hltj
              injection ed with ed
              subst ed
              rw [add_zero_off] at hcell
              generalize hdv : (al :: T.ag).getD j 0 = dv at hcell hdb
              have DV := Lib.hid hdv
              clear hdv
              rcases (by omega : cv < tl ∨ (tl ≤ cv ∧ th < cv) ∨ (tl ≤ cv ∧ cv ≤ th ∧ dv < al) ∨ (tl ≤ cv ∧ cv ≤ th ∧ al ≤ dv ∧ ah < dv) ∨ (tl ≤ cv ∧ cv ≤ th ∧ al ≤ dv ∧ dv ≤ ah)) with h | ⟨h, h2⟩ | ⟨h, h2, h3⟩ | ⟨h, h2, h3, h4⟩ | ⟨h, h2, h3, h4⟩
              · have d1 : decide (cv < tl) = true := by simp; omega
                have NO' : Hid (∀ j', j' < j + 1 → ¬ Good T tl th al ah v cv ((al :: T.ag).getD j' 0)) := fun j' hj' => by
                  by_cases e : j' = j
                  · subst e; rw [DV.out]; exact fun q => by have := q.1; omega
                  · exact NOJ.out j' (by omega)
                clear NOJ
                go_wp2_with fail
                go_roundw
                case rel => exact ⟨j + 1, by omega, by go_num, NO', RW2, RD, MS⟩
                case measure => simp [intOf]; omega
              · have d1 : decide (cv < tl) = false := by simp; omega
                have d2 : decide (th < cv) = true := by simp; omega
                have NO' : Hid (∀ j', j' < j + 1 → ¬ Good T tl th al ah v cv ((al :: T.ag).getD j' 0)) := fun j' hj' => by
                  by_cases e : j' = j
                  · subst e; rw [DV.out]; exact fun q => by have := q.2.1; omega
                  · exact NOJ.out j' (by omega)
                clear NOJ
                go_wp2_with fail
                go_roundw
                case rel => exact ⟨j + 1, by omega, by go_num, NO', RW2, RD, MS⟩
                case measure => simp [intOf]; omega
              · have d1 : decide (cv < tl) = false := by simp; omega
                have d2 : decide (th < cv) = false := by simp; omega
                have d3 : decide (dv < al) = true := by simp; omega
                have NO' : Hid (∀ j', j' < j + 1 → ¬ Good T tl th al ah v cv ((al :: T.ag).getD j' 0)) := fun j' hj' => by
                  by_cases e : j' = j
                  · subst e; rw [DV.out]; exact fun q => by have := q.2.2.1; omega
                  · exact NOJ.out j' (by omega)
                clear NOJ
                go_wp2_with fail
                go_roundw
                case rel => exact ⟨j + 1, by omega, by go_num, NO', RW2, RD, MS⟩
                case measure => simp [intOf]; omega
              · have d1 : decide (cv < tl) = false := by simp; omega
                have d2 : decide (th < cv) = false := by simp; omega
                have d3 : decide (dv < al) = false := by simp; omega
                have d4 : decide (ah < dv) = true := by simp; omega
                have NO' : Hid (∀ j', j' < j + 1 → ¬ Good T tl th al ah v cv ((al :: T.ag).getD j' 0)) := fun j' hj' => by
                  by_cases e : j' = j
                  · subst e; rw [DV.out]; exact fun q => by have := q.2.2.2.1; omega
                  · exact NOJ.out j' (by omega)
                clear NOJ
                go_wp2_with fail
                go_roundw
                case rel => exact ⟨j + 1, by omega, by go_num, NO', RW2, RD, MS⟩
                case measure => simp [intOf]; omega
              · have d1 : decide (cv < tl) = false := by simp; omega
                have d2 : decide (th < cv) = false := by simp; omega
                have d3 : decide (dv < al) = false := by simp; omega
                have d4 : decide (ah < dv) = false := by simp; omega
                have RX := Lib.hid (RT.out cv dv hcb hdb _ MS.out.bl)
                have RQ : Hid (rateR T cv dv = (v, 0) → True) := fun _ => trivial
                obtain ⟨R, hR⟩ : ∃ R, rateR T cv dv = R := ⟨_, rfl⟩
                rw [hR] at RX
                obtain ⟨z, hz⟩ := R
                dsimp only at RX
                have ng : (z, hz) ≠ (v, 0) → Hid (∀ j', j' < j + 1 → ¬ Good T tl th al ah v cv ((al :: T.ag).getD j' 0)) := fun q j' hj' => by
                  by_cases e : j' = j
                  · subst e; rw [DV.out]; exact fun qq => q (hR.symm.trans qq.2.2.2.2)
                  · exact NOJ.out j' (by omega)
                have NG := Lib.hid ng
                clear ng hR NOJ RQ h h2 h3 h4
                by_cases e0 : hz = 0
                · subst e0
                  by_cases ez : z = v
                  · subst ez
                    clear NG
                    go_wp2_with (go_at_call 11; (with_reducible refine RX.out.mono ?_); rintro e w9 ⟨rfl, b9⟩; have M9 := Lib.hid (MS.out.step b9); clear b9)
                    go_ret
                    exact ⟨rfl, M9.out.bl⟩
                  · have NO' := NG.out (fun q => ez (congrArg Prod.fst q))
                    have f1 : ((z : Int) == v) = false := by simpa using ez
                    clear NG ez
                    go_wp2_with (go_at_call 11; (with_reducible refine RX.out.mono ?_); rintro e w9 ⟨rfl, b9⟩; have M9 := Lib.hid (MS.out.step b9); have RW9 := Lib.hid (RW2.out.step b9); have RD9 := Lib.hid (RD.out.step b9); clear b9)
                    go_roundw
                    case rel => exact ⟨j + 1, by omega, by go_num, NO', RW9, RD9, M9⟩
                    case measure => simp [intOf]; omega
                · have NO' := NG.out (fun q => e0 (congrArg Prod.snd q))
                  have f1 : ((hz : Int) == 0) = false := by simpa using e0
                  clear NG e0
                  go_wp2_with (go_at_call 11; (with_reducible refine RX.out.mono ?_); rintro e w9 ⟨rfl, b9⟩; have M9 := Lib.hid (MS.out.step b9); have RW9 := Lib.hid (RW2.out.step b9); have RD9 := Lib.hid (RD.out.step b9); clear b9)
                  go_roundw
                  case rel => exact ⟨j + 1, by omega, by go_num, NO', RW9, RD9, M9⟩
                  case measure => simp [intOf]; omega
            · obtain rfl : j = N1 := by omega
              have NO' : Hid (∀ i', i' < k + 1 → ∀ j', j' < j → ¬ Good T tl th al ah v ((tl :: T.tm).getD i' 0) ((al :: T.ag).getD j' 0)) := fun i' hi' j' hj' => by
                by_cases e : i' = k
                · subst e; rw [CV.out]; exact NOJ.out j' hj'
                · exact NOK.out i' (by omega) j' hj'
              clear NOJ NOK
              go_wp2_with fail
              go_roundw
              case rel => exact ⟨k + 1, by omega, by go_num, NO', RW2, MS⟩
              case measure => simp [intOf]; omega
        · exfalso
          obtain ⟨i, j, z1, z2, z3⟩ := TH.out
          exact NOK.out i (by omega) j z2 z3
    · have hv := BADW.out he
      subst hv
      have e1 : (er != 0) = true := by simp; omega
      have e2 : (er == 0) = false := by simp; omega
      clear he
      go_wp2_with (go_at_call 15; (with_reducible refine (WT.out _ M2.out.bl).mono ?_); rintro e w3 ⟨rfl, b3⟩; have M3 := Lib.hid (M2.out.step b3); clear b3)
      go_ret
      exact ⟨by simp, M3.out.bl⟩
end Go.Proofs.Ytjjpcgfhoncmeaa
