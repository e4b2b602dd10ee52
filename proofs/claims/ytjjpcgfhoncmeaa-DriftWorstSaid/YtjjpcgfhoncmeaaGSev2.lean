/- Layer 7: package drift's Several, where the table is well-formed and the segments are not too many. -/
import Derived.Test.YtjjpcgfhoncmeaaGSev
namespace Go.Proofs.Ytjjpcgfhoncmeaa
open Go.RowKit Go
set_option linter.unusedVariables false
set_option linter.unusedSimpArgs false

/-- One segment more. -/
theorem spans_take (T : Tb) {l : List Sg} {k : Nat} (hk : k < l.length) : cellsP (spans T (l.take (k + 1))) = cellsP (spans T (l.take k)) ++ [.int .i64 (segLo T (l.getD k Sg.nil)), .int .i64 (segHi T (l.getD k Sg.nil))] := by
  rw [take_sg l Sg.nil k hk, spans_app, cellsP_app]
  simp [spans, cellsP, encP]
theorem segE_bad {T : Tb} (ho : T.Ok) {s : Sg} (h : ¬ SgOk s) : segE T s = 1 := by
  unfold segE
  split
  · rename_i q
    unfold worstR
    rw [if_neg (fun a => h ⟨q, a.2.1, a.2.2⟩)]
  · rfl

set_option maxHeartbeats 8000000 in
theorem sev_yes (T : Tb) (A : Option Addr) (len cap : Nat) (l : List Sg) (ho : T.Ok) (h64 : len ≤ 64) (w : World) (ht : T.At w) (hr : RowS w.heap.size w A len l) :
    Calls Try.prog 21 #[T.val, .slice A len cap] w (Gives (.tuple #[rgV (sevR T l).1 (sevR T l).2.1, .int .i64 (sevR T l).2.2]) w) := by
  obtain ⟨i0, hi, hi0, hi1, hi2⟩ := info_parts info_sp
  obtain ⟨W, hW⟩ : ∃ W, (w.alloc (.cells T.cells 25)).alloc (.cells #[.int .i64 0, .int .i64 0] 27) = W := ⟨_, rfl⟩
  have HT : Hid (Three W w.heap.size 25 (.slice T.A0 T.n0 T.c0) (.slice T.A1 T.n1 T.c1) (.slice T.A2 T.n2 T.c2)) := by rw [← hW]; exact (Three.new w _ _ _ _).alloc _
  have HU : Hid (Two W (w.heap.size + 1) 27 (.int .i64 0) (.int .i64 0)) := by
    rw [← hW]
    have h := Two.new (w.alloc (.cells T.cells 25)) 27 (.int .i64 0) (.int .i64 0)
    rwa [show (w.alloc (.cells T.cells 25)).heap.size = w.heap.size + 1 by simp] at h
  have BW : Hid (Below w.heap.size w W) := by rw [← hW]; exact ((below_alloc w _).alloc (by simp) _)
  have SW : W.heap.size = w.heap.size + 2 := by rw [← hW]; simp
  have t3 := HT.out.lt
  have t0 := HT.out.c0
  have t1 := HT.out.c1
  have t2 := HT.out.c2
  have V := Lib.hid (valid_any T true (by simp [ho]) W (ht.step BW.out))
  have LN := hr.1
  have LH := Lib.hid LN
  have HR := Lib.hid hr
  have HO := Lib.hid ho
  have e1 : Hid (sevR T l = if firstE T l ≠ 0 then (0, 0, firstE T l) else if 3000000000000000 < sumHi T l then (0, 0, 3) else (sumLo T l, sumHi T l, 0)) := by
    unfold Hid sevR; rw [if_pos ho, if_neg (by omega)]
  have RW := Lib.hid (fun (s : Sg) (h1 : s.tl ≤ s.th) (h2 : s.al ≤ s.ah) (W' : World) (b : Below w.heap.size w W') => worstIn_any T ho s.tl s.th s.al s.ah h1 h2 W' (ht.step b))
  clear hr ht LN ho
  unfold Tb.val at V RW ⊢
  unfold Tb.cells at hW
  go_enter Try.func21, Try.ntmps21
  go_wp2_with (go_at_call 13; (with_reducible refine V.out.mono ?_); rintro e w1 ⟨rfl, b1⟩; have O1 : Hid (Own3 T w1 w.heap.size) := ⟨HT.out.below b1 HT.out.lt, HU.out.below b1 HU.out.lt⟩; have B1 := Lib.hid (below_more BW.out b1); have S1 : w.heap.size + 2 ≤ w1.heap.size := (by rw [← SW]; exact b1.size); clear b1 V)
  clear t0 t1 t2 t3 hW SW
  obtain ⟨g, hg⟩ : ∃ g, w1.heap.size = g := ⟨_, rfl⟩
  have G1 : Hid (w.heap.size + 2 ≤ g) := by rw [← hg]; exact S1
  have gw : w.heap.size ≤ g := by omega
  clear S1
  go_loopw [6, 22] (fun v i wr => ∃ (k : Nat) (vv : Value), vv = v ∧ k ≤ len ∧ i = .int .i64 k ∧ Hid (firstE T (l.take k) = 0) ∧ Hid (wr.ownsRow g 56 2 v k (cellsP (spans T (l.take k)))) ∧ Hid (Below g w1 wr)) (fun _ i _ => len - (intOf i).toNat)
  case atStart => exact ⟨0, _, rfl, by omega, rfl, rfl, World.ownsRow_nil _ _ _ _, Below.refl _ _⟩
  case round =>
    obtain ⟨k, v, rfl, hk, rfl, F, HV, HB⟩ := hrel
    have gs : g ≤ wr.heap.size := by rw [← hg]; exact HB.out.size
    have O : Hid (Own3 T wr w.heap.size) := Own3.far O1.out (HB.out.mono G1.out)
    have B : Hid (Below w.heap.size w wr) := B1.out.trans (HB.out.mono gw)
    have t0 := O.out.tb.c0
    have t1 := O.out.tb.c1
    have t2 := O.out.tb.c2
    have t3 := O.out.tb.lt
    have y0 := O.out.res.c0
    have y1 := O.out.res.c1
    have y2 := O.out.res.free 0
    have y3 := O.out.res.free 1
    have y4 := O.out.res.lt
    by_cases h : k < len
    · obtain ⟨p, rfl, hp, SA, SI⟩ := (HR.out.step B.out).at_ k h
      have hkl : k < l.length := by have := LH.out; omega
      have F' := Lib.hid (fun q => first_all hkl F.out q)
      have F2 := Lib.hid ((first_take hkl F.out))
      have CS := Lib.hid (spans_take T hkl)
      have RW := Lib.hid (RW.out (l.getD k Sg.nil))
      have VS := Lib.hid (fun q hq => validSegment_any (l.getD k Sg.nil) SI q hq)
      have WE := worst_err T (l.getD k Sg.nil).tl (l.getD k Sg.nil).th (l.getD k Sg.nil).al (l.getD k Sg.nil).ah
      have WB := worst_bound T (l.getD k Sg.nil).tl (l.getD k Sg.nil).th (l.getD k Sg.nil).al (l.getD k Sg.nil).ah
      have BAD := Lib.hid (fun h => segE_bad (T := T) HO.out (s := l.getD k Sg.nil) h)
      generalize l.getD k Sg.nil = z at SA SI F' F2 CS RW VS WE WB BAD
      obtain ⟨c, tl, th, al, ah⟩ := z
      obtain ⟨z0, z1, z2, z3, z4⟩ := SA
      dsimp only at z0 z1 z2 z3 z4 RW WE WB
      unfold Sg.val at VS
      dsimp only at VS
      obtain ⟨q, hq⟩ : ∃ q, p.add (k * 5) = q := ⟨_, rfl⟩
      have qb : q.block < wr.heap.size := by rw [← hq, block_of_add]; exact hp
      rw [hq] at z0 z1 z2 z3 z4
      obtain ⟨wa, hwa⟩ : ∃ wa, wr.alloc (.cells #[.int .i64 c, .int .i64 tl, .int .i64 th, .int .i64 al, .int .i64 ah] 45) = wa := ⟨_, rfl⟩
      have HN := heap_alloc_new wr (.cells #[.int .i64 c, .int .i64 tl, .int .i64 th, .int .i64 al, .int .i64 ah] 45)
      rw [hwa] at HN
      have BA : Hid (Below wr.heap.size wr wa) := by rw [← hwa]; exact below_alloc wr _
      have hla : wr.heap.size < wa.heap.size := by rw [← hwa]; simp
      have VA : Hid (wa.ownsRow g 56 2 v k (cellsP (spans T (l.take k)))) := by
        show wa.ownsRow _ _ _ _ _ _
        rw [← hwa]; exact HV.out.alloc _
      have GT : Hid (∀ W', Below wa.heap.size wa W' → (W'.cell? ⟨wr.heap.size, 0, none⟩ = some (.int .i64 c) ∧ W'.cell? ⟨wr.heap.size, 1, none⟩ = some (.int .i64 tl) ∧ W'.cell? ⟨wr.heap.size, 2, none⟩ = some (.int .i64 th) ∧ W'.cell? ⟨wr.heap.size, 3, none⟩ = some (.int .i64 al) ∧ W'.cell? ⟨wr.heap.size, 4, none⟩ = some (.int .i64 ah) ∧ wr.heap.size < W'.heap.size) ∧ Own3 T W' w.heap.size ∧ Below w.heap.size w W' ∧ Below g w1 W' ∧ W'.ownsRow g 56 2 v k (cellsP (spans T (l.take k)))) := fun W' b => by
        have h := (b.block _ hla).trans HN
        have bb : Below wr.heap.size wr W' := below_more BA.out b
        have bg : Below g w1 W' := HB.out.trans (bb.mono gs)
        exact ⟨⟨cell_of_row W' _ 0 _ _ (0, 0) h, cell_of_row W' _ 1 _ _ (0, 0) h, cell_of_row W' _ 2 _ _ (0, 0) h, cell_of_row W' _ 3 _ _ (0, 0) h, cell_of_row W' _ 4 _ _ (0, 0) h, Nat.lt_of_lt_of_le hla b.size⟩,
          Own3.far O1.out (bg.mono G1.out), B1.out.trans (bg.mono gw), bg, VA.out.kept (grown_of_below b) (own_em _)⟩
      clear HN VA
      obtain ⟨⟨a0, a1, a2, a3, a4, a5⟩, _⟩ := GT.out wa (Below.refl _ _)
      by_cases hs : SgOk ⟨c, tl, th, al, ah⟩
      · have VS := Lib.hid (VS.out true ⟨fun _ => hs, fun _ => rfl⟩ wa)
        obtain ⟨hst, hs1, hs2⟩ := hs
        dsimp only at hst hs1 hs2
        have RW := Lib.hid (RW.out hs1 hs2)
        have EL := Lib.hid (fun ra (b : 0 ≤ ra ∧ ra ≤ 1000000) => elapsedIn_any ra c b hst)
        unfold segE at F' F2
        unfold segLo segHi at CS
        dsimp only at F' F2 CS
        rw [if_pos hst] at F' F2
        generalize worstR T tl th al ah = m at F' F2 RW WE WB CS
        obtain ⟨ra, er⟩ := m
        dsimp only at F' F2 RW WE WB CS
        unfold rgV at RW EL
        by_cases he : er = 0
        · subst he
          have EL := Lib.hid (EL.out ra WB)
          generalize elLo ra c = x at CS EL
          generalize elHi ra c = y at CS EL
          clear F' F e1 BAD WE hs1 hs2 hst
          have X2 : Hid (∀ w5, Below wa.heap.size wa w5 → g ≤ w5.heap.size) := fun w5 b => Nat.le_trans gs (Nat.le_trans (Nat.le_of_lt hla) b.size)
          go_wp2_with (first
            | (go_at_call 43; (with_reducible refine VS.out.mono ?_); rintro e w3 ⟨rfl, b3⟩; have B3 := Lib.hid b3; obtain ⟨⟨s0, s1, s2, s3, s4, s5⟩, O3, N3, _, _⟩ := GT.out _ B3.out; have N3 := Lib.hid N3; have x0 := O3.tb.c0; have x1 := O3.tb.c1; have x2 := O3.tb.c2; have x3 := O3.tb.lt; clear b3 VS O3)
            | (go_at_call 35; (with_reducible refine (RW.out _ N3.out).mono ?_); rintro e w4 ⟨rfl, b4⟩; have B4 := Lib.hid (below_more B3.out b4); obtain ⟨⟨r0, r1, r2, r3, r4, r5⟩, _, _, _, _⟩ := GT.out _ B4.out; clear b4 RW)
            | (go_at_call 38; (with_reducible refine (EL.out _).mono ?_); rintro e w5 ⟨rfl, b5⟩; have B5 := Lib.hid (below_more B4.out b5); have G5 := Lib.hid (GT.out _ B5.out).2.2.2; have sz5 := X2.out _ B5.out; have HCN := Lib.hid (cells_new w5 56 [.int .i64 x, .int .i64 y]); clear b5 EL)
            | (at_builtin; refine wpList_append_own _ rfl _ _ 58 rfl g 56 i0 (.agg #[.int .i64 0, .int .i64 0]) 2 16 Try.underlying58 hi hi0 hi1 hi2 rfl (by decide) _ _ _ rfl (G5.out.2.alloc _) ⟨w5.heap.size, 0, none⟩ 1 1 [.int .i64 x, .int .i64 y] rfl rfl HCN.out (by simp [Value.oneCell']) (by unfold maxLen; omega) (by omega) (by simp; omega) ?_; intro v' w6 hown' hgrow _; have HB6 := Lib.hid ((G5.out.1.alloc sz5 _).grown hgrow (by simp; omega) (fun j ej => (World.ownsRow.lt G5.out.2 j ej).1)); have HO6 := Lib.hid hown'; clear hown' hgrow))
          have HVn : Hid (w6.ownsRow g 56 2 v' (k + 1) (cellsP (spans T (l.take (k + 1))))) := by
            show w6.ownsRow _ _ _ _ _ _
            rw [CS.out]
            exact HO6.out
          go_roundw
          case rel => exact ⟨k + 1, v', rfl, by omega, by go_num, F2.out, HVn, HB6⟩
          case measure => simp [intOf]; omega
        · have E : Hid (sevR T l = (0, 0, er)) := by
            have f := F'.out he
            have e := e1.out
            rw [if_pos (by rw [f]; exact he), f] at e
            exact e
          have he3 : (er == 0) = false := by simp; omega
          have he4 : (er != 0) = true := by simp; omega
          clear F' F2 CS WE WB BAD EL hs1 hs2 hst F e1 he
          go_wp2_with (first
            | (go_at_call 43; (with_reducible refine VS.out.mono ?_); rintro e w3 ⟨rfl, b3⟩; have B3 := Lib.hid b3; obtain ⟨⟨s0, s1, s2, s3, s4, s5⟩, O3, N3, _, _⟩ := GT.out _ B3.out; have N3 := Lib.hid N3; have x0 := O3.tb.c0; have x1 := O3.tb.c1; have x2 := O3.tb.c2; have x3 := O3.tb.lt; clear b3 VS O3)
            | (go_at_call 35; (with_reducible refine (RW.out _ N3.out).mono ?_); rintro e w4 ⟨rfl, b4⟩; have B4 := Lib.hid (below_more B3.out b4); have N4 := Lib.hid (below_more N3.out b4); have O4 := (GT.out _ B4.out).2.1; have r0 := O4.res.c0; have r1 := O4.res.c1; have r2 := O4.res.free 0; have r3 := O4.res.free 1; have r4 := O4.res.lt; clear b4 RW O4))
          refine bodyPost_ret (v := .tuple #[.agg #[.int .i64 0, .int .i64 0], .int .i64 er]) (by simp [results, Try.results21, go_sem, r0, r1, r4]) rfl ⟨by rw [E.out]; rfl, ?_⟩
          exact (N4.out.setCell (p := ⟨w.heap.size + 1, 0, none⟩) (by simp) _).setCell (p := ⟨w.heap.size + 1, 1, none⟩) (by simp) _
      · have VS := Lib.hid (VS.out false ⟨fun h => (by cases h), fun h => absurd h hs⟩ wa)
        have E : Hid (sevR T l = (0, 0, 1)) := by
          have b := BAD.out hs
          have f := F'.out (by rw [b]; decide)
          have e := e1.out
          rw [b] at f
          rw [if_pos (by rw [f]; decide), f] at e
          exact e
        clear F' F2 CS RW WE WB BAD hs F e1
        go_wp2_with (go_at_call 43; (with_reducible refine VS.out.mono ?_); rintro e w3 ⟨rfl, b3⟩; obtain ⟨_, O3, N3, _, _⟩ := GT.out _ b3; have N3 := Lib.hid N3; have r0 := O3.res.c0; have r1 := O3.res.c1; have r2 := O3.res.free 0; have r3 := O3.res.free 1; have r4 := O3.res.lt; clear b3 VS O3)
        refine bodyPost_ret (v := .tuple #[.agg #[.int .i64 0, .int .i64 0], .int .i64 1]) (by simp [results, Try.results21, go_sem, r0, r1, r4]) rfl ⟨by rw [E.out]; rfl, ?_⟩
        exact (N3.out.setCell (p := ⟨w.heap.size + 1, 0, none⟩) (by simp) _).setCell (p := ⟨w.heap.size + 1, 1, none⟩) (by simp) _
    · obtain rfl : k = len := by omega
      have et : l.take k = l := by rw [List.take_of_length_le]; have := LH.out; omega
      have F' : firstE T l = 0 := by rw [← et]; exact F.out
      have HX := HV.out
      rw [et] at HX
      have sl : (spans T l).length = k := by rw [spans_len]; exact LH.out
      rw [← sl] at HX
      obtain ⟨A2, cap2, hv, HP⟩ := rowP_own HX
      rw [sl] at hv HP
      subst hv
      have FO := Lib.hid (fold_any A2 k cap2 (spans T l) h64 (spans_few T l F') wr HP)
      rw [spans_1, spans_2] at FO
      have e2 := e1.out
      rw [if_neg (by omega)] at e2
      have sb := sum_bound T l F'
      rw [LH.out] at sb
      clear HX HV F F' et sl e1 HP RW
      unfold rgV at FO
      generalize sumLo T l = lo at FO e2 sb
      generalize sumHi T l = hi at FO e2 sb
      by_cases q : 3000000000000000 < hi
      · rw [if_pos q] at e2
        have E2 := Lib.hid e2
        clear e2
        go_wp2_with (go_at_call 44; (with_reducible refine FO.out.mono ?_); rintro e w7 ⟨rfl, b7⟩; have B7 := Lib.hid (below_more B.out b7); have N7 := Lib.hid (B7.out.alloc B7.out.size (.cells #[.int .i64 lo, .int .i64 hi] 56)); have R7 := Lib.hid ((O.out.res.below b7 O.out.res.lt).alloc (.cells #[.int .i64 lo, .int .i64 hi] 56)); have r0 := R7.out.c0; have r1 := R7.out.c1; have r2 := R7.out.free 0; have r3 := R7.out.free 1; have r4 := R7.out.lt; clear b7 FO)
        refine bodyPost_ret (v := .tuple #[.agg #[.int .i64 0, .int .i64 0], .int .i64 3]) (by simp [results, Try.results21, go_sem, r0, r1, r4]) rfl ⟨by rw [E2.out]; rfl, ?_⟩
        exact (N7.out.setCell (p := ⟨w.heap.size + 1, 0, none⟩) (by simp) _).setCell (p := ⟨w.heap.size + 1, 1, none⟩) (by simp) _
      · rw [if_neg q] at e2
        have E2 := Lib.hid e2
        clear e2
        go_wp2_with (go_at_call 44; (with_reducible refine FO.out.mono ?_); rintro e w7 ⟨rfl, b7⟩; have B7 := Lib.hid (below_more B.out b7); have N7 := Lib.hid (B7.out.alloc B7.out.size (.cells #[.int .i64 lo, .int .i64 hi] 56)); have R7 := Lib.hid ((O.out.res.below b7 O.out.res.lt).alloc (.cells #[.int .i64 lo, .int .i64 hi] 56)); have r0 := R7.out.c0; have r1 := R7.out.c1; have r2 := R7.out.free 0; have r3 := R7.out.free 1; have r4 := R7.out.lt; clear b7 FO)
        refine bodyPost_ret (v := .tuple #[.agg #[.int .i64 lo, .int .i64 hi], .int .i64 0]) (by simp [results, Try.results21, go_sem, r0, r1, r4]) rfl ⟨by rw [E2.out]; rfl, ?_⟩
        exact (N7.out.setCell (p := ⟨w.heap.size + 1, 0, none⟩) (by simp) _).setCell (p := ⟨w.heap.size + 1, 1, none⟩) (by simp) _

theorem several_any (T : Tb) (A : Option Addr) (len cap : Nat) (l : List Sg) (w : World) (ht : T.At w) (hr : RowS w.heap.size w A len l) (hl : len ≤ 9223372036854775807) :
    Calls Try.prog 21 #[T.val, .slice A len cap] w (Gives (.tuple #[rgV (sevR T l).1 (sevR T l).2.1, .int .i64 (sevR T l).2.2]) w) := by
  by_cases h : T.Ok ∧ len ≤ 64
  · exact sev_yes T A len cap l h.1 h.2 w ht hr
  · refine sev_no T A len cap l ?_ w ht hr hl
    by_cases q : T.Ok
    · exact .inr (by have : ¬ len ≤ 64 := fun r => h ⟨q, r⟩; omega)
    · exact .inl q

/-- What package drift returns. -/
theorem dft : Dft where
  valid := fun T q hq _ w ht => valid_any T q hq w ht
  rate := fun T x y _ _ _ w ht => rate_any T x y w ht
  worst := fun T tl th al ah _ _ _ _ _ w ht => worst_any T tl th al ah w ht
  el := fun r c hr hc w => elapsed_any r c hr hc w
  co := fun r c hr hc w => counts_any r c hr hc w
  sev := fun T A len cap l _ h1 h2 _ w ht hr => several_any T A len cap l w ht hr (by omega)
end Go.Proofs.Ytjjpcgfhoncmeaa
