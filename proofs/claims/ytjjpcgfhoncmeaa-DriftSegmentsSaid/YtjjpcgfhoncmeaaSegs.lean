/- Layer 7: DriftSegments. -/
import Derived.Deep.RegionHeld3
import Derived.Deep.RegionWith
import Derived.Test.YtjjpcgfhoncmeaaOwnS
import Derived.Test.YtjjpcgfhoncmeaaMatch
namespace Go.Proofs.Ytjjpcgfhoncmeaa
open Go.RowKit Go
set_option linter.unusedVariables false
set_option linter.unusedSimpArgs false

/-- What lies while the law runs: its table; nothing that was there is changed. -/
structure TT (T : Tb) (w W : World) : Prop where
  tb : Three W w.heap.size 25 (.slice T.A0 T.n0 T.c0) (.slice T.A1 T.n1 T.c1) (.slice T.A2 T.n2 T.c2)
  bl : Below w.heap.size w W
theorem TT.sz {T : Tb} {w W : World} (h : TT T w W) : w.heap.size + 1 ≤ W.heap.size := h.tb.lt
theorem TT.far {T : Tb} {w W W' : World} (h : TT T w W) (b : Below (w.heap.size + 1) W W') : TT T w W' := ⟨h.tb.below b (by omega), h.bl.trans (b.mono (by omega))⟩
theorem TT.step {T : Tb} {w W W' : World} (h : TT T w W) (b : Below W.heap.size W W') : TT T w W' := h.far (b.mono h.sz)
theorem TT.drew {T : Tb} {w W : World} (h : TT T w W) : TT T w W.drew := ⟨h.tb, h.bl.drew⟩
theorem TT.box {T : Tb} {w W : World} (h : TT T w W) (o : Obj) : TT T w (W.alloc o) := h.step (below_alloc W o)
theorem tt_start (T : Tb) (w : World) : ∃ W, w.alloc (.cells #[.slice T.A0 T.n0 T.c0, .slice T.A1 T.n1 T.c1, .slice T.A2 T.n2 T.c2] 25) = W ∧ TT T w W := ⟨_, rfl, Three.new w _ _ _ _, below_alloc w _⟩

/-- The first few of them. -/
theorem RowS.take {B : Nat} {w : World} {A : Option Addr} {n : Nat} {l : List Sg} (h : RowS B w A n l) (m : Nat) (hm : m ≤ n) : RowS B w A m (l.take m) := by
  have hz := h.1
  refine ⟨by rw [List.length_take]; omega, fun h0 => ?_, fun s hs => h.2.2 s (List.mem_of_mem_take hs)⟩
  obtain ⟨p, e, hp, hc⟩ := h.2.1 (by omega)
  refine ⟨p, e, hp, fun i hi => ?_⟩
  have k := hc i (by omega)
  rwa [show (l.take m).getD i Sg.nil = l.getD i Sg.nil by simp [List.getD, List.getElem?_take, hi]]

theorem sev_zero {T : Tb} {l : List Sg} (h : (sevR T l).2.2 = 0) : firstE T l = 0 := by
  unfold sevR at h
  split at h
  · split at h
    · simp at h
    · split at h
      · exact h
      · rename_i q; exact Classical.not_not.1 q
  · simp at h

theorem rslice0 (p : Addr) (n cap b : Nat) (y : Int) (hy : y = (b : Int)) (W : World) (h2 : b ≤ cap) :
    (Instr.slice 28 (.slice (some p) n cap) none (some (.int .i64 y)) none).run Try.prog W = .ok (.slice (some p) b cap) W := by
  subst hy
  simp [go_sem, h2]
/-- Five cells, of a segment. -/
def Five (w : World) (g : Nat) (s : Sg) : Prop := w.heap[g]? = some (.cells #[.int .i64 s.c, .int .i64 s.tl, .int .i64 s.th, .int .i64 s.al, .int .i64 s.ah] 45 (0, 0))
section
variable {w : World} {g : Nat} {s : Sg}
theorem Five.lt (h : Five w g s) : g < w.heap.size := by
  rcases Nat.lt_or_ge g w.heap.size with hl | hl
  · exact hl
  · unfold Five at h; rw [Array.getElem?_eq_none hl] at h; cases h
theorem Five.c0 (h : Five w g s) : w.cell? ⟨g, 0, none⟩ = some (.int .i64 s.c) := cell_of_row w g 0 _ _ (0, 0) h
theorem Five.c1 (h : Five w g s) : w.cell? ⟨g, 1, none⟩ = some (.int .i64 s.tl) := cell_of_row w g 1 _ _ (0, 0) h
theorem Five.c2 (h : Five w g s) : w.cell? ⟨g, 2, none⟩ = some (.int .i64 s.th) := cell_of_row w g 2 _ _ (0, 0) h
theorem Five.c3 (h : Five w g s) : w.cell? ⟨g, 3, none⟩ = some (.int .i64 s.al) := cell_of_row w g 3 _ _ (0, 0) h
theorem Five.c4 (h : Five w g s) : w.cell? ⟨g, 4, none⟩ = some (.int .i64 s.ah) := cell_of_row w g 4 _ _ (0, 0) h
theorem Five.new (w : World) (s : Sg) : Five (w.alloc (.cells #[.int .i64 s.c, .int .i64 s.tl, .int .i64 s.th, .int .i64 s.al, .int .i64 s.ah] 45)) w.heap.size s := heap_alloc_new w _
theorem Five.below {B : Nat} {w' : World} (h : Five w g s) (hb : Below B w w') (hg : g < B) : Five w' g s := (hb.block g hg).trans h
end

set_option maxRecDepth 100000 in
set_option maxHeartbeats 16000000 in
theorem segs_walk (G : Dft) (T : Tb) (A : Option Addr) (len cap : Nat) (l : List Sg) (room : T.Room) (w : World) (ht : T.At w)
    (hr : RowS w.heap.size w A len l) (hl : len ≤ cap) (hc : cap ≤ 9223372036854775807) (hn : A = none → cap = 0) :
    Calls Try.prog 7 #[T.val, .slice A len cap] w (Gives (.bool true) w) := by
  obtain ⟨i0, hi, hi0, hi1, hi2⟩ := info_parts info_sg
  have HD := Lib.hid (head_true G)
  have FE := Lib.hid (fun W (b : Below w.heap.size w W) => few_any T W (ht.step b))
  have SV := Lib.hid (fun W (b : Below w.heap.size w W) => G.sev T A len cap l room hl hc hn W (ht.step b) (hr.step b))
  have SW := Lib.hid (fun A' n' c' l' (h1 : n' ≤ c') (h2 : c' ≤ 9223372036854775807) (h3 : A' = none → c' = 0) W (b : Below w.heap.size w W) (r : RowS W.heap.size W A' n' l') => G.sev T A' n' c' l' room h1 h2 h3 W (ht.step b) r)
  have HR := Lib.hid hr
  have LH := Lib.hid hr.1
  have HN := Lib.hid hn
  have GG := Lib.hid G
  have RM := Lib.hid room
  have HT := Lib.hid ht
  have SB := Lib.hid (sev_rev_bad T l)
  have SG := Lib.hid (sev_good T l)
  have eS : Hid (sevR T l = sevR T l) := rfl
  obtain ⟨S, hS⟩ : ∃ S, sevR T l = S := ⟨_, rfl⟩
  rw [hS] at SV SB SG
  obtain ⟨S0, S1, S2⟩ := S
  dsimp only at SV SB SG
  have hl9 : len ≤ 9223372036854775807 := by omega
  clear hr ht hn room G hS eS
  unfold rgV Tb.val at *
  obtain ⟨W, hW, M⟩ := tt_start T w
  have M0 := Lib.hid M
  clear M
  have t0 := M0.out.tb.c0
  have t1 := M0.out.tb.c1
  have t2 := M0.out.tb.c2
  have t3 := M0.out.tb.lt
  go_enter Try.func7, Try.ntmps7
  go_wp2_with (go_at_call 9; refine (HD.out _).mono ?_; rintro e w1 ⟨rfl, b1⟩; have M1 := Lib.hid (M0.out.step b1); have t0 := M1.out.tb.c0; have t1 := M1.out.tb.c1; have t2 := M1.out.tb.c2; have t3 := M1.out.tb.lt; clear b1)
  refine (FE.out _ M1.out.bl).mono ?_
  rintro e w2 ⟨⟨q, rfl⟩, b2⟩
  have M2 := Lib.hid (M1.out.step b2)
  clear t0 t1 t2 t3 b2 M0 hW
  have t0 := M2.out.tb.c0
  have t1 := M2.out.tb.c1
  have t2 := M2.out.tb.c2
  have t3 := M2.out.tb.lt
  cases q with
  | false =>
    go_wp2_with fail
    go_ret
    exact ⟨rfl, M2.out.bl⟩
  | true =>
    rcases (by omega : len = 0 ∨ 64 < len ∨ (1 ≤ len ∧ len ≤ 64)) with h | h | ⟨h1, h64⟩
    · subst h
      go_wp2_with fail
      go_ret
      exact ⟨rfl, M2.out.bl⟩
    · have hz : ((len : Int) == 0) = false := by simp; omega
      go_wp2_with fail
      go_ret
      exact ⟨rfl, M2.out.bl⟩
    · have hz : ((len : Int) == 0) = false := by simp; omega
      go_wp2_with (go_at_call 21; (with_reducible refine (SV.out _ M2.out.bl).mono ?_); rintro e w3 ⟨rfl, b3⟩; have M3 := Lib.hid ((M2.out.step b3).box (.cells #[.int .i64 S0, .int .i64 S1] 27)); have K3 := Lib.hid (show Bag _ [(_, S0, S1)] from ⟨Two.new w3 _ _ _, trivial⟩); clear b3)
      obtain ⟨wa, hwa⟩ : ∃ wa, w3.alloc (.cells #[.int .i64 S0, .int .i64 S1] 27) = wa := ⟨_, rfl⟩
      rw [hwa] at M3 K3 ⊢
      clear M1 M2 t0 t1 t2 t3 hwa hz
      go_loopw [8, 9] (fun v i wr => ∃ k : Nat, k ≤ len ∧ i = .int .i64 ((len : Int) - 1 - (k : Int)) ∧ Hid (wr.ownsRow wa.heap.size 45 5 v k (cellsS (l.reverse.take k))) ∧ Hid (Below wa.heap.size wa wr)) (fun _ i _ => (intOf i + 1).toNat)
      case atStart => exact ⟨0, by omega, by simp, World.ownsRow_nil _ _ _ _, Below.refl _ _⟩
      case round =>
        obtain ⟨k, hk, rfl, HV, HB⟩ := hrel
        by_cases hlt : k < len
        · obtain ⟨j, hj⟩ : ∃ j, len - 1 - k = j := ⟨_, rfl⟩
          have ej : (len : Int) - 1 - (k : Int) = (j : Int) := by omega
          have jl : j < len := by omega
          obtain ⟨p, rfl, hp, SA, _⟩ := (HR.out.step (M3.out.bl.trans (HB.out.mono M3.out.bl.size))).at_ j jl
          obtain ⟨c0, c1, c2, c3, c4⟩ := SA
          have HSR : Hid (l.reverse.take (k + 1) = l.reverse.take k ++ [l.getD j Sg.nil]) := by
            show _ = _
            rw [take_sg l.reverse Sg.nil k (by rw [List.length_reverse, LH.out]; exact hlt)]
            congr 2
            have h1 : k < l.length := by rw [LH.out]; exact hlt
            simp only [List.getD, List.getElem?_reverse h1]
            rw [show l.length - 1 - k = j by rw [LH.out]; exact hj]
          generalize l.getD j Sg.nil = z at c0 c1 c2 c3 c4 HSR
          obtain ⟨zc, ztl, zth, zal, zah⟩ := z
          dsimp only at c0 c1 c2 c3 c4
          have HCN := Lib.hid (cells_new wr 45 [.int .i64 zc, .int .i64 ztl, .int .i64 zth, .int .i64 zal, .int .i64 zah])
          have hsz : wa.heap.size ≤ wr.heap.size := HB.out.size
          rw [ej]
          go_wp2_with (at_builtin; refine wpList_append_own _ rfl _ _ 28 rfl wa.heap.size 45 i0 (.agg #[.int .i64 0, .int .i64 0, .int .i64 0, .int .i64 0, .int .i64 0]) 5 40 Try.underlying28 hi hi0 hi1 hi2 rfl (by decide) _ _ _ rfl (HV.out.alloc _) ⟨wr.heap.size, 0, none⟩ 1 1 [.int .i64 zc, .int .i64 ztl, .int .i64 zth, .int .i64 zal, .int .i64 zah] rfl rfl HCN.out (by simp [Value.oneCell']) (by unfold maxLen; omega) (by omega) (by simp; omega) ?_; intro v' w4 hown' hgrow _; have hb4 : Below wa.heap.size wa w4 := (HB.out.alloc hsz _).grown hgrow (by simp; omega) (fun j ej => (World.ownsRow.lt HV.out j ej).1); have HB4 := Lib.hid hb4; have HO4 := Lib.hid hown'; clear hown' hgrow hb4)
          have HVn : Hid (w4.ownsRow wa.heap.size 45 5 v' (k + 1) (cellsS (l.reverse.take (k + 1)))) := by
            show w4.ownsRow _ _ _ _ _ _
            rw [HSR.out, cellsS_app]
            exact HO4.out
          go_roundw
          case rel => exact ⟨k + 1, by omega, congrArg (Value.int .i64) (by omega), HVn, HB4⟩
          case measure => simp [intOf]
        · obtain rfl : k = len := by omega
          have hE2 : l.reverse.take k = l.reverse := by rw [← LH.out, ← List.length_reverse]; exact List.take_length
          rw [hE2] at HV
          clear hE2
          have lr : l.reverse.length = k := by rw [List.length_reverse, LH.out]
          have HX := HV.out
          rw [← lr] at HX
          obtain ⟨A2, cap2, hv, v1, v2, v3, v4⟩ := rowS_own HX (fun s hs => HR.out.2.2 s (List.mem_reverse.1 hs))
          rw [lr] at hv v1 v4
          subst hv
          have M4 := Lib.hid (M3.out.far (HB.out.mono M3.out.sz))
          have K4 := Lib.hid (Bag.step HB.out K3.out)
          have SX := Lib.hid (SW.out A2 k cap2 l.reverse v1 v2 v3 wr M4.out.bl v4)
          have t0 := M4.out.tb.c0
          have t1 := M4.out.tb.c1
          have t2 := M4.out.tb.c2
          have t3 := M4.out.tb.lt
          have ek : (k : Int) - 1 - (k : Int) = -1 := by omega
          clear HV HX v1 v3 v4 lr HB SV
          by_cases hS : S2 = 0
          · subst hS
            obtain ⟨ok, g1, g2, g3, g4, g5, g6, g7, g8, g9, g10⟩ := SG.out (by rw [LH.out]; exact h1) rfl
            simp only [Prod.mk.injEq] at g1
            obtain ⟨rfl, rfl, _⟩ := g1
            rw [g2] at SX
            dsimp only at SX
            obtain ⟨m, hm⟩ : ∃ m, k - 1 = m := ⟨_, rfl⟩
            have em : (k : Int) - 1 = (m : Int) := by omega
            have ml : m < k := by omega
            rw [LH.out, hm] at g3 g4 g5 g6
            obtain ⟨p, rfl, hpb, SA, SI⟩ := (HR.out.step M4.out.bl).at_ m ml
            have TK := Lib.hid (fun W (b : Below w.heap.size w W) => SW.out (some p) m cap (l.take m) (by omega) hc (fun h => by cases h) W b ((HR.out.step b).take m (by omega)))
            rw [g3] at TK
            dsimp only at TK
            have st := seg_ok g4
            have we : (worstR T (l.getD m Sg.nil).tl (l.getD m Sg.nil).th (l.getD m Sg.nil).al (l.getD m Sg.nil).ah).2 = 0 := by
              unfold segE at g4
              rwa [if_pos st] at g4
            have WB := worst_bound T (l.getD m Sg.nil).tl (l.getD m Sg.nil).th (l.getD m Sg.nil).al (l.getD m Sg.nil).ah
            have WT := Lib.hid (fun W (b : Below w.heap.size w W) => GG.out.worst T (l.getD m Sg.nil).tl (l.getD m Sg.nil).th (l.getD m Sg.nil).al (l.getD m Sg.nil).ah RM.out SI.2.1 SI.2.2.1 SI.2.2.2.1 SI.2.2.2.2 W (HT.out.step b))
            have sb := seg_bound T (l.getD m Sg.nil) st
            have tb := sum_bound T (l.take m) (sev_zero (by rw [g3]))
            rw [List.length_take, LH.out] at tb
            have EL := Lib.hid (fun W => GG.out.el (worstR T (l.getD m Sg.nil).tl (l.getD m Sg.nil).th (l.getD m Sg.nil).al (l.getD m Sg.nil).ah).1 (l.getD m Sg.nil).c ⟨by omega, by omega⟩ SI.1 W)
            have ee : elR (worstR T (l.getD m Sg.nil).tl (l.getD m Sg.nil).th (l.getD m Sg.nil).al (l.getD m Sg.nil).ah).1 (l.getD m Sg.nil).c = (segLo T (l.getD m Sg.nil), segHi T (l.getD m Sg.nil), 0) := if_pos ⟨WB, st⟩
            rw [ee] at EL
            rw [we] at WT
            dsimp only at EL
            clear ee we st SG SB g2 g3 g4 ok g7 g8
            have SA := Lib.hid SA
            generalize segLo T (l.getD m Sg.nil) = x at EL g5 sb
            generalize segHi T (l.getD m Sg.nil) = y at EL g6 sb
            generalize sumLo T (l.take m) = c0 at TK g5 tb
            generalize sumHi T (l.take m) = c1 at TK g6 tb
            generalize sumLo T l = LO at *
            generalize sumHi T l = HI at *
            generalize (worstR T (l.getD m Sg.nil).tl (l.getD m Sg.nil).th (l.getD m Sg.nil).al (l.getD m Sg.nil).ah).1 = ra at EL WT WB
            generalize l.getD m Sg.nil = z at *
            have e1 : wrap64 (c0 + x) = LO := by unfold wrap64; omega
            have e2 : wrap64 (c1 + y) = HI := by unfold wrap64; omega
            obtain ⟨q, hq⟩ : ∃ q, p.add (m * 5) = q := ⟨_, rfl⟩
            have qb : q.block < wr.heap.size := by rw [← hq, block_of_add]; exact hpb
            rw [hq] at SA
            obtain ⟨zc, ztl, zth, zal, zah⟩ := z
            dsimp only at EL WT
            unfold rgV Tb.val at *
            clear g5 g6 g9 g10 tb sb WB
            have qc : q.block < w.heap.size + 1 + wr.heap.size := by omega
            go_wp2_with (go_at_call 21; (with_reducible refine SX.out.mono ?_); rintro e w5 ⟨rfl, b5⟩; have M5 := Lib.hid ((M4.out.step b5).box (.cells #[.int .i64 LO, .int .i64 HI] 27)); have K5 := Lib.hid (K4.out.box b5 LO HI); have Z5 := Lib.hid (SgAt.below SA.out (b5.alloc b5.size (.cells #[.int .i64 LO, .int .i64 HI] 27)) qb); have z0 := Z5.out.1; have z1 := Z5.out.2.1; have z2 := Z5.out.2.2.1; have z3 := Z5.out.2.2.2.1; have z4 := Z5.out.2.2.2.2; clear b5)
            have hw35 : w3.heap.size < wr.heap.size := K4.out.1.lt
            obtain ⟨wb, hwb⟩ : ∃ wb, w5.alloc (.cells #[.int .i64 LO, .int .i64 HI] 27) = wb := ⟨_, rfl⟩
            rw [hwb] at M5 K5 ⊢
            have sb : wb.heap.size = w5.heap.size + 1 := by rw [← hwb]; simp
            obtain ⟨wl, hwl⟩ : ∃ wl, wb.alloc (.cells #[.int .i64 zc, .int .i64 ztl, .int .i64 zth, .int .i64 zal, .int .i64 zah] 45) = wl := ⟨_, rfl⟩
            rw [hwl]
            have ML : Hid (TT T w wl) := by rw [← hwl]; exact M5.out.box _
            have KL : Hid (Bag wl [(w5.heap.size, LO, HI), (w3.heap.size, LO, HI)]) := by rw [← hwl]; exact Bag.step (below_alloc _ _) K5.out
            have FL : Hid (Five wl (w5.heap.size + 1) ⟨zc, ztl, zth, zal, zah⟩) := by rw [← hwl, ← sb]; exact Five.new wb ⟨zc, ztl, zth, zal, zah⟩
            have sl : wl.heap.size = w5.heap.size + 2 := by rw [← hwl]; simp [sb]
            have MD := Lib.hid ML.out.drew
            have TA := Lib.hid (TK.out wl.drew MD.out.bl)
            have BA : Hid (Below wl.heap.size wl (wl.alloc (.cells #[.int .i64 0, .int .i64 0] 27)).drew) := (below_alloc wl _).drew
            have MA := Lib.hid (ML.out.step BA.out)
            have TB := Lib.hid (TK.out (wl.alloc (.cells #[.int .i64 0, .int .i64 0] 27)).drew MA.out.bl)
            have NA : Hid (Two (wl.alloc (.cells #[.int .i64 0, .int .i64 0] 27)).drew wl.heap.size 27 (.int .i64 0) (.int .i64 0)) := Two.new wl _ _ _
            have KA := Lib.hid (Bag.step BA.out KL.out)
            have FA := Lib.hid (FL.out.below BA.out FL.out.lt)
            have BD : Hid (Below wl.heap.size wl wl.drew) := (Below.refl _ wl).drew
            have KD := Lib.hid (Bag.step BD.out KL.out)
            have FD := Lib.hid (FL.out.below BD.out FL.out.lt)
            clear t0 t1 t2 t3 z0 z1 z2 z3 z4 Z5 hwb hwl M5 K5 SX
            have t0 := MD.out.tb.c0
            have t1 := MD.out.tb.c1
            have t2 := MD.out.tb.c2
            have t3 : w.heap.size < wl.heap.size := ML.out.tb.lt
            have a0 := MA.out.tb.c0
            have a1 := MA.out.tb.c1
            have a2 := MA.out.tb.c2
            have u3 : ¬ w.heap.size = wl.heap.size := by omega
            have u4 : ¬ wl.heap.size = w.heap.size := by omega
            have SL := Lib.hid sl
            have mc : m ≤ cap := by omega
            have S1 := fun W => rslice0 p k cap m (m : Int) rfl W mc
            have eW : IntKind.i64.wrap ((k : Int) - 1) = (m : Int) := by rw [em, IntKind.wrap_i64]; omega
            have eW2 : IntKind.i64.wrap (m : Int) = (m : Int) := by rw [IntKind.wrap_i64]; omega
            clear sl sb
            go_region_held3 (fun w' => w'.cell? ⟨w.heap.size, 0, none⟩ = some (.slice T.A0 T.n0 T.c0) ∧ w'.cell? ⟨w.heap.size, 1, none⟩ = some (.slice T.A1 T.n1 T.c1) ∧ w'.cell? ⟨w.heap.size, 2, none⟩ = some (.slice T.A2 T.n2 T.c2)) (go_keep)
              (first
                | (go_at_call 21; (with_reducible refine TA.out.mono ?_); rintro e w6 ⟨rfl, b6⟩; have MB := (MD.out.step b6).tb; have s0 := MB.c0; have s1 := MB.c1; have s2 := MB.c2; have s3 := MB.lt; clear MB; have M6 := Lib.hid ((MD.out.step b6).box (.cells #[.int .i64 c0, .int .i64 c1] 27)); have K6 := Lib.hid (KD.out.box b6 c0 c1); have F6 := Lib.hid (FD.out.below (b6.alloc b6.size (.cells #[.int .i64 c0, .int .i64 c1] 27)) FD.out.lt); clear b6)
                | (go_at_call 21; (with_reducible refine TB.out.mono ?_); rintro e w7 ⟨rfl, b7⟩; have M6 := Lib.hid (MA.out.step b7); have s0 := M6.out.tb.c0; have s1 := M6.out.tb.c1; have s2 := M6.out.tb.c2; have s3 := M6.out.tb.lt; have N6 := Lib.hid (NA.out.below b7 NA.out.lt); have K6 := Lib.hid (Bag.step b7 KA.out); have F6 := Lib.hid (FA.out.below b7 FA.out.lt); have n0 := N6.out.c0; have n1 := N6.out.c1; have n2 := N6.out.free 0; have n3 := N6.out.free 1; have n4 := N6.out.lt; clear b7))
            · obtain ⟨X, hX⟩ : ∃ X, w6.alloc (.cells #[.int .i64 c0, .int .i64 c1] 27) = X := ⟨_, rfl⟩
              rw [hX] at M6 K6 F6 ⊢
              have M7 := M6
              have K7 := K6
              have F7 := F6
              clear M6 K6 F6 t0 t1 t2 t3 u3 u4 a0 a1 a2 s0 s1 s2 s3 TA TB NA KA FA KD FD MA MD ML KL FL BA BD TK SL mc S1 eW eW2 em hm ml hw35 M4 K4 K3 M3
              have t0 := M7.out.tb.c0
              have t1 := M7.out.tb.c1
              have t2 := M7.out.tb.c2
              have t3 := M7.out.tb.lt
              have f0 := F7.out.c0
              have f1 := F7.out.c1
              have f2 := F7.out.c2
              have f3 := F7.out.c3
              have f4 := F7.out.c4
              have f5 := F7.out.lt
              dsimp only at f0 f1 f2 f3 f4
              go_wp2_with (first
                | (go_at_call 15; (with_reducible refine (WT.out _ M7.out.bl).mono ?_); rintro e w8 ⟨rfl, b8⟩; have M8 := Lib.hid (M7.out.step b8); have K8 := Lib.hid (Bag.step b8 K7.out); have F8 := Lib.hid (F7.out.below b8 F7.out.lt); have g0 := F8.out.c0; dsimp only at g0; have g5 := F8.out.lt; clear b8)
                | (go_at_call 17; (with_reducible refine (EL.out _).mono ?_); rintro e w9 ⟨rfl, b9⟩; have M9 := Lib.hid ((M8.out.step b9).box (.cells #[.int .i64 x, .int .i64 y] 27)); have K9 := Lib.hid (K8.out.box b9 x y); have k0 := K9.out.1.c0; have k1 := K9.out.1.c1; have k2 := K9.out.1.lt; have k3 := K9.out.2.1.c0; have k4 := K9.out.2.1.c1; have k5 := K9.out.2.1.lt; have k6 := K9.out.2.2.1.c0; have k7 := K9.out.2.2.1.c1; have k8 := K9.out.2.2.1.lt; have k9 := K9.out.2.2.2.1.c0; have k10 := K9.out.2.2.2.1.c1; have k11 := K9.out.2.2.2.1.lt; clear b9))
              go_ret
              exact ⟨by simp, M9.out.bl⟩
            · obtain ⟨X, hX⟩ : ∃ X, (w7.setCell ⟨wl.heap.size, 0, none⟩ (.int .i64 c0)).setCell ⟨wl.heap.size, 1, none⟩ (.int .i64 c1) = X := ⟨_, rfl⟩
              have bX : Below wl.heap.size w7 X := by rw [← hX]; exact ((Below.refl _ w7).setCell (p := ⟨wl.heap.size, 0, none⟩) (Nat.le_refl _) _).setCell (p := ⟨wl.heap.size, 1, none⟩) (Nat.le_refl _) _
              have M7 := Lib.hid (M6.out.far (bX.mono ML.out.sz))
              have K7 : Hid (Bag X [(wl.heap.size, c0, c1), (w5.heap.size, LO, HI), (w3.heap.size, LO, HI)]) := ⟨by rw [← hX]; exact (N6.out.set0 _).set1 _, K6.out.1.below bX KL.out.1.lt, K6.out.2.1.below bX KL.out.2.1.lt, trivial⟩
              have F7 := Lib.hid (F6.out.below bX FL.out.lt)
              rw [hX]
              clear hX bX M6 K6 F6 N6 n0 n1 n2 n3 n4 t0 t1 t2 t3 u3 u4 a0 a1 a2 s0 s1 s2 s3 TA TB NA KA FA KD FD MA MD ML KL FL BA BD TK SL mc S1 eW eW2 em hm ml hw35 M4 K4 K3 M3
              have t0 := M7.out.tb.c0
              have t1 := M7.out.tb.c1
              have t2 := M7.out.tb.c2
              have t3 := M7.out.tb.lt
              have f0 := F7.out.c0
              have f1 := F7.out.c1
              have f2 := F7.out.c2
              have f3 := F7.out.c3
              have f4 := F7.out.c4
              have f5 := F7.out.lt
              dsimp only at f0 f1 f2 f3 f4
              go_wp2_with (first
                | (go_at_call 15; (with_reducible refine (WT.out _ M7.out.bl).mono ?_); rintro e w8 ⟨rfl, b8⟩; have M8 := Lib.hid (M7.out.step b8); have K8 := Lib.hid (Bag.step b8 K7.out); have F8 := Lib.hid (F7.out.below b8 F7.out.lt); have g0 := F8.out.c0; dsimp only at g0; have g5 := F8.out.lt; clear b8)
                | (go_at_call 17; (with_reducible refine (EL.out _).mono ?_); rintro e w9 ⟨rfl, b9⟩; have M9 := Lib.hid ((M8.out.step b9).box (.cells #[.int .i64 x, .int .i64 y] 27)); have K9 := Lib.hid (K8.out.box b9 x y); have k0 := K9.out.1.c0; have k1 := K9.out.1.c1; have k2 := K9.out.1.lt; have k3 := K9.out.2.1.c0; have k4 := K9.out.2.1.c1; have k5 := K9.out.2.1.lt; have k6 := K9.out.2.2.1.c0; have k7 := K9.out.2.2.1.c1; have k8 := K9.out.2.2.1.lt; have k9 := K9.out.2.2.2.1.c0; have k10 := K9.out.2.2.2.1.c1; have k11 := K9.out.2.2.2.1.lt; clear b9))
              go_ret
              exact ⟨by simp, M9.out.bl⟩
          · obtain ⟨rfl, rfl, hR⟩ := SB.out hS
            generalize sevR T l.reverse = R at SX hR
            obtain ⟨R0, R1, R2⟩ := R
            dsimp only at SX hR
            go_wp2_with (go_at_call 21; (with_reducible refine SX.out.mono ?_); rintro e w5 ⟨rfl, b5⟩; have M5 := Lib.hid ((M4.out.step b5).box (.cells #[.int .i64 R0, .int .i64 R1] 27)); have K5 := Lib.hid (K4.out.box b5 R0 R1); have k0 := K5.out.2.1.c0; have k1 := K5.out.2.1.c1; have k2 := K5.out.2.1.lt; clear b5)
            go_ret
            exact ⟨by simp; exact hR, M5.out.bl⟩
end Go.Proofs.Ytjjpcgfhoncmeaa
