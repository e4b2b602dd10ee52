/- Layer 7: DriftMatchesReference (gen/gen_match.py writes this). -/
import Derived.Deep.RegionHeld3
import Derived.Deep.RegionWith
import Derived.Test.YtjjpcgfhoncmeaaExact
namespace Go.Proofs.Ytjjpcgfhoncmeaa
open Go.RowKit Go
set_option linter.unusedVariables false
set_option linter.unusedSimpArgs false

theorem Two.other {w : World} {g : Nat} {t : TypeId} {u v : Value} (h : Two w g t u v) {p : Addr} (hne : g ≠ p.block) (x : Value) : Two (w.setCell p x) g t u v := by
  have e := Below.heap_setCell w p x g hne
  unfold Two at h ⊢
  rw [e]; exact h

/-- What lies while the law runs: its table, its two ranges; nothing that was there is changed. -/
structure MM (T : Tb) (tl th al ah : Int) (w W : World) : Prop where
  tb : Three W w.heap.size 25 (.slice T.A0 T.n0 T.c0) (.slice T.A1 T.n1 T.c1) (.slice T.A2 T.n2 T.c2)
  tp : Two W (w.heap.size + 1) 27 (.int .i64 tl) (.int .i64 th)
  ag : Two W (w.heap.size + 2) 27 (.int .i64 al) (.int .i64 ah)
  bl : Below w.heap.size w W
theorem MM.sz {T : Tb} {tl th al ah : Int} {w W : World} (h : MM T tl th al ah w W) : w.heap.size + 3 ≤ W.heap.size := h.ag.lt
theorem MM.far {T : Tb} {tl th al ah : Int} {w W W' : World} (h : MM T tl th al ah w W) (b : Below (w.heap.size + 3) W W') : MM T tl th al ah w W' :=
  ⟨h.tb.below b (by omega), h.tp.below b (by omega), h.ag.below b (by omega), h.bl.trans (b.mono (by omega))⟩
theorem MM.step {T : Tb} {tl th al ah : Int} {w W W' : World} (h : MM T tl th al ah w W) (b : Below W.heap.size W W') : MM T tl th al ah w W' := h.far (b.mono h.sz)
theorem MM.drew {T : Tb} {tl th al ah : Int} {w W : World} (h : MM T tl th al ah w W) : MM T tl th al ah w W.drew := ⟨h.tb, h.tp, h.ag, h.bl.drew⟩

theorem mm_start (T : Tb) (tl th al ah : Int) (w : World) : ∃ W, ((w.alloc (.cells #[.slice T.A0 T.n0 T.c0, .slice T.A1 T.n1 T.c1, .slice T.A2 T.n2 T.c2] 25)).alloc (.cells #[.int .i64 tl, .int .i64 th] 27)).alloc (.cells #[.int .i64 al, .int .i64 ah] 27) = W ∧ MM T tl th al ah w W := by
  refine ⟨_, rfl, ((Three.new w _ _ _ _).alloc _).alloc _, ?_, ?_, (((below_alloc w _).alloc (by simp) _).alloc (by simp; omega) _)⟩
  · have h := Two.new (w.alloc (.cells #[.slice T.A0 T.n0 T.c0, .slice T.A1 T.n1 T.c1, .slice T.A2 T.n2 T.c2] 25)) 27 (.int .i64 tl) (.int .i64 th)
    rw [show (w.alloc (.cells #[.slice T.A0 T.n0 T.c0, .slice T.A1 T.n1 T.c1, .slice T.A2 T.n2 T.c2] 25)).heap.size = w.heap.size + 1 by simp] at h
    exact h.alloc _
  · have h := Two.new ((w.alloc (.cells #[.slice T.A0 T.n0 T.c0, .slice T.A1 T.n1 T.c1, .slice T.A2 T.n2 T.c2] 25)).alloc (.cells #[.int .i64 tl, .int .i64 th] 27)) 27 (.int .i64 al) (.int .i64 ah)
    rw [show ((w.alloc (.cells #[.slice T.A0 T.n0 T.c0, .slice T.A1 T.n1 T.c1, .slice T.A2 T.n2 T.c2] 25)).alloc (.cells #[.int .i64 tl, .int .i64 th] 27)).heap.size = w.heap.size + 1 + 1 by simp] at h
    exact h

set_option maxRecDepth 100000 in
set_option maxHeartbeats 16000000 in
theorem match_walk (G : Dft) (T : Tb) (tl th al ah : Int) (A : Option Addr) (len cap : Nat) (l : List Sg) (r n : Int) (room : T.Room) (itl : I64 tl) (ith : I64 th) (ial : I64 al) (iah : I64 ah) (ir : I64 r) (iN : I64 n) (w : World) (ht : T.At w)
    (hr : RowS w.heap.size w A len l) (hl : len ≤ cap) (hc : cap ≤ 9223372036854775807) (hn : A = none → cap = 0) :
    Calls Try.prog 3 #[T.val, rgV tl th, rgV al ah, .slice A len cap, .int .i64 r, .int .i64 n] w (Gives (.bool true) w) := by
  have HD := Lib.hid (head_true G)
  have FE := Lib.hid (fun W (b : Below w.heap.size w W) => few_any T W (ht.step b))
  have RT := Lib.hid (fun W (b : Below w.heap.size w W) => G.rate T tl al room itl ial W (ht.step b))
  have RR := Lib.hid (fun W (b : Below w.heap.size w W) => rrate_any T tl al W (ht.step b))
  have VT := Lib.hid (fun W (b : Below w.heap.size w W) => G.valid T (decide T.Ok) (by simp) room W (ht.step b))
  have VR := Lib.hid (fun W (b : Below w.heap.size w W) => rvalid_any T (decide T.Ok) (by simp) W (ht.step b))
  have WT := Lib.hid (fun W (b : Below w.heap.size w W) => G.worst T tl th al ah room itl ith ial iah W (ht.step b))
  have WR := Lib.hid (fun W (b : Below w.heap.size w W) => rworst_any T tl th al ah W (ht.step b))
  have EL := Lib.hid (fun W (b : Below w.heap.size w W) => G.el r n ir iN W)
  have ER := Lib.hid (fun W (b : Below w.heap.size w W) => rel_any r n ir iN W)
  have CO := Lib.hid (fun W (b : Below w.heap.size w W) => G.co r n ir iN W)
  have CR := Lib.hid (fun W (b : Below w.heap.size w W) => rco_any r n ir iN W)
  have SV := Lib.hid (fun W (b : Below w.heap.size w W) => G.sev T A len cap l room hl hc hn W (ht.step b) (hr.step b))
  have SR := Lib.hid (fun W (b : Below w.heap.size w W) => rsev_any T A len cap l W (ht.step b) (hr.step b) (by omega))
  generalize rateR T tl al = R at RT RR
  generalize worstR T tl th al ah = Q at WT WR
  generalize elR r n = E at EL ER
  generalize coR r n = C at CO CR
  generalize sevR T l = S at SV SR
  generalize decide T.Ok = ok at VT VR
  obtain ⟨R0, R1⟩ := R
  obtain ⟨Q0, Q1⟩ := Q
  obtain ⟨E0, E1, E2⟩ := E
  obtain ⟨C0, C1, C2⟩ := C
  obtain ⟨S0, S1, S2⟩ := S
  dsimp only at RT RR WT WR EL ER CO CR SV SR
  have hl9 : len ≤ 9223372036854775807 := by omega
  clear hr ht hn hl hc room itl ith ial iah ir iN G
  unfold rgV Tb.val at *
  obtain ⟨W, hW, M⟩ := mm_start T tl th al ah w
  have M0 := Lib.hid M
  clear M
  have t0 := M0.out.tb.c0
  have t1 := M0.out.tb.c1
  have t2 := M0.out.tb.c2
  have t3 := M0.out.tb.lt
  go_enter Try.func3, Try.ntmps3
  go_wp2_with (go_at_call 9; refine (HD.out _).mono ?_; rintro e w1 ⟨rfl, b1⟩; have M1 := Lib.hid (M0.out.step b1); have t0 := M1.out.tb.c0; have t1 := M1.out.tb.c1; have t2 := M1.out.tb.c2; have t3 := M1.out.tb.lt; have p0 := M1.out.tp.c0; have p1 := M1.out.tp.c1; have p2 := M1.out.tp.lt; have a0 := M1.out.ag.c0; have a1 := M1.out.ag.c1; have a2 := M1.out.ag.lt; clear b1)
  refine (FE.out _ M1.out.bl).mono ?_
  rintro e w2 ⟨⟨q, rfl⟩, b2⟩
  have M2 := Lib.hid (M1.out.step b2)
  clear t0 t1 t2 t3 p0 p1 p2 a0 a1 a2 b2 M0 hW
  have t0 := M2.out.tb.c0
  have t1 := M2.out.tb.c1
  have t2 := M2.out.tb.c2
  have t3 := M2.out.tb.lt
  have p0 := M2.out.tp.c0
  have p1 := M2.out.tp.c1
  have p2 := M2.out.tp.lt
  have a0 := M2.out.ag.c0
  have a1 := M2.out.ag.c1
  have a2 := M2.out.ag.lt
  cases q with
  | false =>
    go_wp2_with fail
    go_ret
    exact ⟨rfl, M2.out.bl⟩
  | true =>
    by_cases h70 : len ≤ 70
    · go_wp2_with (first
        | (go_at_call 11; (with_reducible refine (RT.out _ M2.out.bl).mono ?_); rintro e w3 ⟨rfl, b3⟩; have M3 := Lib.hid (M2.out.step b3); have t0 := M3.out.tb.c0; have t1 := M3.out.tb.c1; have t2 := M3.out.tb.c2; have t3 := M3.out.tb.lt; have p0 := M3.out.tp.c0; have p1 := M3.out.tp.c1; have p2 := M3.out.tp.lt; have a0 := M3.out.ag.c0; have a1 := M3.out.ag.c1; have a2 := M3.out.ag.lt; clear b3)
        | (go_at_call 12; (with_reducible refine (RR.out _ M3.out.bl).mono ?_); rintro e w4 ⟨rfl, b4⟩; have M4 := Lib.hid (M3.out.step b4); have t0 := M4.out.tb.c0; have t1 := M4.out.tb.c1; have t2 := M4.out.tb.c2; have t3 := M4.out.tb.lt; have p0 := M4.out.tp.c0; have p1 := M4.out.tp.c1; have p2 := M4.out.tp.lt; have a0 := M4.out.ag.c0; have a1 := M4.out.ag.c1; have a2 := M4.out.ag.lt; clear b4))
      have M5 := Lib.hid M4.out.drew
      have t0 := M5.out.tb.c0
      have t1 := M5.out.tb.c1
      have t2 := M5.out.tb.c2
      have t3 := M5.out.tb.lt
      have p0 := M5.out.tp.c0
      have p1 := M5.out.tp.c1
      have p2 := M5.out.tp.lt
      have a0 := M5.out.ag.c0
      have a1 := M5.out.ag.c1
      have a2 := M5.out.ag.lt
      go_region_held3 (fun w' => w'.cell? ⟨w.heap.size, 0, none⟩ = some (.slice T.A0 T.n0 T.c0) ∧ w'.cell? ⟨w.heap.size, 1, none⟩ = some (.slice T.A1 T.n1 T.c1) ∧ w'.cell? ⟨w.heap.size, 2, none⟩ = some (.slice T.A2 T.n2 T.c2)) (go_keep)
        (first
          | (go_at_call 13; (with_reducible refine (VT.out _ M5.out.bl).mono ?_); rintro e w6 ⟨rfl, b6⟩; have M6 := Lib.hid (M5.out.step b6); have t0 := M6.out.tb.c0; have t1 := M6.out.tb.c1; have t2 := M6.out.tb.c2; have t3 := M6.out.tb.lt; have p0 := M6.out.tp.c0; have p1 := M6.out.tp.c1; have p2 := M6.out.tp.lt; have a0 := M6.out.ag.c0; have a1 := M6.out.ag.c1; have a2 := M6.out.ag.lt; clear b6)
          | (go_at_call 14; (with_reducible refine (VR.out _ M6.out.bl).mono ?_); rintro e w7 ⟨rfl, b7⟩; have M7 := Lib.hid (M6.out.step b7); have t0 := M7.out.tb.c0; have t1 := M7.out.tb.c1; have t2 := M7.out.tb.c2; have t3 := M7.out.tb.lt; have p0 := M7.out.tp.c0; have p1 := M7.out.tp.c1; have p2 := M7.out.tp.lt; have a0 := M7.out.ag.c0; have a1 := M7.out.ag.c1; have a2 := M7.out.ag.lt; clear b7))
      go_wp2_with (first
        | (go_at_call 15; (with_reducible refine (WT.out _ M7.out.bl).mono ?_); rintro e w8 ⟨rfl, b8⟩; have M8 := Lib.hid (M7.out.step b8); have t0 := M8.out.tb.c0; have t1 := M8.out.tb.c1; have t2 := M8.out.tb.c2; have t3 := M8.out.tb.lt; have p0 := M8.out.tp.c0; have p1 := M8.out.tp.c1; have p2 := M8.out.tp.lt; have a0 := M8.out.ag.c0; have a1 := M8.out.ag.c1; have a2 := M8.out.ag.lt; clear b8)
        | (go_at_call 16; (with_reducible refine (WR.out _ M8.out.bl).mono ?_); rintro e w9 ⟨rfl, b9⟩; have M9 := Lib.hid (M8.out.step b9); have t0 := M9.out.tb.c0; have t1 := M9.out.tb.c1; have t2 := M9.out.tb.c2; have t3 := M9.out.tb.lt; have p0 := M9.out.tp.c0; have p1 := M9.out.tp.c1; have p2 := M9.out.tp.lt; have a0 := M9.out.ag.c0; have a1 := M9.out.ag.c1; have a2 := M9.out.ag.lt; clear b9)
        | (go_at_call 17; (with_reducible refine (EL.out _ M9.out.bl).mono ?_); rintro e w10 ⟨rfl, b10⟩; have M10 := Lib.hid ((M9.out.step b10).step (below_alloc w10 (.cells #[.int .i64 E0, .int .i64 E1] 27))); have X10 := Lib.hid (Two.new w10 27 (.int .i64 E0) (.int .i64 E1)); have t0 := M10.out.tb.c0; have t1 := M10.out.tb.c1; have t2 := M10.out.tb.c2; have t3 := M10.out.tb.lt; have p0 := M10.out.tp.c0; have p1 := M10.out.tp.c1; have p2 := M10.out.tp.lt; have a0 := M10.out.ag.c0; have a1 := M10.out.ag.c1; have a2 := M10.out.ag.lt; have b10_size := Lib.hid b10.size; clear b10)
        | (go_at_call 18; (with_reducible refine (ER.out _ M10.out.bl).mono ?_); rintro e w11 ⟨rfl, b11⟩; have M11 := Lib.hid ((M10.out.step b11).step (below_alloc w11 (.cells #[.int .i64 E0, .int .i64 E1] 27))); have X11 := Lib.hid ((X10.out.below b11 X10.out.lt).alloc (.cells #[.int .i64 E0, .int .i64 E1] 27)); have Y11 := Lib.hid (Two.new w11 27 (.int .i64 E0) (.int .i64 E1)); have ne := Lib.hid (show w10.heap.size ≠ w11.heap.size by have h1 := X10.out.lt; have h2 := b11.size; omega); have gx := Lib.hid (show w.heap.size + 3 ≤ w10.heap.size by have h1 := M9.out.sz; have h2 := b10_size.out; omega); have gy := Lib.hid (show w.heap.size + 3 ≤ w11.heap.size by have h1 := gx.out; have h2 := X10.out.lt; have h3 := b11.size; omega); have t0 := M11.out.tb.c0; have t1 := M11.out.tb.c1; have t2 := M11.out.tb.c2; have t3 := M11.out.tb.lt; have p0 := M11.out.tp.c0; have p1 := M11.out.tp.c1; have p2 := M11.out.tp.lt; have a0 := M11.out.ag.c0; have a1 := M11.out.ag.c1; have a2 := M11.out.ag.lt; have x0 := X11.out.c0; have x1 := X11.out.c1; have x2 := X11.out.lt; have x3 := X11.out.free 0; have x4 := X11.out.free 1; have y0 := Y11.out.c0; have y1 := Y11.out.c1; have y2 := Y11.out.lt; have y3 := Y11.out.free 0; have y4 := Y11.out.free 1; clear b11)
        | (go_at_call 19; (with_reducible refine (CO.out _ M11.out.bl).mono ?_); rintro e w12 ⟨rfl, b12⟩; have M12 := Lib.hid ((M11.out.step b12).far ((((Below.refl (w.heap.size + 3) w12).setCell (p := ⟨w10.heap.size, 0, none⟩) gx.out (.int .i64 C0)).setCell (p := ⟨w10.heap.size, 1, none⟩) gx.out (.int .i64 C1)))); have X12 := Lib.hid (((X11.out.below b12 X11.out.lt).set0 (.int .i64 C0)).set1 (.int .i64 C1)); have Y12 := Lib.hid (((Y11.out.below b12 Y11.out.lt).other (p := ⟨w10.heap.size, 0, none⟩) (fun h => ne.out h.symm) (.int .i64 C0)).other (p := ⟨w10.heap.size, 1, none⟩) (fun h => ne.out h.symm) (.int .i64 C1)); have t0 := M12.out.tb.c0; have t1 := M12.out.tb.c1; have t2 := M12.out.tb.c2; have t3 := M12.out.tb.lt; have p0 := M12.out.tp.c0; have p1 := M12.out.tp.c1; have p2 := M12.out.tp.lt; have a0 := M12.out.ag.c0; have a1 := M12.out.ag.c1; have a2 := M12.out.ag.lt; have xx12 := Lib.hid (X11.out.below b12 X11.out.lt); have z0 := xx12.out.c0; have z1 := xx12.out.c1; have z2 := xx12.out.lt; have z3 := xx12.out.free 0; have z4 := xx12.out.free 1; have x0 := X12.out.c0; have x1 := X12.out.c1; have x2 := X12.out.lt; have x3 := X12.out.free 0; have x4 := X12.out.free 1; have y0 := Y12.out.c0; have y1 := Y12.out.c1; have y2 := Y12.out.lt; have y3 := Y12.out.free 0; have y4 := Y12.out.free 1; clear b12)
        | (go_at_call 20; (with_reducible refine (CR.out _ M12.out.bl).mono ?_); rintro e w13 ⟨rfl, b13⟩; have M13 := Lib.hid ((M12.out.step b13).far ((((Below.refl (w.heap.size + 3) w13).setCell (p := ⟨w11.heap.size, 0, none⟩) gy.out (.int .i64 C0)).setCell (p := ⟨w11.heap.size, 1, none⟩) gy.out (.int .i64 C1)))); have Y13 := Lib.hid (((Y12.out.below b13 Y12.out.lt).set0 (.int .i64 C0)).set1 (.int .i64 C1)); have X13 := Lib.hid (((X12.out.below b13 X12.out.lt).other (p := ⟨w11.heap.size, 0, none⟩) ne.out (.int .i64 C0)).other (p := ⟨w11.heap.size, 1, none⟩) ne.out (.int .i64 C1)); have t0 := M13.out.tb.c0; have t1 := M13.out.tb.c1; have t2 := M13.out.tb.c2; have t3 := M13.out.tb.lt; have p0 := M13.out.tp.c0; have p1 := M13.out.tp.c1; have p2 := M13.out.tp.lt; have a0 := M13.out.ag.c0; have a1 := M13.out.ag.c1; have a2 := M13.out.ag.lt; have xx13 := Lib.hid (Y12.out.below b13 Y12.out.lt); have z0 := xx13.out.c0; have z1 := xx13.out.c1; have z2 := xx13.out.lt; have z3 := xx13.out.free 0; have z4 := xx13.out.free 1; have x0 := X13.out.c0; have x1 := X13.out.c1; have x2 := X13.out.lt; have x3 := X13.out.free 0; have x4 := X13.out.free 1; have y0 := Y13.out.c0; have y1 := Y13.out.c1; have y2 := Y13.out.lt; have y3 := Y13.out.free 0; have y4 := Y13.out.free 1; clear b13)
        | (go_at_call 21; (with_reducible refine (SV.out _ M13.out.bl).mono ?_); rintro e w14 ⟨rfl, b14⟩; have M14 := Lib.hid ((M13.out.step b14).far ((((Below.refl (w.heap.size + 3) w14).setCell (p := ⟨w10.heap.size, 0, none⟩) gx.out (.int .i64 S0)).setCell (p := ⟨w10.heap.size, 1, none⟩) gx.out (.int .i64 S1)))); have X14 := Lib.hid (((X13.out.below b14 X13.out.lt).set0 (.int .i64 S0)).set1 (.int .i64 S1)); have Y14 := Lib.hid (((Y13.out.below b14 Y13.out.lt).other (p := ⟨w10.heap.size, 0, none⟩) (fun h => ne.out h.symm) (.int .i64 S0)).other (p := ⟨w10.heap.size, 1, none⟩) (fun h => ne.out h.symm) (.int .i64 S1)); have t0 := M14.out.tb.c0; have t1 := M14.out.tb.c1; have t2 := M14.out.tb.c2; have t3 := M14.out.tb.lt; have p0 := M14.out.tp.c0; have p1 := M14.out.tp.c1; have p2 := M14.out.tp.lt; have a0 := M14.out.ag.c0; have a1 := M14.out.ag.c1; have a2 := M14.out.ag.lt; have xx14 := Lib.hid (X13.out.below b14 X13.out.lt); have z0 := xx14.out.c0; have z1 := xx14.out.c1; have z2 := xx14.out.lt; have z3 := xx14.out.free 0; have z4 := xx14.out.free 1; have x0 := X14.out.c0; have x1 := X14.out.c1; have x2 := X14.out.lt; have x3 := X14.out.free 0; have x4 := X14.out.free 1; have y0 := Y14.out.c0; have y1 := Y14.out.c1; have y2 := Y14.out.lt; have y3 := Y14.out.free 0; have y4 := Y14.out.free 1; clear b14)
        | (go_at_call 22; (with_reducible refine (SR.out _ M14.out.bl).mono ?_); rintro e w15 ⟨rfl, b15⟩; have M15 := Lib.hid ((M14.out.step b15).far ((((Below.refl (w.heap.size + 3) w15).setCell (p := ⟨w11.heap.size, 0, none⟩) gy.out (.int .i64 S0)).setCell (p := ⟨w11.heap.size, 1, none⟩) gy.out (.int .i64 S1)))); have Y15 := Lib.hid (((Y14.out.below b15 Y14.out.lt).set0 (.int .i64 S0)).set1 (.int .i64 S1)); have X15 := Lib.hid (((X14.out.below b15 X14.out.lt).other (p := ⟨w11.heap.size, 0, none⟩) ne.out (.int .i64 S0)).other (p := ⟨w11.heap.size, 1, none⟩) ne.out (.int .i64 S1)); have t0 := M15.out.tb.c0; have t1 := M15.out.tb.c1; have t2 := M15.out.tb.c2; have t3 := M15.out.tb.lt; have p0 := M15.out.tp.c0; have p1 := M15.out.tp.c1; have p2 := M15.out.tp.lt; have a0 := M15.out.ag.c0; have a1 := M15.out.ag.c1; have a2 := M15.out.ag.lt; have xx15 := Lib.hid (Y14.out.below b15 Y14.out.lt); have z0 := xx15.out.c0; have z1 := xx15.out.c1; have z2 := xx15.out.lt; have z3 := xx15.out.free 0; have z4 := xx15.out.free 1; have x0 := X15.out.c0; have x1 := X15.out.c1; have x2 := X15.out.lt; have x3 := X15.out.free 0; have x4 := X15.out.free 1; have y0 := Y15.out.c0; have y1 := Y15.out.c1; have y2 := Y15.out.lt; have y3 := Y15.out.free 0; have y4 := Y15.out.free 1; clear b15))
      go_ret
      exact ⟨by simp, M15.out.bl⟩
    · go_wp2_with fail
      go_ret
      exact ⟨rfl, M2.out.bl⟩
end Go.Proofs.Ytjjpcgfhoncmeaa
