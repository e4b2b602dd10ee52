/- Layer 4's own functions (gen/from_s04g.py): appendInteger. -/
import Derived.Maps.AppendAt
import Derived.Test.YtmfbnajaocaikaaGDig
namespace Go.Proofs.Ytmfbnajaocaikaa
open Go.RowKit Go.Sort Go Go.Shelf
set_option linter.unusedVariables false
set_option linter.unusedSimpArgs false
attribute [local go_sem] Oper.semAt_some
theorem digits_stops (n : Nat) (hn : 1 ≤ n) (bx : Nat) (x : Int) (hx : InI x) (w : World) (hb : bx < w.heap.size) (hc : w.cell? ⟨bx, 0, none⟩ = some (.int .i64 x)) :
    SeqStopsK Fence.wide n Try.prog 57 #[.pointer (some ⟨bx, 0, none⟩)] encB (fun _ _ => True) (fun ys => ys = intB x) (fun _ => True) (intB x).length w := fun l J Jx W hW hJ hJx hY h0 =>
  digits_in Fence.wide n trivial trivial rfl hn l bx x hx J Jx W hY ((hW.cell (p := ⟨bx, 0, none⟩) hb).trans hc) h0 (callsIn_wide.2 (numberOf_any x hx.1 hx.2 W))
theorem bytes_snoc (bs pre : List UInt8) (c : UInt8) : Lib.byteCells (bs ++ pre) ++ [Value.int .u8 (c.toNat : Int)] = Lib.byteCells (bs ++ (pre ++ [c])) := by
  simp [Lib.byteCells]
theorem app_boxes (w : World) (B0 : Nat) (v : Value) (x : Int) (n : Nat) (cs : List Value) (hB : B0 ≤ w.heap.size) (hr : w.ownsRow B0 5 1 v n cs) :
    ∃ W, (w.alloc (.cells #[v] 31)).alloc (.cells #[.int .i64 x] 3) = W ∧ W.heap.size = w.heap.size + 2 ∧ Below B0 w W ∧ Boxed W w.heap.size 31 v ∧ W.cell? ⟨w.heap.size + 1, 0, none⟩ = some (.int .i64 x) ∧ W.ownsRow B0 5 1 v n cs := by
  refine ⟨_, rfl, by simp, ((Below.refl _ w).alloc hB _).alloc (by simp; omega) _, (Boxed.new w _ _).alloc _, ?_, (hr.alloc _).alloc _⟩
  have h := (Boxed.new (w.alloc (.cells #[v] 31)) 3 (.int .i64 x)).cell
  rwa [World.size_alloc] at h
set_option maxRecDepth 100000 in
set_option maxHeartbeats 4000000 in
theorem app_int (B0 : Nat) (v : Value) (bs : List UInt8) (x : Int) (w : World) (hx : InI x) (hown : Own B0 w v bs) (hB : B0 ≤ w.heap.size) (hl : bs.length ≤ 1000000) :
    Calls Try.prog 50 #[v, .int .i64 x] w fun e w' => ∃ v', e = .returned v' ∧ Own B0 w' v' (bs ++ intB x) ∧ Below B0 w w' := by
  obtain ⟨A, n, cap, rfl, h1, h2, h3, -⟩ := hown.row
  have hL := intB_len hx
  refine (callsIn_wide (n := 9)).1 ?_
  refine callsIn_of_wp_marks Try.func50 rfl trivial ?_ rfl
  simp only [Try.ntmps50, List.size_toArray, List.length_cons, List.length_nil, Nat.reduceAdd, Nat.reduceSub, Array.replicate_succ, Array.replicate_zero, List.push_toArray, List.append_toArray, List.nil_append, List.cons_append]
  have HO := Lib.hid hown
  clear hown
  gi_wp2
  refine ⟨trivial, (callsIn_wide.2 (digits_any x _)).mono ?_⟩
  rintro e w1 ⟨rfl, rfl⟩
  rw [World.size_alloc]
  obtain ⟨W0, e0, hz, hb, hbx, hcx, hr0⟩ := app_boxes w B0 _ x _ _ hB HO.out
  rw [e0]
  clear e0
  obtain ⟨i0, hi, hz0, hz1, hz2⟩ := info_parts info_u8
  have HB := Lib.hid hb
  have HZ := Lib.hid hz
  have HBX := Lib.hid hbx
  have HCX := Lib.hid hcx
  have HR := Lib.hid hr0
  clear hb hz hbx hcx hr0
  gi_wp2
  refine wpIn_rangeFunc_ownG (α := UInt8) rfl (by omega) (gf := 57) (lb := #[.pointer (some ⟨w.heap.size + 1, 0, none⟩)]) rfl trivial (enters_of Try.func57 (by kernel_rfl) rfl)
    (digits_stops _ (by omega) (w.heap.size + 1) x hx W0 (by have := HZ.out; omega) HCX.out) (fun _ _ => trivial) (fun _ _ _ _ _ _ _ _ => trivial) (Below.refl _ _) (fun _ => rfl)
    (fun pre W => (∃ v, Boxed W w.heap.size 31 v ∧ W.ownsRow B0 5 1 v (bs ++ pre).length (Lib.byteCells (bs ++ pre)) ∧ True) ∧ Below B0 w W)
    (fun _ _ _ => False)
    (OwnFrom.and (_root_.Go.Own.from (holdsRow_own B0 w.heap.size 31 5 1 (fun pre => (bs ++ pre).length) (fun pre => Lib.byteCells (bs ++ pre)) (fun _ _ => True)) _) (ownFrom_below hB (by have := HZ.out; omega)))
    (fun _ _ _ _ _ hs _ _ => hs)
    ⟨⟨_, HBX.out, by rw [List.append_nil]; exact HR.out, trivial⟩, HB.out⟩
    (fun c => { tmps := #[.slice A n cap, .int .i64 x, .pointer (some ⟨w.heap.size, 0, none⟩), undef, .slice none 0 0, .int .u8 (c.toNat : Int), .int .i64 x, .func (.func 57) #[] #[.pointer (some ⟨w.heap.size + 1, 0, none⟩)], .int .u8 (c.toNat : Int), undef, undef, undef, undef, undef], defers := [] }) ?assign ?body ?done ?stop
  case assign =>
    intro l c W K hK
    dsimp only [encB]
    gi_wp2
    exact hK
  case body =>
    rintro l pre c W ⟨⟨v, hv, hrow, -⟩, hBW⟩ hlt
    have hc := hv.cell
    have hle := hBW.size
    have hpl : (bs ++ pre).length ≤ 1000010 := by rw [List.length_append]; omega
    have HE := Lib.hid (bytes_snoc bs pre c)
    have HN : Hid ((bs ++ pre).length + 1 = (bs ++ (pre ++ [c])).length) := by show _ = _; simp; omega
    generalize (bs ++ pre).length = L at hrow hpl HN
    gi_wp2_with (gi_at_builtin; refine wpListIn_append_own _ rfl _ _ 31 rfl B0 5 i0 (.int .u8 0) 1 1 Try.underlying31 hi hz0 hz1 hz2 rfl (by decide) _ _ _ rfl (hrow.alloc _) ⟨W.heap.size, 0, none⟩ 1 1 [.int .u8 (c.toNat : Int)] rfl rfl (cell_one_new _ _ _) (by simp [Value.oneCell']) (by unfold maxLen; omega) (by omega) (by simp; omega) ?_; intro v' w1 hown' hgrow _; obtain ⟨g', cap', rfl⟩ := ownsRow_succ hown'; obtain ⟨hv1, hv2, hr2, hk2, hb2⟩ := hv.appended (by decide) hrow (by omega) hB hown' hgrow; have hc1 := hv1.cell; have hf1 := hv1.frozen)
    exact ⟨hk2.from _, trivial, ⟨_, hv2, by rw [← HE.out, ← HN.out]; exact hr2, trivial⟩, hBW.trans hb2⟩
  case done =>
    rintro D ys W hD rfl ⟨⟨v, hv, hrow, -⟩, hBW⟩ hK
    have hc := hv.cell
    have hfin : Hid (∃ v', (Ending.returned v) = .returned v' ∧ Own B0 (W.putObj D (.deferred none)) v' (bs ++ intB x) ∧ Below B0 w (W.putObj D (.deferred none))) :=
      ⟨_, rfl, ownsRow_putObj hrow _ hK rfl, hBW.trans (belowK_b (w := w) hB W D _ _ (by have := HZ.out; omega) hK rfl rfl)⟩
    clear hBW hrow
    gi_wp2
    refine ⟨by simp, .inl ⟨_, _, rfl, run_takeDeferred hK, ?_⟩⟩
    exact ⟨_, results_tmp (t := 4) rfl _ _ _, hfin.out⟩
  case stop =>
    rintro D c pre W _ _ h _
    exact h.elim
end Go.Proofs.Ytmfbnajaocaikaa
