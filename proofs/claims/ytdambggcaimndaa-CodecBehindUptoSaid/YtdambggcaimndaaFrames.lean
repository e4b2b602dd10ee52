/- Layer 4: Frames. -/
import Derived.Deep.DeepMust
import Derived.Test.YtdambggcaimndaaGet
namespace Go.Proofs.Ytdambggcaimndaa
open Go.RowKit Go.Sort Go
set_option linter.unusedVariables false

/-- The call owns these lists. -/
def OwnL (B : Nat) (w : World) (v : Value) (ls : List (List Int)) : Prop :=
  ∃ vs : List Value, w.ownsRow B 22 1 v ls.length vs ∧ vs.length = ls.length ∧ (∀ u ∈ vs, ∃ A n c, u = .slice A n c) ∧ ∀ (i : Nat) u z, vs[i]? = some u → ls[i]? = some z → OwnI B w u z

theorem info_ints : (Try.prog.info? 22).map (fun i => (i.zero, i.size, i.bytes)) = some (some (.slice none 0 0), 1, 24) := by kernel_rfl

theorem OwnL.nil (B : Nat) (w : World) : OwnL B w (.slice none 0 0) [] := ⟨[], World.ownsRow_nil _ _ _ _, rfl, fun u hu => by simp at hu, fun i u z h => by simp at h⟩
theorem OwnL.keep {a b : World} {B g : Nat} {v : Value} {ls : List (List Int)} (h : OwnL B a v ls) (k : a.grownBy b (some g)) (hg : g < B) : OwnL B b v ls := by
  obtain ⟨vs, h1, h2, h3, h4⟩ := h
  refine ⟨vs, World.ownsRow.kept h1 k (.inr fun e => ?_), h2, h3, fun i u z hu hz => (h4 i u z hu hz).keep k hg⟩
  have := (World.ownsRow.lt h1 g e).1
  omega
theorem OwnL.base {w : World} {B B' : Nat} {v : Value} {ls : List (List Int)} (h : OwnL B w v ls) (hb : B' ≤ B) : OwnL B' w v ls := by
  obtain ⟨vs, h1, h2, h3, h4⟩ := h
  refine ⟨vs, ⟨h1.1, ?_⟩, h2, h3, fun i u z hu hz => ownI_base (h4 i u z hu hz) hb⟩
  rcases h1.2 with h | ⟨g, cap, cur, hv, hg, rest⟩
  · exact .inl h
  · exact .inr ⟨g, cap, cur, hv, Nat.le_trans hb hg, rest⟩

/-- A list's block is none of lists. -/
theorem own_apart {w : World} {B n : Nat} {u v : Value} {z : List Int} {vs : List Value} (h : OwnI B w u z) (k : w.ownsRow B 22 1 v n vs) : u.ownBlock = none ∨ u.ownBlock ≠ v.ownBlock := by
  rcases h.2 with ⟨rfl, _⟩ | ⟨g, cap, cur, rfl, _, hg, _⟩
  · exact .inl rfl
  · refine .inr fun e => ?_
    rcases k.2 with ⟨rfl, _⟩ | ⟨g2, cap2, cur2, rfl, _, hg2, _⟩
    · cases e
    · have e2 : g = g2 := by injection e
      subst e2
      rw [hg] at hg2
      injection hg2 with hg2
      injection hg2 with _ e3 _
      exact absurd e3 (by decide)

theorem OwnL.snoc {w w' : World} {B : Nat} {v v' u : Value} {ls : List (List Int)} {l : List Int} {vs : List Value} (hvs : w.ownsRow B 22 1 v ls.length vs) (h2 : vs.length = ls.length) (h3 : ∀ u ∈ vs, ∃ A n c, u = .slice A n c) (h4 : ∀ (i : Nat) u z, vs[i]? = some u → ls[i]? = some z → OwnI B w u z)
    (hu : OwnI B w u l) (hs : ∃ A n c, u = .slice A n c) (hg : w.grownBy w' v.ownBlock) (hv : w'.ownsRow B 22 1 v' (ls.length + 1) (vs ++ [u])) : OwnL B w' v' (ls ++ [l]) := by
  refine ⟨vs ++ [u], by rw [List.length_append]; exact hv, by simp [h2], fun x hx => ?_, fun i x z hx hz => ?_⟩
  · rcases List.mem_append.1 hx with hx | hx
    · exact h3 x hx
    · simp at hx; subst hx; exact hs
  · rcases Nat.lt_or_ge i vs.length with hi | hi
    · rw [List.getElem?_append_left hi] at hx
      rw [List.getElem?_append_left (by omega)] at hz
      exact World.ownsRow.kept (h4 i x z hx hz) hg (own_apart (h4 i x z hx hz) hvs)
    · rw [List.getElem?_append_right hi] at hx
      rw [List.getElem?_append_right (by omega)] at hz
      rw [← h2] at hz
      rcases Nat.eq_zero_or_pos (i - vs.length) with e | e
      · rw [e] at hx hz
        simp at hx hz
        subst hx; subst hz
        exact World.ownsRow.kept hu hg (own_apart hu hvs)
      · rw [List.getElem?_eq_none (by simp; omega)] at hx
        cases hx

theorem framesB_long : ∀ ls : List (List Int), 12 * ls.length ≤ (framesB ls).length := by
  intro ls
  induction ls with
  | nil => simp
  | cons l ls ih =>
    have h1 := frameB_len l
    have h2 := listB_pos l
    rw [framesB_cons, List.length_append, List.length_cons]
    omega

theorem one_slice (W : World) (u : Value) (hu : ∃ A n c, u = .slice A n c) : ∀ j x, ([u] : List Value)[j]? = some x → (W.alloc (.cells #[u] 22)).cell? ((⟨W.heap.size, 0, none⟩ : Addr).add j) = some x := by
  intro j u' hj
  match j, hj with
  | 0, hj => simp at hj; subst hj; simp [Addr.add]
  | j + 1, hj => simp at hj

def FramesEnd (bs : List UInt8) (w : World) (e : Ending) (w' : World) : Prop :=
  ∃ v ls m, e = .returned (.tuple #[v, .int .i64 (m : Nat), .int .i64 0]) ∧ OwnL w.heap.size w' v ls ∧ Told bs ls m ∧ Below w.heap.size w w'

/-- Where the reader in block g stands. -/
def placeOf (g : Nat) (w : World) : Nat := (intOf ((w.cell? ⟨g, 1, none⟩).getD undef)).toNat
theorem Rd.place {w : World} {g : Nat} {A : Option Addr} {n cap at_ : Nat} (h : Rd w g A n cap at_) : placeOf g w = at_ := by
  unfold placeOf; rw [h.c1]; rfl

set_option maxHeartbeats 2000000 in
theorem frames_any (A : Option Addr) (n cap : Nat) (bs : List UInt8) (w : World) (hr : Row8 w.heap.size w A n bs) (hn : n ≤ 100000) (hc : n ≤ cap) :
    Calls Try.prog 19 #[.slice A n cap] w (FramesEnd bs w) := by
  have hmf : ∀ (fn : Fn) (first cap : Array Value) (w : World), (Instr.makeFunc fn first cap).run Try.prog w = .ok (.func fn first cap) w := fun _ _ _ _ => rfl
  obtain ⟨i0, hi, hz0, hz1, hz2⟩ := info_parts info_ints
  have hbl := hr.1
  obtain ⟨W, hW, hz, hb, hrd⟩ : ∃ W, w.alloc (.cells #[.slice A n cap, .int .i64 0] 50) = W ∧ W.heap.size = w.heap.size + 1 ∧ w.grownBy W none ∧ Rd W w.heap.size A n cap 0 := ⟨_, rfl, by simp, World.grownBy_alloc _ _ _, Rd.new w A n cap⟩
  have f1 : decide ((100000 : Int) < (n : Int)) = false := by rw [decide_eq_false_iff_not]; omega
  have f2 : decide (100000 < n) = false := by rw [decide_eq_false_iff_not]; omega
  have HR := Lib.hid hr
  have HB := Lib.hid (below_none hb)
  have HW := Lib.hid hW
  have HRD := Lib.hid hrd
  clear hb hr hW hrd
  go_enter Try.func19, Try.ntmps19
  go_wp2_with fail
  rw [HW.out]
  go_loopw [5] (fun v wr => ∃ (at_ : Nat) (ls : List (List Int)), at_ ≤ n ∧ Hid (Rd wr w.heap.size A n cap at_) ∧ Hid (OwnL (w.heap.size + 1) wr v ls) ∧ Hid (Below w.heap.size w wr) ∧ w.heap.size < wr.heap.size ∧ Hid (bs = framesB ls ++ bs.drop at_ ∧ at_ = (framesB ls).length ∧ AllOk ls)) (fun _ wr => n - placeOf w.heap.size wr)
  case atStart => exact ⟨0, [], by omega, HRD.out, OwnL.nil _ _, HB.out, by omega, rfl, rfl, fun l hl => by simp at hl⟩
  case round =>
    obtain ⟨at_, ls, ha, HRd, HO, HBr, hgr, HF⟩ := hrel
    have c1 := HRd.out.c1
    have hr2 : Row8 (two wr).heap.size (two wr) A n bs := row8_below HR.out (HBr.out.trans (below_new (grown_none (two_none wr) w.heap.size) _ (Nat.le_refl _) (by omega))) (Nat.le_refl _)
    have hrd2 : Rd (two wr) w.heap.size A n cap at_ := HRd.out.keep (two_none wr) (fun j e => by cases e)
    have T := frame_any w.heap.size A n cap at_ bs (two wr) hrd2 hr2 (row8_old HR.out (Nat.le_refl _)) (by omega) hc ha
    clear hr2 hrd2
    cases hq : nextR (bs.drop at_) with
    | none =>
      rw [hq] at T
      have T := Lib.hid (attempt_no 33 w.heap.size wr (fun _ _ => by simp [go_sem]) hgr (T.mono fun e w' h => ⟨h.2, h.1⟩))
      have HQ := Lib.hid hq
      clear hq
      go_wp2_with fail
      refine T.out.mono ?_
      rintro e w1 ⟨rfl, b1⟩
      have B1 := Lib.hid b1
      clear b1
      go_wp2_with fail
      go_ret3
      exact ⟨_, ls, at_, rfl, (HO.out.keep B1.out (by omega)).base (by omega), ⟨⟨bs.drop at_, HF.out.1, HQ.out⟩, HF.out.2.1, HF.out.2.2⟩, HBr.out.trans (below_new B1.out _ (Nat.le_refl _) (by omega))⟩
    | some pr =>
      obtain ⟨l, m⟩ := pr
      obtain ⟨⟨r, er⟩, hm, hok⟩ := nextR_some hq
      rw [hq] at T
      have T := Lib.hid (attempt_ok 33 w.heap.size wr (fun w' A' n' c' => OwnI (two wr).heap.size w' (.slice A' n' c') l ∧ Rd w' w.heap.size A n cap (at_ + m)) (fun _ _ => by simp [go_sem]) hgr (T.mono fun e w' h => by
        obtain ⟨h1, v, rfl, h2, h3⟩ := h
        obtain ⟨A', n', c', rfl⟩ := own_i_slice h2
        exact ⟨A', n', c', rfl, h1, h2, h3⟩))
      have hlen : at_ + m ≤ n := by
        have := congrArg List.length er
        rw [List.length_drop, List.length_append] at this
        omega
      have hlong := framesB_long ls
      have hpos : 0 < m := by rw [hm, frameB_len]; omega
      have HF2 : Hid (bs = framesB (ls ++ [l]) ++ bs.drop (at_ + m) ∧ at_ + m = (framesB (ls ++ [l])).length ∧ AllOk (ls ++ [l])) := by
        obtain ⟨e1, e2, e3⟩ := HF.out
        refine ⟨?_, by rw [framesB_snoc, List.length_append]; omega, fun x hx => ?_⟩
        · rw [framesB_snoc, List.append_assoc, ← List.drop_drop, er, hm, List.drop_left, ← er]
          exact e1
        · rcases List.mem_append.1 hx with hx | hx
          · exact e3 x hx
          · simp at hx; subst hx; exact hok
      have hls : ls.length ≤ 10000 := by have := HF.out.2.1; omega
      clear hq er hm hok hlong
      go_wp2_with fail
      refine T.out.mono ?_
      rintro e w1 ⟨A', n', c', w3, rfl, b1, b3, ⟨o3, r3⟩, e1⟩
      have htz := two_size wr
      have O1 : Hid (OwnI (w.heap.size + 1) w1 (.slice A' n' c') l) := by
        show OwnI _ _ _ _
        rw [e1]
        exact ownI_base (ownsRow_setCell_below (ownsRow_setCell_below o3 (by simp only; omega) _) (by simp only; omega) _) (by omega)
      have R1 : Hid (Rd w1 w.heap.size A n cap (at_ + m)) := by
        show Rd _ _ _ _ _ _
        rw [e1]
        exact ((Below.heap_setCell _ _ _ _ (by simp only; omega)).trans (Below.heap_setCell _ _ _ _ (by simp only; omega))).trans r3
      have HB1 := Lib.hid (HBr.out.trans (below_new b1 _ (Nat.le_refl _) (by omega)))
      have hO1 := HO.out.keep b1 (by omega)
      have hsz1 := b1.size
      clear b1 b3 o3 r3 e1
      obtain ⟨vs, v1, v2, v3, v4⟩ := hO1
      have V1 := Lib.hid v1
      have V4 := Lib.hid v4
      have V3 := Lib.hid v3
      clear v1 v3 v4
      go_wp2_with (at_builtin; go_must (refine wpList_append_own _ rfl _ _ 33 rfl (w.heap.size + 1) 22 i0 (.slice none 0 0) 1 24 Try.underlying33 hi hz0 hz1 hz2 rfl (by decide) _ _ _ rfl (V1.out.alloc _) ⟨w1.heap.size, 0, none⟩ 1 1 [Value.slice A' n' c'] rfl rfl (one_slice w1 _ ⟨_, _, _, rfl⟩) (by simp [Value.oneCell']) (by unfold maxLen; omega) (by omega) (by simp; omega) ?_); refine Hid.out ?_)
      refine Lib.hid ?_
      intro v' w4 own4 gr4 _
      have hal : w1.grownBy (w1.alloc (.cells #[Value.slice A' n' c'] 22)) none := World.grownBy_alloc _ _ _
      have hrow : ∀ j, Value.ownBlock _ = some j → w.heap.size + 1 ≤ j := fun j ej => (World.ownsRow.lt V1.out j ej).1
      have R4 := Lib.hid ((R1.out.keep hal (fun j e => by cases e)).keep gr4 (fun j e => hrow j e))
      have HB4 := Lib.hid ((HB1.out.grown hal (by omega) (fun k e => by cases e)).grown gr4 (by simp; omega) (fun k e => by have := hrow k e; omega))
      have HO4 : Hid (OwnL (w.heap.size + 1) w4 v' (ls ++ [l])) :=
        OwnL.snoc (w := w1.alloc (.cells #[Value.slice A' n' c'] 22)) (V1.out.alloc _) v2 V3.out (fun i u z hu hz => World.ownsRow.alloc (V4.out i u z hu hz) _) (World.ownsRow.alloc O1.out _) ⟨_, _, _, rfl⟩ gr4 own4
      have hsz4 := gr4.size
      simp only [World.size_alloc] at hsz4
      have hp1 := HRd.out.place
      have hp4 := R4.out.place
      clear own4 gr4 hal hrow
      go_wp2_with fail
      go_roundw
      case rel => exact ⟨at_ + m, ls ++ [l], hlen, R4, HO4, HB4, by omega, HF2⟩
      case measure => rw [hp1, hp4]; omega
end Go.Proofs.Ytdambggcaimndaa
