/- Layer 4: the reference's Frames. -/
import Derived.Test.YtdambggcaimndaaRNext
namespace Go.Proofs.Ytdambggcaimndaa
open Go.RowKit Go.Sort Go
set_option linter.unusedVariables false

theorem rtail (A : Option Addr) (n cap at_ : Nat) (b : List UInt8) (w : World) (hr : Row8 w.heap.size w A n b) (ha : at_ ≤ n) (hc : n ≤ cap) :
    ∃ A', (∀ W, (Instr.slice 23 (.slice A n cap) (some (.int .i64 at_)) none none).run Try.prog W = .ok (.slice A' (n - at_) (cap - at_)) W) ∧ ∀ W, Below w.heap.size w W → Row8 W.heap.size W A' (n - at_) (b.drop at_) := by
  refine ⟨if cap = at_ then A else A.map (·.add at_), fun W => ?_, fun W hb => ?_⟩
  · simp [go_sem, ha]
    try omega
  · have h := hr.step hb
    have hl := h.1
    by_cases h0 : 0 < n - at_
    · obtain ⟨p, rfl, _, _⟩ := h.2 (by omega)
      rw [if_neg (by omega)]
      have h2 := RowV.cut (q := p.add at_) (at_ := at_) (k := n - at_) h (by omega) (.inl rfl)
      rw [List.take_of_length_le (by rw [List.length_drop]; omega)] at h2
      exact h2
    · exact ⟨by rw [List.length_drop]; omega, fun h1 => absurd h1 h0⟩

set_option maxHeartbeats 2000000 in
theorem rframes_any (A : Option Addr) (n cap : Nat) (bs : List UInt8) (w : World) (hr : Row8 w.heap.size w A n bs) (hn : n ≤ 100000) (hc : n ≤ cap) :
    Calls Try.prog 20 #[.slice A n cap] w (FramesEnd bs w) := by
  obtain ⟨i0, hi, hz0, hz1, hz2⟩ := info_parts info_ints
  have hbl := hr.1
  have f1 : decide ((100000 : Int) < (n : Int)) = false := by rw [decide_eq_false_iff_not]; omega
  have f2 : decide (100000 < n) = false := by rw [decide_eq_false_iff_not]; omega
  have HR := Lib.hid hr
  clear hr
  go_enter Try.func20, Try.ntmps20
  go_wp2_with fail
  go_loopw [5, 6] (fun v a wr => ∃ (at_ : Nat) (ls : List (List Int)), at_ ≤ n ∧ a = .int .i64 at_ ∧ Hid (OwnL w.heap.size wr v ls) ∧ Hid (Below w.heap.size w wr) ∧ Hid (bs = framesB ls ++ bs.drop at_ ∧ at_ = (framesB ls).length ∧ AllOk ls)) (fun _ a _ => n - (intOf a).toNat)
  case atStart => exact ⟨0, [], by omega, rfl, OwnL.nil _ _, Below.refl _ _, rfl, rfl, fun l hl => by simp at hl⟩
  case round =>
    obtain ⟨at_, ls, ha, rfl, HO, HBr, HF⟩ := hrel
    have hszr := HBr.out.size
    obtain ⟨A', hsl, hrow⟩ := rtail A n cap at_ bs wr (HR.out.step HBr.out) ha hc
    have T := rnext_any A' (n - at_) (cap - at_) (bs.drop at_) wr (hrow wr (Below.refl _ _)) (by omega) (by omega)
    clear hrow
    cases hq : nextR (bs.drop at_) with
    | none =>
      rw [hq] at T
      have T := Lib.hid T
      have HQ := Lib.hid hq
      clear hq
      go_wp2_with (go_at_call 34; refine T.out.mono ?_; rintro e w1 ⟨b1, x, rfl⟩; have B1 := Lib.hid b1; clear b1)
      go_ret3
      exact ⟨_, ls, at_, rfl, by obtain ⟨vs, h1, h2, h3, h4⟩ := HO.out; exact ⟨vs, own_below h1 B1.out, h2, h3, fun i u z hu hz => own_below (h4 i u z hu hz) B1.out⟩, ⟨⟨bs.drop at_, HF.out.1, HQ.out⟩, HF.out.2.1, HF.out.2.2⟩, below_more HBr.out B1.out⟩
    | some pr =>
      obtain ⟨l, m⟩ := pr
      obtain ⟨⟨r, er⟩, hm, hok⟩ := nextR_some hq
      rw [hq] at T
      have T := Lib.hid T
      have hlen : at_ + m ≤ n := by
        have := congrArg List.length er
        rw [List.length_drop, List.length_append] at this
        omega
      have hlong := framesB_long ls
      have hpos : 0 < m := by rw [hm, frameB_len]; omega
      have HF2 : Hid (bs = framesB (ls ++ [l]) ++ bs.drop (at_ + m) ∧ at_ + m = (framesB (ls ++ [l])).length ∧ AllOk (ls ++ [l])) := by
        obtain ⟨e1, e2, e3⟩ := HF.out
        refine ⟨?_, by rw [framesB_snoc, List.length_append]; omega, fun x hx => ?_⟩
        · rw [framesB_snoc, List.append_assoc, ← List.drop_drop, er, hm, List.drop_left, ← er]
          exact e1
        · rcases List.mem_append.1 hx with hx | hx
          · exact e3 x hx
          · simp at hx; subst hx; exact hok
      have hls : ls.length ≤ 10000 := by have := HF.out.2.1; omega
      clear hq er hm hok hlong
      have e1 : IntKind.i64.wrap ((at_ : Int) + (m : Int)) = ((at_ + m : Nat) : Int) := by rw [IntWalk.i64_in _ (by omega)]; omega
      go_wp2_with (go_at_call 34; refine T.out.mono ?_; rintro e w1 ⟨b1, v1, rfl, o1⟩; refine Hid.out ?_)
      refine Lib.hid ?_
      obtain ⟨a1, n1, c1, rfl⟩ := own_i_slice o1
      have O1 := Lib.hid (ownI_base o1 hszr)
      have HB1 := Lib.hid (below_more HBr.out b1)
      have hsz1 := HB1.out.size
      obtain ⟨vs, v1, v2, v3, v4⟩ := HO.out
      have V1 := Lib.hid (own_below v1 b1)
      have V4 := Lib.hid (fun i u z hu hz => own_below (v4 i u z hu hz) b1)
      have V3 := Lib.hid v3
      clear v1 v3 v4 b1 o1 hsl
      go_wp2_with (at_builtin; go_must (refine wpList_append_own _ rfl _ _ 33 rfl w.heap.size 22 i0 (.slice none 0 0) 1 24 Try.underlying33 hi hz0 hz1 hz2 rfl (by decide) _ _ _ rfl (V1.out.alloc _) ⟨w1.heap.size, 0, none⟩ 1 1 [Value.slice a1 n1 c1] rfl rfl (one_slice w1 _ ⟨_, _, _, rfl⟩) (by simp [Value.oneCell']) (by unfold maxLen; omega) (by omega) (by simp; omega) ?_); refine Hid.out ?_)
      refine Lib.hid ?_
      intro v' w4 own4 gr4 _
      have hrow : ∀ j, Value.ownBlock _ = some j → w.heap.size ≤ j := fun j ej => (World.ownsRow.lt V1.out j ej).1
      have HB4 := Lib.hid ((HB1.out.alloc hsz1 (.cells #[Value.slice a1 n1 c1] 22)).grown gr4 (by simp; omega) (fun k e => hrow k e))
      have HO4 : Hid (OwnL w.heap.size w4 v' (ls ++ [l])) :=
        OwnL.snoc (w := w1.alloc (.cells #[Value.slice a1 n1 c1] 22)) (V1.out.alloc _) v2 V3.out (fun i u z hu hz => World.ownsRow.alloc (V4.out i u z hu hz) _) (World.ownsRow.alloc O1.out _) ⟨_, _, _, rfl⟩ gr4 own4
      clear own4 gr4 hrow
      go_wp2_with fail
      go_roundw
      case rel => exact ⟨at_ + m, ls ++ [l], hlen, rfl, HO4, HB4, HF2⟩
      case measure => simp [intOf]; omega
end Go.Proofs.Ytdambggcaimndaa
