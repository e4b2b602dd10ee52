/- Layer 4: the reader: frame. -/
import Derived.Test.YtdambggcaimndaaWhole
namespace Go.Proofs.Ytdambggcaimndaa
open Go.RowKit Go.Sort Go
set_option linter.unusedVariables false

/-- The list of a frame, and the reader stands behind it; or the panic with ErrForm. -/
def FrameEnd (g : Nat) (A : Option Addr) (n cap at_ : Nat) (o : Option (List Int × Nat)) (w : World) (e : Ending) (w' : World) : Prop :=
  w.grownBy w' (some g) ∧ match o with
    | some (l, m) => ∃ v, e = .returned v ∧ OwnI w.heap.size w' v l ∧ Rd w' g A n cap (at_ + m)
    | none => e = .panicked form

theorem nextR_short {b : List UInt8} (h : b.length < valB (b.take 3) + 11) : nextR b = none := by
  by_cases h3 : b.length < 3
  · rw [nextR, if_pos h3]
  · rw [nextR, if_neg h3, if_pos h]
theorem nextR_short3 {b : List UInt8} (h : b.length < 3) : nextR b = none := by rw [nextR, if_pos h]
theorem nextR_sum {b : List UInt8} {L : Nat} (hL : valB (b.take 3) = L) (h : L + 11 ≤ b.length) (hs : valB ((b.drop (L + 3)).take 8) ≠ fnv fnv0 (b.take (L + 3))) : nextR b = none := by
  rw [nextR, if_neg (by omega), hL, if_neg (by omega), if_neg]
  intro e
  exact hs ((val_eq_eight (by simp; omega) (fnv_lt _ _ fnv0_lt)).2 e)
theorem nextR_ok {b : List UInt8} {L : Nat} (hL : valB (b.take 3) = L) (h : L + 11 ≤ b.length) (hs : valB ((b.drop (L + 3)).take 8) = fnv fnv0 (b.take (L + 3))) : nextR b = (getR ((b.drop 3).take L)).map fun l => (l, L + 11) := by
  rw [nextR, if_neg (by omega), hL, if_neg (by omega), if_pos ((val_eq_eight (by simp; omega) (fnv_lt _ _ fnv0_lt)).1 hs), List.drop_take, Nat.add_sub_cancel]

theorem Rd.new (w : World) (A : Option Addr) (n cap : Nat) : Rd (w.alloc (.cells #[.slice A n cap, .int .i64 0] 50)) w.heap.size A n cap 0 := by
  exact heap_alloc_new w _
theorem ownI_base {w : World} {B B' : Nat} {v : Value} {zs : List Int} (h : OwnI B w v zs) (hb : B' ≤ B) : OwnI B' w v zs := by
  refine ⟨h.1, ?_⟩
  rcases h.2 with h2 | ⟨g, cap, cur, hv, hg, rest⟩
  · exact .inl h2
  · exact .inr ⟨g, cap, cur, hv, Nat.le_trans hb hg, rest⟩

theorem slice_eq (p : Addr) (n cap a b : Nat) (W : World) (h1 : a ≤ b) (h2 : b ≤ cap) (h3 : ¬ b = a) :
    (Instr.slice 23 (.slice (some p) n cap) (some (.int .i64 a)) (some (.int .i64 b)) (some (.int .i64 b))).run Try.prog W = .ok (.slice (some (p.add a)) (b - a) (b - a)) W := by
  simp [go_sem, h1, h2, h3]

set_option maxHeartbeats 2000000 in
theorem frame_any (g : Nat) (A : Option Addr) (n cap at_ : Nat) (bs : List UInt8) (w : World) (h : Rd w g A n cap at_) (hr : Row8 w.heap.size w A n bs) (hp : 0 < n → ∀ p, A = some p → p.block ≠ g) (hn : n ≤ 1000000000) (hc : n ≤ cap) (ha : at_ ≤ n) :
    Calls Try.prog 33 #[.pointer (some ⟨g, 0, none⟩)] w (FrameEnd g A n cap at_ (nextR (bs.drop at_)) w) := by
  have hgl := h.lt
  have hbl := hr.1
  have hlb : (bs.drop at_).length = n - at_ := by rw [List.length_drop, hbl]
  have c1 := h.c1
  by_cases h3 : n - at_ < 3
  · have HN : Hid (nextR (bs.drop at_) = none) := nextR_short3 (by omega)
    have T := Lib.hid (number_no g A n cap at_ 3 w h hn ha h3 (by omega))
    clear h hr hp
    go_enter Try.func33, Try.ntmps33
    go_wp2_with (go_at_call 40; refine T.out.mono ?_; rintro e w1 ⟨rfl, b1⟩)
    rw [HN.out]
    exact ⟨rfl, grown_none b1 g, rfl⟩
  obtain ⟨p, rfl, hpb, _⟩ := hr.2 (by omega)
  have hpg := hp (by omega) p rfl
  have T3 := Lib.hid (number_ok g p n cap at_ 3 bs w h hr hpg hn hc (by omega) (by omega))
  have hv3 := valB_lt 3 ((bs.drop at_).take 3) (by rw [List.length_take, hlb]; omega)
  generalize hL : valB ((bs.drop at_).take 3) = L at T3 hv3
  have hL2 : L < 16777216 := hv3
  have eL : IntKind.i64.wrap (L : Int) = (L : Int) := IntWalk.i64_in _ (by omega)
  have HR := Lib.hid hr
  have HP := Lib.hid hp
  clear h hr hp hv3
  by_cases hs1 : n - (at_ + 3) < L
  · have HN : Hid (nextR (bs.drop at_) = none) := nextR_short (by rw [hL]; omega)
    clear hL
    go_enter Try.func33, Try.ntmps33
    go_wp2_with (go_at_call 40; refine T3.out.mono ?_; rintro e w1 ⟨rfl, b1, r1⟩; refine Hid.out ?_)
    refine Lib.hid ?_
    have T := Lib.hid (take_no g (some p) n cap (at_ + 3) L w1 r1 hn (by omega) hs1 (by omega))
    have B1 := Lib.hid b1
    clear b1 r1
    go_wp2_with (go_at_call 41; refine T.out.mono ?_; rintro e w2 ⟨rfl, b2⟩)
    rw [HN.out]
    exact ⟨rfl, grown_trans B1.out (grown_none b2 g), rfl⟩
  go_enter Try.func33, Try.ntmps33
  go_wp2_with (go_at_call 40; refine T3.out.mono ?_; rintro e w1 ⟨rfl, b1, r1⟩; refine Hid.out ?_)
  refine Lib.hid ?_
  have T := Lib.hid (take_ok g p n cap (at_ + 3) L w1 r1 hn hc (by omega))
  have B1 := Lib.hid b1
  clear b1 r1
  go_wp2_with (go_at_call 41; refine T.out.mono ?_; rintro e w2 ⟨q, rfl, hq, b2, r2, hqb⟩; refine Hid.out ?_)
  refine Lib.hid ?_
  have B2 := Lib.hid (grown_trans B1.out b2)
  have hsz2 := B2.out.size
  have W3 : Hid (Rd (w2.alloc (.cells #[.slice (some q) L L, .int .i64 0] 50)) w2.heap.size (some q) L L 0) := Rd.new w2 _ _ _
  have r3 : Rd (w2.alloc (.cells #[.slice (some q) L L, .int .i64 0] 50)) g (some p) n cap (at_ + 3 + L) := r2.keep (World.grownBy_alloc _ _ none) (fun j e => by cases e)
  have B3 : Hid (w.grownBy (w2.alloc (.cells #[.slice (some q) L L, .int .i64 0] 50)) (some g)) := grown_own B2.out (World.grownBy_alloc _ _ none) (fun j e => by cases e)
  have hz3 : (w2.alloc (.cells #[.slice (some q) L L, .int .i64 0] 50)).heap.size = w2.heap.size + 1 := by simp
  have HRW := Lib.hid (Row8.grown HR.out (Nat.le_refl _) B3.out HP.out)
  go_wp2_with fail
  generalize w2.alloc (.cells #[.slice (some q) L L, .int .i64 0] 50) = W at W3 r3 B3 hz3 HRW ⊢
  generalize w2.heap.size = G2 at W3 hz3 hsz2 ⊢
  obtain ⟨E, hE⟩ : ∃ E, at_ + 3 + L = E := ⟨_, rfl⟩
  rw [hE] at r3
  have hEk : at_ ≤ E ∧ E ≤ n ∧ E - at_ = L + 3 := by omega
  have HB := Lib.hid (RowV.cut (q := p.add at_) (k := E - at_) HRW.out (by omega) (.inl rfl))
  have HS : Hid (∀ k, Calls Try.prog 28 #[.slice (some (p.add at_)) (E - at_) (E - at_)] (W.drewN k) fun e w' => e = .returned (.int .u64 (fnv fnv0 ((bs.drop at_).take (E - at_)) : Int)) ∧ w' = W.drewN k) := fun k =>
    (sum_any _ _ _ ((bs.drop at_).take (E - at_)) (W.drewN k) ⟨HB.out.1, HB.out.2⟩ (by omega)).mono fun e w' h => ⟨h.1, h.2.symm⟩
  have c0 := r3.c0
  have c1 := r3.c1
  have R3 := Lib.hid r3
  have HE := Lib.hid hE
  have hE1 : at_ ≤ E := hEk.1
  have hE2 : E ≤ n := hEk.2.1
  have hE3 : E ≤ cap := by omega
  have hE4 : ¬ E = at_ := by omega
  have hE5 : ¬ E - at_ = 0 := by omega
  have hsl := slice_eq p n cap at_ E W hE1 hE3 hE4
  clear r3 hE hEk b2 r2
  go_quiet ((go_at_call 28; exact Calls.quiet_of_same (HS.out _)))
  clear hsl c0 c1
  have B3 : Hid (w.grownBy (W.drewN nq) (some g)) := ⟨B3.out.os, B3.out.tape, B3.out.output, B3.out.size, B3.out.block⟩
  have W3 : Hid (Rd (W.drewN nq) G2 (some q) L L 0) := W3.out
  have R3 : Hid (Rd (W.drewN nq) g (some p) n cap E) := R3.out
  have HRW : Hid (Row8 (W.drewN nq).heap.size (W.drewN nq) (some p) n bs) := HRW.out
  have hz3 : (W.drewN nq).heap.size = G2 + 1 := hz3
  clear HS HB
  generalize W.drewN nq = W' at B3 W3 R3 HRW hz3 ⊢
  have HV := Lib.hid (fnv_lt ((bs.drop at_).take (E - at_)) fnv0 fnv0_lt)
  generalize hF : fnv fnv0 ((bs.drop at_).take (E - at_)) = F at HV ⊢
  have HF := Lib.hid hF
  clear hF
  by_cases hs2 : n - E < 8
  · have HN : Hid (nextR (bs.drop at_) = none) := nextR_short (by rw [hL]; have := HE.out; omega)
    clear hL
    have T8 := Lib.hid (number_no g (some p) n cap E 8 W' R3.out hn hE2 hs2 (by omega))
    go_wp2_with (go_at_call 40; refine T8.out.mono ?_; rintro e w4 ⟨rfl, b4⟩)
    rw [HN.out]
    exact ⟨rfl, grown_trans B3.out (grown_none b4 g), rfl⟩
  have T8 := Lib.hid (number_ok g p n cap E 8 bs W' R3.out HRW.out hpg hn hc (by omega) (by omega))
  have hd8 : (bs.drop E).take 8 = ((bs.drop at_).drop (L + 3)).take 8 := by rw [List.drop_drop]; congr 2; have := HE.out; omega
  rw [hd8] at T8
  generalize hV : valB (((bs.drop at_).drop (L + 3)).take 8) = V at T8
  have hlL : L + 11 ≤ (bs.drop at_).length := by have := HE.out; omega
  have hF2 : fnv fnv0 ((bs.drop at_).take (L + 3)) = F := by rw [← HF.out]; congr 2; have := HE.out; omega
  by_cases hVF : V = F
  · have HN : Hid (nextR (bs.drop at_) = (getR (((bs.drop at_).drop 3).take L)).map fun l => (l, L + 11)) := nextR_ok hL hlL (by rw [hV, hF2, hVF])
    have e7 : ((V : Int) != (F : Int)) = false := by simp [hVF]
    clear hVF hV hF2 hL hd8
    go_wp2_with (go_at_call 40; refine T8.out.mono ?_; rintro e w4 ⟨rfl, b4, r4⟩; refine Hid.out ?_)
    refine Lib.hid ?_
    have hgG : g ≠ G2 := by omega
    have hWG : G2 < W'.heap.size := by omega
    have hrow : Row8 w4.heap.size w4 (some q) L (((bs.drop at_).drop 3).take L) := by
      have h1 := RowV.cut HRW.out (at_ := at_ + 3) (k := L) (q := q) (by omega) hq
      rw [← List.drop_drop] at h1
      exact Row8.grown h1 (Nat.le_refl _) b4 (fun _ p' e => by injection e with e; subst e; rw [hqb]; exact hpg)
    have w4r : Rd w4 G2 (some q) L L 0 := (b4.block G2 hWG (fun e => hgG (by injection e with e; exact e.symm))).trans W3.out
    have TW := whole_any G2 (some q) L L 0 _ w4 w4r hrow (fun _ p' e => by injection e with e; subst e; rw [hqb]; omega) (by omega) (Nat.le_refl _) (by omega)
    rw [List.drop_zero] at TW
    have B4 := Lib.hid (grown_trans B3.out b4)
    have R4 := Lib.hid r4
    have hsz4 : G2 < w4.heap.size := by have := b4.size; omega
    clear b4 r4 hrow w4r
    generalize getR (((bs.drop at_).drop 3).take L) = o at HN TW
    cases o with
    | none =>
      have TW := Lib.hid TW
      go_wp2_with (go_at_call 31; refine TW.out.mono ?_; rintro e w5 ⟨b5, rfl⟩)
      rw [HN.out]
      exact ⟨rfl, grown_own B4.out b5 (fun j e => by injection e with e; omega), rfl⟩
    | some l =>
      have TW := Lib.hid TW
      go_wp2_with (go_at_call 31; refine TW.out.mono ?_; rintro e w5 ⟨b5, v, rfl, o5⟩)
      go_ret
      rw [HN.out]
      refine ⟨grown_own B4.out b5 (fun j e => by injection e with e; omega), _, rfl, ownI_base o5 (by omega), ?_⟩
      have e9 : at_ + (L + 11) = E + 8 := by have := HE.out; omega
      rw [e9]
      exact (b5.block g (by omega) (fun e => hgG (by injection e))).trans R4.out
  · have HN : Hid (nextR (bs.drop at_) = none) := nextR_sum hL hlL (by rw [hV, hF2]; exact hVF)
    have e7 : ((V : Int) != (F : Int)) = true := by simp; omega
    clear hVF hV hF2 hL hd8
    go_wp2_with (go_at_call 40; refine T8.out.mono ?_; rintro e w4 ⟨rfl, b4, r4⟩; refine Hid.out ?_)
    refine Lib.hid ?_
    have B4 := Lib.hid b4
    clear b4 r4
    go_wp2_with fail
    rw [HN.out]
    exact ⟨rfl, grown_trans B3.out B4.out, rfl⟩
end Go.Proofs.Ytdambggcaimndaa
