/- Layer 4: the reference's one and Put. -/
import Derived.Test.YtmfbnajaocaikaaCRow8
namespace Go.Proofs.Ytmfbnajaocaikaa
open Go.RowKit Go.Sort Go
set_option linter.unusedVariables false

theorem own_snoc {B0 : Nat} {w wr w4 : World} {v v' : Value} {bs : List UInt8} {c : UInt8} {n : Nat} (hn : n = bs.length) (HX : Own B0 wr v bs) (hb : Below B0 w wr) (hB : B0 ≤ w.heap.size) (own4 : w4.ownsRow B0 5 1 v' (n + 1) (Lib.byteCells bs ++ [Value.int .u8 (c.toNat : Int)])) (gr4 : (wr.alloc (.cells #[.int .u8 (c.toNat : Int)] 5)).grownBy w4 v.ownBlock) :
    Own B0 w4 v' (bs ++ [c]) ∧ Below B0 w w4 := by
  have hsz := hb.size
  constructor
  · subst hn
    unfold Own
    rw [List.length_append, Lib.byteCells_append]
    exact own4
  · exact (hb.alloc (by omega) _).grown gr4 (by simp; omega) (fun j ej => (World.ownsRow.lt HX j ej).1)

theorem digs_split' (m : Nat) (h : ¬ m < 128) : ∃ c : UInt8, ((c.toNat : Nat) : Int) = (m : Int) % 128 + 128 ∧ digs m = c :: digs (m / 128) :=
  ⟨UInt8.ofNat (m % 128 + 128), by rw [ofNat_toNat (by omega)]; omega, digs_big h⟩
theorem digs_end' (m : Nat) (h : m < 128) : ∃ c : UInt8, ((c.toNat : Nat) : Int) = (m : Int) ∧ digs m = [c] :=
  ⟨UInt8.ofNat m, by rw [ofNat_toNat (by omega)], digs_small h⟩

theorem one_start (x : Int) (hx : InI x) : ∃ y z : Int, IntKind.u64.wrap x = y ∧ IntKind.u64.wrap (2 * y) = z ∧
    ((decide (x < 0) = false ∧ z = (num x : Int)) ∨ (decide (x < 0) = true ∧ IntKind.i64.wrap (-1 - x) = -1 - x ∧ IntKind.u64.wrap (-1 - x) = -1 - x ∧ IntKind.u64.wrap (2 * (-1 - x)) = 2 * (-1 - x) ∧ IntKind.u64.wrap (2 * (-1 - x) + 1) = (num x : Int))) := by
  refine ⟨_, _, rfl, rfl, ?_⟩
  obtain ⟨h1, h2⟩ := hx
  by_cases h : x < 0
  · have hn : (num x : Int) = -2 * x - 1 := by unfold num; rw [if_pos h]; omega
    refine .inr ⟨by simpa using h, IntWalk.i64_in _ (by omega), IntWalk.u64_in _ (by omega), IntWalk.u64_in _ (by omega), ?_⟩
    rw [IntWalk.u64_in _ (by omega)]; omega
  · have hn : (num x : Int) = 2 * x := by unfold num; rw [if_neg h]; omega
    refine .inl ⟨by simpa using h, ?_⟩
    rw [IntWalk.u64_in x (by omega), IntWalk.u64_in _ (by omega)]; omega

set_option maxRecDepth 100000 in
set_option maxHeartbeats 4000000 in
theorem rone_any (B0 : Nat) (v : Value) (bs : List UInt8) (x : Int) (w : World) (hx : InI x) (hown : Own B0 w v bs) (hB : B0 ≤ w.heap.size) (hl : bs.length ≤ 1000000) :
    Calls Try.prog 51 #[v, .int .i64 x] w fun e w' => ∃ v', e = .returned v' ∧ Own B0 w' v' (bs ++ intB x) ∧ Below B0 w w' := by
  obtain ⟨i0, hi, hz0, hz1, hz2⟩ := info_parts info_u8
  obtain ⟨y, z, hy, hz, hcs⟩ := one_start x hx
  have hlt := num_lt hx
  have hL := intB_len hx
  have hib : Hid (bs ++ digs (num x) = bs ++ intB x) := rfl
  have HO := Lib.hid hown
  clear hown
  generalize num x = m0 at hcs hlt hib
  rcases hcs with ⟨f1, rfl⟩ | ⟨f1, f2, f3, f4, f5⟩
  · go_enter Try.func51, Try.ntmps51
    go_wp2_with fail
    go_loopw [0, 5] (fun q s wr => ∃ (m : Nat) (pre : List UInt8), s = .int .u64 m ∧ m < 18446744073709551616 ∧ Hid (pre ++ digs m = bs ++ intB x) ∧ Hid (Own B0 wr q pre) ∧ Below B0 w wr) (fun _ s _ => (intOf s).toNat)
    case atStart => exact ⟨m0, bs, rfl, hlt, hib, HO, Below.refl _ _⟩
    case round =>
      rename_i wr
      obtain ⟨m, pre, rfl, hm, HI, HX, hb⟩ := hrel
      have hpl : pre.length ≤ 1000010 := by
        have h1 := congrArg List.length HI.out
        rw [List.length_append, List.length_append] at h1
        omega
      have hsz := hb.size
      by_cases hlt2 : m < 128
      · obtain ⟨c, hc, hd⟩ := digs_end' m hlt2
        have g1 : decide ((128 : Int) ≤ (m : Int)) = false := by rw [decide_eq_false_iff_not]; omega
        have g2 : decide (128 ≤ m) = false := by rw [decide_eq_false_iff_not]; omega
        have g3 : IntKind.u8.wrap (m : Int) = (m : Int) := by rw [IntKind.wrap_u8']; omega
        have HC := Lib.hid hc
        have HE : Hid (pre ++ [c] = bs ++ intB x) := by rw [hd] at HI; exact HI
        clear hc hd
        go_wp2_with (at_builtin; rw [← HC.out]; refine wpList_append_own _ rfl _ _ 31 rfl B0 5 i0 (.int .u8 0) 1 1 Try.underlying31 hi hz0 hz1 hz2 rfl (by decide) _ _ _ rfl (World.ownsRow.alloc HX.out _) ⟨World.heap _ |>.size, 0, none⟩ 1 1 [Value.int .u8 (c.toNat : Int)] rfl rfl (one_u8 _ _) (by simp [Value.oneCell']) (by unfold maxLen; omega) (by omega) (by simp; omega) ?_; refine Hid.out ?_)
        refine Lib.hid ?_
        intro v' w4 own4 gr4 _
        obtain ⟨o5, b5⟩ := own_snoc rfl HX.out hb hB own4 gr4
        rw [HE.out] at o5
        clear own4 gr4
        go_wp2_with fail
        go_ret
        exact ⟨_, rfl, o5, b5⟩
      · obtain ⟨c, hc, hd⟩ := digs_split' m hlt2
        have g1 : decide ((128 : Int) ≤ (m : Int)) = true := by rw [decide_eq_true_eq]; omega
        have g2 : decide (128 ≤ m) = true := by rw [decide_eq_true_eq]; omega
        have g3 : IntKind.u8.wrap ((m : Int) % 128 + 128) = (m : Int) % 128 + 128 := by rw [IntKind.wrap_u8']; omega
        have g4 : IntKind.u64.wrap ((m : Int) % 128 + 128) = (m : Int) % 128 + 128 := IntWalk.u64_in _ (by omega)
        have HC := Lib.hid hc
        have HE : Hid ((pre ++ [c]) ++ digs (m / 128) = bs ++ intB x) := by rw [hd] at HI; simpa using HI
        clear hc hd
        go_wp2_with (at_builtin; rw [← HC.out]; refine wpList_append_own _ rfl _ _ 31 rfl B0 5 i0 (.int .u8 0) 1 1 Try.underlying31 hi hz0 hz1 hz2 rfl (by decide) _ _ _ rfl (World.ownsRow.alloc HX.out _) ⟨World.heap _ |>.size, 0, none⟩ 1 1 [Value.int .u8 (c.toNat : Int)] rfl rfl (one_u8 _ _) (by simp [Value.oneCell']) (by unfold maxLen; omega) (by omega) (by simp; omega) ?_; refine Hid.out ?_)
        refine Lib.hid ?_
        intro v' w4 own4 gr4 _
        obtain ⟨o5, b5⟩ := own_snoc rfl HX.out hb hB own4 gr4
        have O5 := Lib.hid o5
        clear own4 gr4 o5
        go_wp2_with fail
        go_roundw
        case rel => exact ⟨m / 128, pre ++ [c], by go_num, by omega, HE, O5, b5⟩
        case measure => simp [intOf]; omega
  · go_enter Try.func51, Try.ntmps51
    go_wp2_with fail
    go_loopw [0, 5] (fun q s wr => ∃ (m : Nat) (pre : List UInt8), s = .int .u64 m ∧ m < 18446744073709551616 ∧ Hid (pre ++ digs m = bs ++ intB x) ∧ Hid (Own B0 wr q pre) ∧ Below B0 w wr) (fun _ s _ => (intOf s).toNat)
    case atStart => exact ⟨m0, bs, rfl, hlt, hib, HO, Below.refl _ _⟩
    case round =>
      rename_i wr
      obtain ⟨m, pre, rfl, hm, HI, HX, hb⟩ := hrel
      have hpl : pre.length ≤ 1000010 := by
        have h1 := congrArg List.length HI.out
        rw [List.length_append, List.length_append] at h1
        omega
      have hsz := hb.size
      by_cases hlt2 : m < 128
      · obtain ⟨c, hc, hd⟩ := digs_end' m hlt2
        have g1 : decide ((128 : Int) ≤ (m : Int)) = false := by rw [decide_eq_false_iff_not]; omega
        have g2 : decide (128 ≤ m) = false := by rw [decide_eq_false_iff_not]; omega
        have g3 : IntKind.u8.wrap (m : Int) = (m : Int) := by rw [IntKind.wrap_u8']; omega
        have HC := Lib.hid hc
        have HE : Hid (pre ++ [c] = bs ++ intB x) := by rw [hd] at HI; exact HI
        clear hc hd
        go_wp2_with (at_builtin; rw [← HC.out]; refine wpList_append_own _ rfl _ _ 31 rfl B0 5 i0 (.int .u8 0) 1 1 Try.underlying31 hi hz0 hz1 hz2 rfl (by decide) _ _ _ rfl (World.ownsRow.alloc HX.out _) ⟨World.heap _ |>.size, 0, none⟩ 1 1 [Value.int .u8 (c.toNat : Int)] rfl rfl (one_u8 _ _) (by simp [Value.oneCell']) (by unfold maxLen; omega) (by omega) (by simp; omega) ?_; refine Hid.out ?_)
        refine Lib.hid ?_
        intro v' w4 own4 gr4 _
        obtain ⟨o5, b5⟩ := own_snoc rfl HX.out hb hB own4 gr4
        rw [HE.out] at o5
        clear own4 gr4
        go_wp2_with fail
        go_ret
        exact ⟨_, rfl, o5, b5⟩
      · obtain ⟨c, hc, hd⟩ := digs_split' m hlt2
        have g1 : decide ((128 : Int) ≤ (m : Int)) = true := by rw [decide_eq_true_eq]; omega
        have g2 : decide (128 ≤ m) = true := by rw [decide_eq_true_eq]; omega
        have g3 : IntKind.u8.wrap ((m : Int) % 128 + 128) = (m : Int) % 128 + 128 := by rw [IntKind.wrap_u8']; omega
        have g4 : IntKind.u64.wrap ((m : Int) % 128 + 128) = (m : Int) % 128 + 128 := IntWalk.u64_in _ (by omega)
        have HC := Lib.hid hc
        have HE : Hid ((pre ++ [c]) ++ digs (m / 128) = bs ++ intB x) := by rw [hd] at HI; simpa using HI
        clear hc hd
        go_wp2_with (at_builtin; rw [← HC.out]; refine wpList_append_own _ rfl _ _ 31 rfl B0 5 i0 (.int .u8 0) 1 1 Try.underlying31 hi hz0 hz1 hz2 rfl (by decide) _ _ _ rfl (World.ownsRow.alloc HX.out _) ⟨World.heap _ |>.size, 0, none⟩ 1 1 [Value.int .u8 (c.toNat : Int)] rfl rfl (one_u8 _ _) (by simp [Value.oneCell']) (by unfold maxLen; omega) (by omega) (by simp; omega) ?_; refine Hid.out ?_)
        refine Lib.hid ?_
        intro v' w4 own4 gr4 _
        obtain ⟨o5, b5⟩ := own_snoc rfl HX.out hb hB own4 gr4
        have O5 := Lib.hid o5
        clear own4 gr4 o5
        go_wp2_with fail
        go_roundw
        case rel => exact ⟨m / 128, pre ++ [c], by go_num, by omega, HE, O5, b5⟩
        case measure => simp [intOf]; omega
end Go.Proofs.Ytmfbnajaocaikaa
