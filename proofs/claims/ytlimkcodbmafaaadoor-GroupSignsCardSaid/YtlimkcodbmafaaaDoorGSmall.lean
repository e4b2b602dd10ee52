/- Layer 6: package group's challenge, Mul, Exp. -/
import Derived.Test.YtlimkcodbmafaaaDoorGPow
namespace Go.Proofs.YtlimkcodbmafaaaDoor
open Go.RowKit Go.Sort Go
set_option linter.unusedVariables false
set_option linter.unusedSimpArgs false

set_option maxHeartbeats 2000000 in
theorem gchal_any (a b : Int) (ha : -9223372036854775808 ≤ a ∧ a ≤ 9223372036854775807) (hb : -9223372036854775808 ≤ b ∧ b ≤ 9223372036854775807) (A : Option Addr) (n cap : Nat) (zs : List Int) (w : World) (hr : RowI w.heap.size w A n zs) (hl : n ≤ 100) (hn : A = none → cap = 0) (htab : Tab w) :
    Calls Tryd.prog 34 #[.int .i64 a, .int .i64 b, .slice A n cap] w (Gives (.int .i64 (chalN a b zs : Int)) w) := by
  have HN := Lib.hid hn
  have IN := Lib.hid (in_app (a := [a, b]) (b := zs) (by intro x hx; simp at hx; rcases hx with rfl | rfl <;> assumption) hr.2.2)
  obtain ⟨f, hf⟩ : ∃ f, fnv fnv0 (textOf (a :: b :: zs)) = f := ⟨_, rfl⟩
  obtain ⟨c, hc⟩ : ∃ c, f % 1073741789 = c := ⟨_, rfl⟩
  have hch : chalN a b zs = c := by unfold chalN; rw [hf, hc]
  rw [hch]
  have flt : f < 18446744073709551616 := by rw [← hf]; exact fnv_lt _ _ fnv0_lt
  have clt : c < 1073741789 := by rw [← hc]; exact Nat.mod_lt _ (by omega)
  have e1 : Int.tmod (f : Int) 1073741789 = (c : Int) := by rw [Int.tmod_eq_emod_of_nonneg (by omega)]; omega
  have HF := Lib.hid hf
  clear hf hc hch
  obtain ⟨W, hW⟩ : ∃ W, w.alloc (.cells #[.int .i64 a, .int .i64 b] 3) = W := ⟨_, rfl⟩
  have HO : Hid (OwnI w.heap.size W (.slice (some ⟨w.heap.size, 0, none⟩) 2 2) [a, b]) := by rw [← hW]; exact ownI_new w [a, b] w.heap.size (Nat.le_refl _) (by simp [maxLen])
  have BW : Hid (Below w.heap.size w W) := by rw [← hW]; exact below_alloc _ _
  have HT := Lib.hid htab
  have RA := Lib.hid (hr.step BW.out)
  have LA := Lib.hid (show ([a, b] : List Int).length + n ≤ 1000000000 by simp; omega)
  have LZ := Lib.hid hr.1
  clear hr hn htab
  go_enter Tryd.func34, Tryd.ntmps34
  go_wp2_with (at_builtin; refine wpList_appI rfl _ _ rfl w.heap.size (.slice (some ⟨w.heap.size, 0, none⟩) 2 2) [a, b] rfl HO.out A n cap _ zs rfl HN.out RA.out LA.out BW.out.size ?_; refine Hid.out ?_)
  refine Lib.hid ?_
  intro v w1 ho hg
  have bb : Below w.heap.size w w1 := BW.out.grown hg BW.out.size (ownI_grown (w' := w) HO.out)
  obtain ⟨A1, n1, cap1, rfl, _, _, _, r1⟩ := ho.row IN.out
  have hn1 := r1.1
  have L1 := LZ.out
  have RI := Lib.hid (ints_any A1 n1 cap1 _ w1 r1 (by simp at hn1; omega) (HT.out.step bb))
  rw [HF.out] at RI
  have BB := Lib.hid bb
  clear ho hg bb r1 hn1 L1 hW
  go_wp2_with (go_at_call 39; refine RI.out.mono ?_; rintro e w2 ⟨rfl, b2⟩; have B2 := Lib.hid (below_more BB.out b2); clear b2)
  go_ret
  exact ⟨rfl, B2.out⟩

theorem gmul_any (a b : Int) (hia : I64 a) (hib : I64 b) (w : World) :
    Calls Tryd.prog 11 #[.int .i64 a, .int .i64 b] w (Gives (.tuple #[.int .i64 (mulR a b).1, .int .i64 (mulR a b).2]) w) := by
  by_cases ha : ElI a
  · have MA := Lib.hid (gmember_any a true (by simp [ha]) hia.1 hia.2)
    by_cases hb : ElI b
    · have MB := Lib.hid (gmember_any b true (by simp [hb]) hib.1 hib.2)
      obtain ⟨n, rfl, hn⟩ := ha.nat
      obtain ⟨k, rfl, hk⟩ := hb.nat
      rw [mulR_el hn hk]
      have PR := Lib.hid (product_any n k hn.2.1 hk.2.1)
      generalize n * k % 2147483579 = t at PR ⊢
      clear hn hk ha hb hia hib
      go_enter Tryd.func11, Tryd.ntmps11
      go_wp2_with (first
        | (go_at_call 13; refine (MA.out _).mono ?_; rintro e w1 ⟨rfl, b1⟩; have B1 := Lib.hid b1; clear b1 MA)
        | (go_at_call 13; refine (MB.out _).mono ?_; rintro e w2 ⟨rfl, b2⟩; have B2 := Lib.hid (below_more B1.out b2); clear b2 MB)
        | (go_at_call 29; refine (PR.out _).mono ?_; rintro e w3 ⟨rfl, rfl⟩))
      go_ret2
      exact ⟨rfl, B2.out⟩
    · have MB := Lib.hid (gmember_any b false (by simp [hb]) hib.1 hib.2)
      have e : mulR a b = (0, 1) := if_neg (fun h => hb h.2)
      rw [e]
      clear e ha hb hia hib
      go_enter Tryd.func11, Tryd.ntmps11
      go_wp2_with (first
        | (go_at_call 13; refine (MA.out _).mono ?_; rintro e w1 ⟨rfl, b1⟩; have B1 := Lib.hid b1; clear b1 MA)
        | (go_at_call 13; refine (MB.out _).mono ?_; rintro e w2 ⟨rfl, b2⟩; have B2 := Lib.hid (below_more B1.out b2); clear b2 MB))
      go_ret2
      exact ⟨rfl, B2.out⟩
  · have MA := Lib.hid (gmember_any a false (by simp [ha]) hia.1 hia.2)
    have e : mulR a b = (0, 1) := if_neg (fun h => ha h.1)
    rw [e]
    clear e ha hia hib
    go_enter Tryd.func11, Tryd.ntmps11
    go_wp2_with (go_at_call 13; refine (MA.out _).mono ?_; rintro e w1 ⟨rfl, b1⟩; have B1 := Lib.hid b1; clear b1)
    go_ret2
    exact ⟨rfl, B1.out⟩

theorem gexp_any (a x : Int) (hia : I64 a) (hix : I64 x) (w : World) :
    Calls Tryd.prog 15 #[.int .i64 a, .int .i64 x] w (Gives (.tuple #[.int .i64 (expR a x).1, .int .i64 (expR a x).2]) w) := by
  by_cases ha : ElI a
  · have MA := Lib.hid (gmember_any a true (by simp [ha]) hia.1 hia.2)
    by_cases hb : ExI x
    · have MB := Lib.hid (gexponent_any x true (by simp [hb]) hix.1 hix.2)
      have e : expR a x = ((pw 2147483579 a.toNat x.toNat : Int), 0) := if_pos ⟨ha, hb⟩
      rw [e]
      have PW := Lib.hid (gpower_any a.toNat x.toNat (by have := ha.1; omega) (by have := ha.2.1; omega) (by have := hb.2; omega))
      rw [show ((x.toNat : Nat) : Int) = x by have := hb.1; omega, show ((a.toNat : Nat) : Int) = a by have := ha.1; omega] at PW
      generalize pw 2147483579 a.toNat x.toNat = r at PW
      clear e ha hb hia hix
      go_enter Tryd.func15, Tryd.ntmps15
      go_wp2_with (first
        | (go_at_call 13; refine (MA.out _).mono ?_; rintro e w1 ⟨rfl, b1⟩; have B1 := Lib.hid b1; clear b1 MA)
        | (go_at_call 32; refine (MB.out _).mono ?_; rintro e w2 ⟨rfl, rfl⟩)
        | (go_at_call 30; refine (PW.out _).mono ?_; rintro e w3 ⟨rfl, b3⟩; have B3 := Lib.hid (below_more B1.out b3); clear b3))
      go_ret2
      exact ⟨rfl, B3.out⟩
    · have MB := Lib.hid (gexponent_any x false (by simp [hb]) hix.1 hix.2)
      have e : expR a x = (0, 1) := if_neg (fun h => hb h.2)
      rw [e]
      clear e ha hb hia hix
      go_enter Tryd.func15, Tryd.ntmps15
      go_wp2_with (first
        | (go_at_call 13; refine (MA.out _).mono ?_; rintro e w1 ⟨rfl, b1⟩; have B1 := Lib.hid b1; clear b1 MA)
        | (go_at_call 32; refine (MB.out _).mono ?_; rintro e w2 ⟨rfl, rfl⟩))
      go_ret2
      exact ⟨rfl, B1.out⟩
  · have MA := Lib.hid (gmember_any a false (by simp [ha]) hia.1 hia.2)
    have e : expR a x = (0, 1) := if_neg (fun h => ha h.1)
    rw [e]
    clear e ha hia hix
    go_enter Tryd.func15, Tryd.ntmps15
    go_wp2_with (go_at_call 13; refine (MA.out _).mono ?_; rintro e w1 ⟨rfl, b1⟩; have B1 := Lib.hid b1; clear b1)
    go_ret2
    exact ⟨rfl, B1.out⟩
end Go.Proofs.YtlimkcodbmafaaaDoor
