/- Layer 2: the reference's Hull. -/
import Derived.Test.YtpooifjieoijjaaRefs
import Derived.Test.YtpooifjieoijjaaPkg4
import Derived.Test.YtpooifjieoijjaaDepths
import Derived.RegionTactic
import Derived.BigRegion
namespace Go.Proofs.Ytpooifjieoijjaa
open Go.RowKit Go
set_option linter.unusedVariables false

theorem rhull_none (A : Option Addr) (len cap : Nat) (zs : List (Int × Int)) (w : World) (hr : Row w.heap.size w A len zs) (hm : len ≤ 9223372036854775807) (h : okList zs = false ∨ len = 0) :
    Calls Try.prog 17 #[.slice A len cap] w (Gives (.tuple #[ivV (0, 0), .int .i64 1]) w) := by
  have V := Lib.hid (rlist_any A len cap zs (w.alloc (.cells #[.int .i64 0, .int .i64 0] 24)) ((hr.below (below_alloc w _)).more (by simp)) (by omega))
  clear hr
  cases ho : okList zs with
  | false =>
    rw [ho] at V
    clear ho h
    go_enter Try.func17, Try.ntmps17
    go_wp2_with fail
    refine V.out.mono ?_
    rintro e w1 ⟨rfl, b1⟩
    have hb : Below w.heap.size w w1 := (below_alloc w _).trans (b1.mono (by simp))
    have T0 : Two w1 w.heap.size 24 (.int .i64 0) (.int .i64 0) := (Two.new w _ _ _).below b1 (by simp)
    clear b1
    have t0 := T0.c0
    have t1 := T0.c1
    have t2 := T0.free 0
    have t3 := T0.free 1
    have t4 := T0.lt
    go_wp2_with fail
    refine bodyPost_ret (v := .tuple #[.agg #[.int .i64 0, .int .i64 0], .int .i64 1]) (by simp [results, Try.results17, go_sem, t0, t1]) rfl ⟨rfl, ?_⟩
    exact (hb.setCell (p := ⟨w.heap.size, 0, none⟩) (by simp) _).setCell (p := ⟨w.heap.size, 1, none⟩) (by simp) _
  | true =>
    have h0 : len = 0 := by simpa [ho] using h
    subst h0
    rw [ho] at V
    clear ho h
    go_enter Try.func17, Try.ntmps17
    go_wp2_with fail
    refine V.out.mono ?_
    rintro e w1 ⟨rfl, b1⟩
    have hb : Below w.heap.size w w1 := (below_alloc w _).trans (b1.mono (by simp))
    have T0 : Two w1 w.heap.size 24 (.int .i64 0) (.int .i64 0) := (Two.new w _ _ _).below b1 (by simp)
    clear b1
    have t0 := T0.c0
    have t1 := T0.c1
    have t2 := T0.free 0
    have t3 := T0.free 1
    have t4 := T0.lt
    go_wp2_with fail
    refine bodyPost_ret (v := .tuple #[.agg #[.int .i64 0, .int .i64 0], .int .i64 1]) (by simp [results, Try.results17, go_sem, t0, t1]) rfl ⟨rfl, ?_⟩
    exact (hb.setCell (p := ⟨w.heap.size, 0, none⟩) (by simp) _).setCell (p := ⟨w.heap.size, 1, none⟩) (by simp) _

set_option maxHeartbeats 1600000 in
theorem rhull_yes (p : Addr) (len cap : Nat) (zs : List (Int × Int)) (w : World) (hr : Row w.heap.size w (some p) len zs) (hm : len ≤ 9223372036854775807) (x : Int × Int) (r : List (Int × Int)) (hz : zs = x :: r) (ho : okList zs = true) :
    Calls Try.prog 17 #[.slice (some p) len cap] w (Gives (.tuple #[ivV (r.foldl widen x), .int .i64 0]) w) := by
  have V := Lib.hid (rlist_any (some p) len cap zs (w.alloc (.cells #[.int .i64 0, .int .i64 0] 24)) ((hr.below (below_alloc w _)).more (by simp)) (by omega))
  rw [ho] at V
  have HR := Lib.hid hr
  have HL := Lib.hid hr.1
  have hlen : 1 ≤ len := by have := hr.1; rw [hz] at this; simp at this; omega
  clear hr ho
  go_enter Try.func17, Try.ntmps17
  go_wp2_with fail
  refine V.out.mono ?_
  rintro e w1 ⟨rfl, b1⟩
  have HB : Hid (Below w.heap.size w w1) := (below_alloc w _).trans (b1.mono (by simp))
  have T0 : Hid (Two w1 w.heap.size 24 (.int .i64 0) (.int .i64 0)) := (Two.new w _ _ _).below b1 (by simp)
  clear b1
  obtain ⟨p', e', hp, hc⟩ := (HR.out.below HB.out).2 hlen
  obtain rfl : p = p' := by injection e'
  clear e'
  obtain ⟨c1, c2⟩ := hc 0 (by omega)
  simp only [hz, Nat.zero_mul, List.getD_cons_zero] at c1 c2
  rw [show p.add 0 = p from rfl] at c1 c2
  clear hc
  have HZ := Lib.hid hz
  clear hz
  have hsz : w.heap.size < w1.heap.size := T0.out.lt
  go_wp2_with fail
  go_loopw [6] (fun i wr => ∃ (k : Nat) (lo hi : Int), 1 ≤ k ∧ k ≤ len ∧ i = .int .i64 k ∧ Hid ((lo, hi) = (r.take (k - 1)).foldl widen x) ∧ Hid (Two wr w1.heap.size 24 (.int .i64 lo) (.int .i64 hi)) ∧ Hid (Two wr w.heap.size 24 (.int .i64 0) (.int .i64 0)) ∧ Hid (Below w.heap.size w wr)) (fun i _ => len - (intOf i).toNat)
  case atStart => exact ⟨1, x.1, x.2, Nat.le_refl _, hlen, rfl, rfl, Two.new _ _ _ _, T0.out.alloc _, HB.out.alloc HB.out.size _⟩
  case round =>
    obtain ⟨k, lo, hi, k1, hk, rfl, HF, HT, HU, HBr⟩ := hrel
    have t0 := HT.out.c0
    have t1 := HT.out.c1
    have t2 := HT.out.free 0
    have t3 := HT.out.free 1
    have t4 := HT.out.lt
    by_cases hlt : k < len
    · obtain ⟨p', e', _, hc⟩ := (HR.out.below HBr.out).2 hlen
      obtain rfl : p = p' := by injection e'
      clear e'
      obtain ⟨d1, d2⟩ := hc k hlt
      clear hc c1 c2
      have hts : r.take k = r.take (k - 1) ++ [zs.getD k (0, 0)] := by
        have h1 := HL.out
        rw [HZ.out] at h1
        simp only [List.length_cons] at h1
        have := take_snoc r (0, 0) (k - 1) (by omega)
        rw [show k - 1 + 1 = k by omega] at this
        rw [this, HZ.out]
        congr 2
        obtain ⟨j, rfl⟩ : ∃ j, k = j + 1 := ⟨k - 1, by omega⟩
        rfl
      have HS := Lib.hid hts
      clear hts
      generalize zs.getD k (0, 0) = y at d1 d2 HS
      have hb1 : (0 : Int) ≤ k := by omega
      have hb2 : (k : Int) < len := by omega
      go_wp2_with fail
      go_region
      go_wp2_with fail
      go_region
      go_wp2_with fail
      go_roundw
      case rel =>
        refine ⟨k + 1, _, _, by omega, by omega, by go_num, ?_, (HT.out.set0 _).set1 _, (HU.out.far (p := ⟨w1.heap.size, 0, none⟩) (by simp; omega) _).far (p := ⟨w1.heap.size, 1, none⟩) (by simp; omega) _, ?_⟩
        · show (_, _) = (r.take (k + 1 - 1)).foldl widen x
          rw [Nat.add_sub_cancel, HS.out, List.foldl_append, ← HF.out]
          rfl
        · exact ((HBr.out.setCell (p := ⟨w1.heap.size, 0, none⟩) (by simp; omega) _).setCell (p := ⟨w1.heap.size, 1, none⟩) (by simp; omega) _).drew.drew
      case measure => simp [intOf]; omega
    · have s0 := HU.out.c0
      have s1 := HU.out.c1
      have s2 := HU.out.free 0
      have s3 := HU.out.free 1
      have s4 := HU.out.lt
      obtain rfl : k = len := by omega
      have HE : Hid ((lo, hi) = r.foldl widen x) := by
        show (lo, hi) = r.foldl widen x
        have h1 := HL.out
        rw [HZ.out] at h1
        simp only [List.length_cons] at h1
        rw [HF.out, List.take_of_length_le (by omega)]
      go_wp2_with fail
      refine bodyPost_ret (v := .tuple #[.agg #[.int .i64 lo, .int .i64 hi], .int .i64 0]) (by simp [results, Try.results17, go_sem, s0, s1]) rfl ⟨by rw [← HE.out]; rfl, ?_⟩
      exact (HBr.out.setCell (p := ⟨w.heap.size, 0, none⟩) (by simp) _).setCell (p := ⟨w.heap.size, 1, none⟩) (by simp) _

theorem rhull_any (A : Option Addr) (len cap : Nat) (zs : List (Int × Int)) (w : World) (hr : Row w.heap.size w A len zs) (hm : len ≤ 9223372036854775807) :
    Calls Try.prog 17 #[.slice A len cap] w (Gives (.tuple #[ivV (hullR zs).1, .int .i64 (hullR zs).2]) w) := by
  cases ho : okList zs with
  | false =>
    have e : hullR zs = ((0, 0), 1) := by unfold hullR; rw [ho]; rfl
    rw [e]; exact rhull_none A len cap zs w hr hm (.inl ho)
  | true =>
    cases zs with
    | nil => exact rhull_none A len cap [] w hr hm (.inr hr.1.symm)
    | cons x r =>
      obtain ⟨p, rfl, _, _⟩ := hr.2 (by have := hr.1; simp at this; omega)
      have e : hullR (x :: r) = (r.foldl widen x, 0) := by unfold hullR; rw [ho]; rfl
      rw [e]
      exact rhull_yes p len cap (x :: r) w hr hm x r rfl ho
end Go.Proofs.Ytpooifjieoijjaa
