/- Layer 2: the reference's Valid, Has, List, depth, In and Same. -/
import Derived.Deep.QuietTactic
import Derived.BigQuiet
import Derived.Test.YtpooifjieoijjaaMath
namespace Go.Proofs.Ytpooifjieoijjaa
open Go.RowKit Go
set_option linter.unusedVariables false

theorem rvalid_any (a b : Int) (w : World) : Calls Try.prog 15 #[.agg #[.int .i64 a, .int .i64 b]] w (Gives (.bool (validB (a, b))) w) := by
  by_cases h1 : 0 ≤ a
  · by_cases h2 : a ≤ b
    · by_cases h3 : b ≤ 3000000000000000
      · have e : validB (a, b) = true := by simp [validB, h1, h2, h3]
        rw [e]
        clear e
        go_enter Try.func15, Try.ntmps15
        go_wp2_with fail
        go_ret
        exact ⟨rfl, (Below.refl _ _).alloc (Nat.le_refl _) _⟩
      · have e : validB (a, b) = false := by simp [validB, h1, h2, h3]
        rw [e]
        clear e
        go_enter Try.func15, Try.ntmps15
        go_wp2_with fail
        go_ret
        exact ⟨rfl, (Below.refl _ _).alloc (Nat.le_refl _) _⟩
    · have e : validB (a, b) = false := by simp [validB, h1, h2]
      rw [e]
      clear e
      go_enter Try.func15, Try.ntmps15
      go_wp2_with fail
      go_ret
      exact ⟨rfl, (Below.refl _ _).alloc (Nat.le_refl _) _⟩
  · have e : validB (a, b) = false := by simp [validB, h1]
    rw [e]
    clear e
    go_enter Try.func15, Try.ntmps15
    go_wp2_with fail
    go_ret
    exact ⟨rfl, (Below.refl _ _).alloc (Nat.le_refl _) _⟩

theorem rhas_any (a b x : Int) (w : World) : Calls Try.prog 25 #[.agg #[.int .i64 a, .int .i64 b], .int .i64 x] w (Gives (.bool (inB (a, b) x)) w) := by
  by_cases h1 : a ≤ x
  · by_cases h2 : x ≤ b
    · have e : inB (a, b) x = true := by simp [inB, h1, h2]
      rw [e]; clear e
      go_enter Try.func25, Try.ntmps25
      go_wp2_with fail
      go_ret
      exact ⟨rfl, (Below.refl _ _).alloc (Nat.le_refl _) _⟩
    · have e : inB (a, b) x = false := by simp [inB, h1, h2]
      rw [e]; clear e
      go_enter Try.func25, Try.ntmps25
      go_wp2_with fail
      go_ret
      exact ⟨rfl, (Below.refl _ _).alloc (Nat.le_refl _) _⟩
  · have e : inB (a, b) x = false := by simp [inB, h1]
    rw [e]; clear e
    go_enter Try.func25, Try.ntmps25
    go_wp2_with fail
    go_ret
    exact ⟨rfl, (Below.refl _ _).alloc (Nat.le_refl _) _⟩

theorem ret_bool {a b : Bool} (h : a = b) : Ending.returned (.bool a) = .returned (.bool b) := by rw [h]
theorem okList_no {zs : List (Int × Int)} {k : Nat} {x : Int × Int} (hs : zs.take (k + 1) = zs.take k ++ [x]) (hv : validB x = false) : okList zs = false := by
  rw [okList, Bool.and_eq_false_iff]
  right
  rw [Bool.eq_false_iff]
  intro h
  have h2 : (zs.take (k + 1)).all validB = true := by
    simp only [List.all_eq_true] at h ⊢
    exact fun y hy => h y (List.mem_of_mem_take hy)
  rw [hs, List.all_append, Bool.and_eq_true] at h2
  have h3 := h2.2
  simp [hv] at h3

set_option maxHeartbeats 1000000 in
theorem rlist_any (A : Option Addr) (len cap : Nat) (zs : List (Int × Int)) (w : World) (hr : Row w.heap.size w A len zs) (hl : len ≤ 9223372036854775807) :
    Calls Try.prog 26 #[.slice A len cap] w (Gives (.bool (okList zs)) w) := by
  have HR := Lib.hid hr
  have hL := Lib.hid hr.1
  clear hr
  have V : Hid (∀ (a b : Int) (w : World), Calls Try.prog 15 #[.agg #[.int .i64 a, .int .i64 b]] w (Gives (.bool (validB (a, b))) w)) := rvalid_any
  go_enter Try.func26, Try.ntmps26
  go_wp2_with fail
  go_loopw [3] (fun i wr => ∃ k : Nat, k ≤ len ∧ i = .int .i64 k ∧ Hid ((zs.take k).all validB = true) ∧ Below w.heap.size w wr) (fun i _ => len - (intOf i).toNat)
  case atStart => exact ⟨0, Nat.zero_le _, rfl, rfl, Below.refl _ _⟩
  case round =>
    obtain ⟨k, hk, rfl, HA, hb⟩ := hrel
    by_cases hlt : k < len
    · obtain ⟨p, rfl, hp, hc⟩ := (HR.out.below hb).2 (by omega)
      obtain ⟨c1, c2⟩ := hc k hlt
      clear hc
      have HS := Lib.hid (take_snoc zs (0, 0) k (by rw [hL.out]; exact hlt))
      generalize zs.getD k (0, 0) = x at c1 c2 HS
      go_wp2_with fail
      refine (V.out _ _ _).mono ?_
      rintro e w1 ⟨rfl, b1⟩
      have hb1 : Below w.heap.size w w1 := hb.trans (b1.mono hb.size)
      clear b1
      cases hv : validB (x.1, x.2) with
      | true =>
        have HV := Lib.hid hv
        clear hv
        go_wp2_with fail
        go_roundw
        case rel =>
          refine ⟨k + 1, by omega, by go_num, ?_, hb1⟩
          show (zs.take (k + 1)).all validB = true
          rw [HS.out, List.all_append, HA.out]; simp [show validB x = true from HV.out]
        case measure => simp [intOf]; omega
      | false =>
        have HN := Lib.hid (okList_no HS.out hv)
        clear hv
        go_wp2_with fail
        go_ret
        exact ⟨by rw [HN.out]; rfl, hb1⟩
    · obtain rfl : k = len := by omega
      have hE : zs.take k = zs := by rw [← hL.out]; exact List.take_length
      rw [hE] at HA
      have HN : Hid (okList zs = decide (k ≤ 64)) := by
        show okList zs = _
        rw [okList, hL.out, HA.out, Bool.and_true]
      clear hE HA
      by_cases h64 : k ≤ 64
      · have e : decide (k ≤ 64) = true := by simpa using h64
        rw [e] at HN
        clear e
        go_wp2_with fail
        go_ret
        exact ⟨by rw [HN.out]; exact ret_bool (by simp; omega), hb⟩
      · have e : decide (k ≤ 64) = false := by simpa using h64
        rw [e] at HN
        clear e
        go_wp2_with fail
        go_ret
        exact ⟨by rw [HN.out]; exact ret_bool (by simp; omega), hb⟩

set_option maxHeartbeats 1000000 in
theorem rdepth_any (A : Option Addr) (len cap : Nat) (zs : List (Int × Int)) (x : Int) (w : World) (hr : Row w.heap.size w A len zs) (hl : len ≤ 9223372036854775807) :
    Calls Try.prog 30 #[.slice A len cap, .int .i64 x] w (Gives (.int .i64 (depthN zs x : Int)) w) := by
  have HR := Lib.hid hr
  have hL := Lib.hid hr.1
  clear hr
  have V : Hid (∀ (a b x : Int) (w : World), Calls Try.prog 25 #[.agg #[.int .i64 a, .int .i64 b], .int .i64 x] w (Gives (.bool (inB (a, b) x)) w)) := rhas_any
  go_enter Try.func30, Try.ntmps30
  go_wp2_with fail
  go_loopw [5, 6] (fun d i wr => ∃ k n : Nat, k ≤ len ∧ n ≤ k ∧ i = .int .i64 k ∧ d = .int .i64 n ∧ Hid (n = depthN (zs.take k) x) ∧ Below w.heap.size w wr) (fun _ i _ => len - (intOf i).toNat)
  case atStart => exact ⟨0, 0, Nat.zero_le _, Nat.zero_le _, rfl, rfl, rfl, Below.refl _ _⟩
  case round =>
    obtain ⟨k, n, hk, hn, rfl, rfl, HN, hb⟩ := hrel
    by_cases hlt : k < len
    · obtain ⟨p, rfl, hp, hc⟩ := (HR.out.below hb).2 (by omega)
      obtain ⟨c1, c2⟩ := hc k hlt
      clear hc
      have HS := Lib.hid (take_snoc zs (0, 0) k (by rw [hL.out]; exact hlt))
      generalize zs.getD k (0, 0) = y at c1 c2 HS
      go_wp2_with fail
      refine (V.out _ _ _ _).mono ?_
      rintro e w1 ⟨rfl, b1⟩
      have hb1 : Below w.heap.size w w1 := hb.trans (b1.mono hb.size)
      clear b1
      cases hv : inB (y.1, y.2) x with
      | true =>
        have HV := Lib.hid hv
        clear hv
        go_wp2_with fail
        go_roundw
        case rel =>
          refine ⟨k + 1, n + 1, by omega, by omega, by go_num, by go_num, ?_, hb1⟩
          show n + 1 = depthN (zs.take (k + 1)) x
          rw [HS.out, HN.out, depthN, depthN, List.countP_append]
          simp [show inB y x = true from HV.out]
        case measure => simp [intOf]; omega
      | false =>
        have HV := Lib.hid hv
        clear hv
        go_wp2_with fail
        go_roundw
        case rel =>
          refine ⟨k + 1, n, by omega, by omega, by go_num, rfl, ?_, hb1⟩
          show n = depthN (zs.take (k + 1)) x
          rw [HS.out, HN.out, depthN, depthN, List.countP_append]
          simp [show inB y x = false from HV.out]
        case measure => simp [intOf]; omega
    · obtain rfl : k = len := by omega
      have HF := Lib.hid (show n = depthN zs x by rw [HN.out, List.take_of_length_le (by have := hL.out; omega)])
      go_wp2_with fail
      go_ret
      exact ⟨by rw [← HF.out]; rfl, hb⟩

theorem inL_depth (zs : List (Int × Int)) (x : Int) : inL zs x = decide (0 < depthN zs x) := by
  rw [Bool.eq_iff_iff, decide_eq_true_eq, depthN, List.countP_pos_iff, inL, List.any_eq_true]

theorem rin_any (A : Option Addr) (len cap : Nat) (zs : List (Int × Int)) (x : Int) (w : World) (hr : Row w.heap.size w A len zs) (hl : len ≤ 9223372036854775807) :
    Calls Try.prog 27 #[.slice A len cap, .int .i64 x] w (Gives (.bool (inL zs x)) w) := by
  have D := Lib.hid (rdepth_any A len cap zs x w hr hl)
  have HI := Lib.hid (inL_depth zs x)
  generalize depthN zs x = n at D HI
  clear hr
  by_cases h0 : 0 < n
  · go_enter Try.func27, Try.ntmps27
    go_wp2_with fail
    refine D.out.mono ?_
    rintro e w1 ⟨rfl, b1⟩
    go_wp2_with fail
    go_ret
    exact ⟨by rw [HI.out]; simp [h0], b1⟩
  · go_enter Try.func27, Try.ntmps27
    go_wp2_with fail
    refine D.out.mono ?_
    rintro e w1 ⟨rfl, b1⟩
    go_wp2_with fail
    go_ret
    exact ⟨by rw [HI.out]; simp [h0], b1⟩
end Go.Proofs.Ytpooifjieoijjaa
