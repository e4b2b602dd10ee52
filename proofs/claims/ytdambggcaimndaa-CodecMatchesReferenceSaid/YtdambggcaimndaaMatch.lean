/- Layer 4: the statement that all functions return what the reference's return. -/
import Derived.Test.YtdambggcaimndaaFew
import Derived.Test.YtdambggcaimndaaRFrames
namespace Go.Proofs.Ytdambggcaimndaa
open Go.RowKit Go.Sort Go
set_option linter.unusedVariables false

/-- Returned: these bytes and this error number. -/
def Bytes (bs : List UInt8) (er : Int) (w : World) (e : Ending) (w' : World) : Prop :=
  ∃ A n cap, e = .returned (.tuple #[.slice A n cap, .int .i64 er]) ∧ Row8 w'.heap.size w' A n bs ∧ Below w.heap.size w w'
def IntsV (l : List Int) (er : Int) (w : World) (e : Ending) (w' : World) : Prop :=
  ∃ A n cap, e = .returned (.tuple #[.slice A n cap, .int .i64 er]) ∧ RowI w'.heap.size w' A n l ∧ Below w.heap.size w w'

theorem row8_nil (w : World) : Row8 w.heap.size w none 0 [] := ⟨rfl, fun h => absurd h (by omega)⟩
theorem rowI_nil (w : World) : RowI w.heap.size w none 0 [] := ⟨rfl, fun h => absurd h (by omega), fun x hx => by simp at hx⟩

theorem four_bytes (l : List Int) (hl : l.length ≤ 1100) (hi : AllI l) : ∃ (b1 b2 : List UInt8) (er : Int), b1.length ≤ 20000 ∧ b2.length ≤ 20000 ∧ ∀ (A : Option Addr) (len cap : Nat) (w : World), RowI w.heap.size w A len l →
    Calls Try.prog 11 #[.slice A len cap] w (Bytes b1 er w) ∧ Calls Try.prog 12 #[.slice A len cap] w (Bytes b1 er w) ∧
    Calls Try.prog 14 #[.slice A len cap] w (Bytes b2 er w) ∧ Calls Try.prog 15 #[.slice A len cap] w (Bytes b2 er w) := by
  by_cases h : l.length ≤ 1000
  · have h1 := OkL.len (l := l) ⟨h, hi⟩
    refine ⟨listB l, frameB l, 0, by omega, by rw [frameB_len]; omega, fun A len cap w hr => ⟨?_, ?_, ?_, ?_⟩⟩
    · refine (put_ok A len cap l w hr (by have := hr.1; omega)).mono ?_
      rintro e w' ⟨A', n', cap', rfl, m⟩
      exact ⟨A', n', cap', rfl, m.2.2.2.2.1, m.2.2.2.2.2⟩
    · refine (rput_ok A len cap l w hr (by have := hr.1; omega)).mono ?_
      rintro e w' ⟨A', n', cap', rfl, m⟩
      exact ⟨A', n', cap', rfl, m.2.2.2.2.1, m.2.2.2.2.2⟩
    · refine (make_ok A len cap l w hr (by have := hr.1; omega)).mono ?_
      rintro e w' ⟨A', n', cap', rfl, m⟩
      exact ⟨A', n', cap', rfl, m.2.2.2.2.1, m.2.2.2.2.2⟩
    · refine (rmake_ok A len cap l w hr (by have := hr.1; omega)).mono ?_
      rintro e w' ⟨A', n', cap', rfl, m⟩
      exact ⟨A', n', cap', rfl, m.2.2.2.2.1, m.2.2.2.2.2⟩
  · refine ⟨[], [], 2, by simp, by simp, fun A len cap w hr => ⟨?_, ?_, ?_, ?_⟩⟩
    · refine (put_no A len cap l w hr (by have := hr.1; omega) (by have := hr.1; omega)).mono ?_
      rintro e w' ⟨rfl, hb⟩
      exact ⟨none, 0, 0, rfl, row8_nil _, hb⟩
    · refine (rput_no A len cap l w hr (by have := hr.1; omega) (by have := hr.1; omega)).mono ?_
      rintro e w' ⟨rfl, hb⟩
      exact ⟨none, 0, 0, rfl, row8_nil _, hb⟩
    · refine (make_no A len cap l w hr (by have := hr.1; omega) (by have := hr.1; omega)).mono ?_
      rintro e w' ⟨rfl, hb⟩
      exact ⟨none, 0, 0, rfl, row8_nil _, hb⟩
    · refine (rmake_no A len cap l w hr (by have := hr.1; omega) (by have := hr.1; omega)).mono ?_
      rintro e w' ⟨rfl, hb⟩
      exact ⟨none, 0, 0, rfl, row8_nil _, hb⟩

theorem get_two {bs : List UInt8} {w : World} {e : Ending} {w' : World} (h : GetEnd (getR bs) w e w') : IntsV ((getR bs).getD []) (if (getR bs).isSome then 0 else 7) w e w' := by
  cases hg : getR bs with
  | none =>
    rw [hg] at h
    obtain ⟨hb, rfl⟩ := h
    exact ⟨none, 0, 0, rfl, rowI_nil _, hb⟩
  | some l =>
    rw [hg] at h
    obtain ⟨hb, v, rfl, ho⟩ := h
    obtain ⟨A', n', cap', rfl, h1, h2, h3, h4⟩ := ho.row (getR_in hg).2
    exact ⟨A', n', cap', rfl, h4, hb⟩
theorem get_two_len (bs : List UInt8) : ((getR bs).getD []).length ≤ 1000 := by
  cases hg : getR bs with
  | none => simp
  | some l => exact (getR_in hg).1

def Lists (ls : List (List Int)) (m : Nat) (w : World) (e : Ending) (w' : World) : Prop :=
  ∃ A n cap, e = .returned (.tuple #[.slice A n cap, .int .i64 (m : Nat), .int .i64 0]) ∧ RowL w'.heap.size w' A n ls ∧ Below w.heap.size w w'
theorem frames_ex {bs : List UInt8} {w : World} {e : Ending} {w' : World} (h : FramesEnd bs w e w') : ∃ ls m, Told bs ls m ∧ Lists ls m w e w' := by
  obtain ⟨v, ls, m, rfl, ho, ht, hb⟩ := h
  obtain ⟨A', n', cap', rfl, h1, h2⟩ := ho.row ht.2.2
  exact ⟨ls, m, ht, A', n', cap', rfl, h2, hb⟩
theorem frames_same {bs : List UInt8} {ls : List (List Int)} {m : Nat} (ht : Told bs ls m) {w : World} {e : Ending} {w' : World} (h : FramesEnd bs w e w') : Lists ls m w e w' := by
  obtain ⟨ls', m', ht', h⟩ := frames_ex h
  obtain ⟨rfl, rfl⟩ := ht'.unique ht
  exact h

set_option maxRecDepth 100000 in
set_option maxHeartbeats 8000000 in
theorem match_law (A0 : Option Addr) (len0 cap0 : Nat) (z0 : List Int) (A1 : Option Addr) (len1 cap1 : Nat) (z1 : List UInt8) (w : World)
    (r0 : RowI w.heap.size w A0 len0 z0) (l0 : len0 ≤ cap0) (m0 : cap0 ≤ 9223372036854775807) (n0 : A0 = none → cap0 = 0)
    (r1 : Row8 w.heap.size w A1 len1 z1) (l1 : len1 ≤ cap1) (m1 : cap1 ≤ 9223372036854775807) (n1 : A1 = none → cap1 = 0) :
    Calls Try.prog 3 #[.slice A0 len0 cap0, .slice A1 len1 cap1] w (Gives (.bool true) w) := by
  have H := Lib.hid (head_true w)
  obtain ⟨k, hk⟩ : ∃ k, k = min len0 1100 := ⟨_, rfl⟩
  have hm1 : min (len0 : Int) 1100 = (k : Int) := by omega
  have hk1 : k ≤ len0 := by omega
  have hk2 : k ≤ 1100 := by omega
  obtain ⟨j, hj⟩ : ∃ j, j = min len1 3000 := ⟨_, rfl⟩
  have FW := Lib.hid (fun w => (few_any A1 len1 j cap1 w l1 m1 hj).mono (R' := fun e w' => e = .returned (.slice A1 j cap1) ∧ w' = w) fun e w' h => ⟨h.1, h.2.symm⟩)
  have hj1 : j ≤ cap1 := by omega
  have hj2 : j ≤ 3000 := by omega
  have R0 := Lib.hid (r0.take hk1)
  have R1 := Lib.hid (r1.take (show j ≤ len1 by omega))
  generalize z0.take k = l at R0
  generalize z1.take j = b at R1
  obtain ⟨b1, b2, er, hb1, hb2, F4⟩ := four_bytes l (by have := R0.out.1; omega) R0.out.2.2
  have F4 := Lib.hid F4
  have HB1 := Lib.hid hb1
  have HB2 := Lib.hid hb2
  have ge : (er == er) = true := by simp
  obtain ⟨gl, hgl⟩ : ∃ gl, gl = (getR b).getD [] := ⟨_, rfl⟩
  obtain ⟨ge', hge⟩ : ∃ ge, ge = if (getR b).isSome then (0 : Int) else 7 := ⟨_, rfl⟩
  have hgll : gl.length ≤ 1000 := by rw [hgl]; exact get_two_len b
  have GT : ∀ (w : World) e w', GetEnd (getR b) w e w' → IntsV gl ge' w e w' := fun w e w' h => by rw [hgl, hge]; exact get_two h
  have GT := Lib.hid GT
  have HGL := Lib.hid hgll
  have ge2 : (ge' == ge') = true := by simp
  clear r0 r1 hk hj n0 n1 hb1 hb2 hgl hge hgll
  go_enter Try.func3, Try.ntmps3
  go_wp2_with (go_at_call 9; refine H.out.mono ?_; rintro e W1 ⟨rfl, b1⟩; refine Hid.out ?_)
  refine Lib.hid ?_
  have B := Lib.hid b1
  have R0 := Lib.hid (R0.out.step b1)
  have R1 := Lib.hid (R1.out.step b1)
  clear b1
  go_wp2_with fail
  go_quiet ((go_at_call 10; exact Calls.quiet_of_same (FW.out _)))
  have bq : Below W1.heap.size W1 (W1.drewN nq) := (Drew.n W1 nq).below _
  have B := Lib.hid (below_more B.out bq)
  have R0 := Lib.hid (R0.out.step bq)
  have R1 := Lib.hid (R1.out.step bq)
  clear bq
  generalize W1.drewN nq = W1 at B R0 R1 ⊢
  go_wp2_with fail
  refine ((F4.out A0 k cap0 _ R0.out).1).mono ?_
  rintro e W2 ⟨A2, n2, cap2, rfl, r2, b2⟩
  have R0 := Lib.hid (R0.out.step b2)
  have R1 := Lib.hid (R1.out.step b2)
  have B := Lib.hid (below_more B.out b2)
  have R2 := Lib.hid r2
  clear b2 r2
  go_wp2_with fail
  refine ((F4.out A0 k cap0 _ R0.out).2.1).mono ?_
  rintro e W3 ⟨A3, n3, cap3, rfl, r3, b3⟩
  have R0 := Lib.hid (R0.out.step b3)
  have R1 := Lib.hid (R1.out.step b3)
  have R2 := Lib.hid (R2.out.step b3)
  have B := Lib.hid (below_more B.out b3)
  have S := rsame_any A2 A3 n2 n3 cap2 cap3 _ _ W3 R2.out r3 (by have := R2.out.1; have := HB1.out; omega) (by have := r3.1; have := HB1.out; omega)
  rw [decide_eq_true rfl] at S
  have S := Lib.hid S
  clear b3 r3
  go_wp2_with (go_at_call 13; refine S.out.mono ?_; rintro e W4 ⟨rfl, d4⟩; refine Hid.out ?_)
  refine Lib.hid ?_
  have b4 := d4.below W3.heap.size
  have R0 := Lib.hid (R0.out.step b4)
  have R1 := Lib.hid (R1.out.step b4)
  have B := Lib.hid (below_more B.out b4)
  clear b4 d4 S R2
  go_wp2_with fail
  refine ((F4.out A0 k cap0 _ R0.out).2.2.1).mono ?_
  rintro e W2 ⟨A2, n2, cap2, rfl, r2, b2⟩
  have R0 := Lib.hid (R0.out.step b2)
  have R1 := Lib.hid (R1.out.step b2)
  have B := Lib.hid (below_more B.out b2)
  have R2 := Lib.hid r2
  clear b2 r2
  go_wp2_with fail
  refine ((F4.out A0 k cap0 _ R0.out).2.2.2).mono ?_
  rintro e W3 ⟨A3, n3, cap3, rfl, r3, b3⟩
  have R1 := Lib.hid (R1.out.step b3)
  have R2 := Lib.hid (R2.out.step b3)
  have B := Lib.hid (below_more B.out b3)
  have S := rsame_any A2 A3 n2 n3 cap2 cap3 _ _ W3 R2.out r3 (by have := R2.out.1; have := HB2.out; omega) (by have := r3.1; have := HB2.out; omega)
  rw [decide_eq_true rfl] at S
  have S := Lib.hid S
  clear b3 r3 R0
  go_wp2_with (go_at_call 13; refine S.out.mono ?_; rintro e W4 ⟨rfl, d4⟩; refine Hid.out ?_)
  refine Lib.hid ?_
  have b4 := d4.below W3.heap.size
  have R1 := Lib.hid (R1.out.step b4)
  have B := Lib.hid (below_more B.out b4)
  clear b4 d4 S R2
  go_wp2_with fail
  refine ((get_any A1 j cap1 b _ R1.out (by omega) hj1).mono (GT.out _)).mono ?_
  rintro e W2 ⟨A2, n2, cap2, rfl, r2, b2⟩
  have R1 := Lib.hid (R1.out.step b2)
  have B := Lib.hid (below_more B.out b2)
  have R2 := Lib.hid r2
  clear b2 r2
  go_wp2_with fail
  refine ((rget_any A1 j cap1 b _ R1.out (by omega)).mono (GT.out _)).mono ?_
  rintro e W3 ⟨A3, n3, cap3, rfl, r3, b3⟩
  have R1 := Lib.hid (R1.out.step b3)
  have R2 := Lib.hid (R2.out.step b3)
  have B := Lib.hid (below_more B.out b3)
  have S := rints_any A2 A3 n2 n3 cap2 cap3 _ _ W3 R2.out r3 (by have := R2.out.1; have := HGL.out; omega) (by have := r3.1; have := HGL.out; omega)
  rw [decide_eq_true rfl] at S
  have S := Lib.hid S
  clear b3 r3
  go_wp2_with (go_at_call 18; refine S.out.mono ?_; rintro e W4 ⟨rfl, d4⟩; refine Hid.out ?_)
  refine Lib.hid ?_
  have b4 := d4.below W3.heap.size
  have R1 := Lib.hid (R1.out.step b4)
  have B := Lib.hid (below_more B.out b4)
  clear b4 d4 S R2
  go_wp2_with fail
  refine ((frames_any A1 j cap1 b _ R1.out (by omega) hj1).mono fun e w' h => frames_ex h).mono ?_
  rintro e W2 ⟨ls, m, ht, A2, n2, cap2, rfl, r2, b2⟩
  have hlsl := (told_len ht).2
  have HT := Lib.hid ht
  have R1 := Lib.hid (R1.out.step b2)
  have B := Lib.hid (below_more B.out b2)
  have R2 := Lib.hid r2
  have hls : ls.length ≤ 10000 := by have := R1.out.1; omega
  have HLS := Lib.hid hls
  clear b2 r2 ht hlsl hls
  go_wp2_with fail
  refine ((rframes_any A1 j cap1 b _ R1.out (by omega) hj1).mono fun e w' h => frames_same HT.out h).mono ?_
  rintro e W3 ⟨A3, n3, cap3, rfl, r3, b3⟩
  have R2 := Lib.hid (R2.out.step b3)
  have B := Lib.hid (below_more B.out b3)
  have S := rlists_any A2 A3 n2 n3 cap2 cap3 _ _ W3 R2.out r3 (by have := R2.out.1; have := HLS.out; omega) (by have := r3.1; have := HLS.out; omega)
  rw [decide_eq_true rfl] at S
  have S := Lib.hid S
  clear b3 r3
  go_wp2_with (go_at_call 21; refine S.out.mono ?_; rintro e W4 ⟨rfl, d4⟩; refine Hid.out ?_)
  refine Lib.hid ?_
  have b4 := d4.below W3.heap.size
  have B := Lib.hid (below_more B.out b4)
  clear b4 d4 S R2
  go_wp2_with fail
  go_ret
  exact ⟨rfl, B.out⟩
end Go.Proofs.Ytdambggcaimndaa
