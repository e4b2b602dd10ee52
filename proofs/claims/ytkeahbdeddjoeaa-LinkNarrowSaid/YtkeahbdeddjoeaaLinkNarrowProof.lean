/- The Go function LinkNarrow of the package regulatorlaw10 returns true for every input, and changes no argument. No condition. (The walk is narrow_law lnk.) -/
import Derived.Test.YtkeahbdeddjoeaaRows
import Derived.WalkKit
import Derived.ProofKit
import Derived.OpenShut
import Derived.ShutString
import Derived.ChangeOld
import Derived.Below
import Derived.Test.YtkeahbdeddjoeaaOpen
import Derived.Test.YtkeahbdeddjoeaaLnks
namespace Go.Proofs.Ytkeahbdeddjoeaa.linkNarrow
open Go.ChangeShapes Go.WideShapes Go.ChangeAt Go.RowKit
set_option linter.unusedVariables false

theorem own : ownKnob Try.prog.godebug = none := by kernel_rfl
theorem laidOut : laidOutB Try.prog = true := by kernel_rfl

theorem walk (v0_0 : Int) (v0_1 : Int) (v0_2 : Int) (v0_3 : Int) (v0_4 : Int) (v1_0 : Int) (v1_1 : Int) (v2_0 : Int) (v2_1 : Int) (v3_0 : Int) (v3_1 : Int) (v3_2 : Int) (v3_3 : Int) (x4 : Int) (x5 : Int) (w : World) (f0_0 : I64 v0_0) (f0_1 : I64 v0_1) (f0_2 : I64 v0_2) (f0_3 : I64 v0_3) (f0_4 : I64 v0_4) (f1_0 : I64 v1_0) (f1_1 : I64 v1_1) (f2_0 : I64 v2_0) (f2_1 : I64 v2_1) (f3_0 : 0 ≤ v3_0 ∧ v3_0 ≤ 65535) (f3_1 : 0 ≤ v3_1 ∧ v3_1 ≤ 65535) (f3_2 : 0 ≤ v3_2 ∧ v3_2 ≤ 65535) (f3_3 : 0 ≤ v3_3 ∧ v3_3 ≤ 65535) (w4 : (Lit.int .u16 x4).wf = true) (w5 : (Lit.int .u16 x5).wf = true) :
    Calls Try.prog 6 #[.agg #[.int .i64 v0_0, .int .i64 v0_1, .int .i64 v0_2, .int .i64 v0_3, .int .i64 v0_4], .agg #[.int .i64 v1_0, .int .i64 v1_1], .agg #[.int .i64 v2_0, .int .i64 v2_1], .agg #[.int .u16 v3_0, .int .u16 v3_1, .int .u16 v3_2, .int .u16 v3_3], .int .u16 x4, .int .u16 x5] w fun e w' => e = .returned (.bool true) ∧ Below w.heap.size w w' :=
  narrow_law lnk v0_0 v0_1 v0_2 v0_3 v0_4 v1_0 v1_1 v2_0 v2_1 v3_0 v3_1 v3_2 v3_3 x4 x5 w f0_0 f0_1 f0_2 f0_3 f0_4 f1_0 f1_1 f2_0 f2_1 f3_0 f3_1 f3_2 f3_3 w4 w5

set_option maxRecDepth 100000 in
theorem lifted (os : Os) (started : os.Started) (H : Type) (enc : TypeId × Value → H) :
    ReturnsInHanded {} Try.checked os 6 .any (Rows.linkNarrowSpec.pre6 enc Try.prog Try.f6 Rows.linkNarrowRow.domain false) (Rows.linkNarrowSpec.post enc Try.prog Try.f6 false true false false) := by
  refine returnsInHanded_of_change (C := Try.checked) own started (by kernel_rfl) Try.func6
    (ChangeSpec.witness6 (enc := enc) (C := Try.checked) false ⟨#[], #[.agg #[.int .i64 0, .int .i64 0, .int .i64 0, .int .i64 0, .int .i64 0], .agg #[.int .i64 0, .int .i64 0], .agg #[.int .i64 0, .int .i64 0], .agg #[.int .u16 0, .int .u16 0, .int .u16 0, .int .u16 0], .int .u16 0, .int .u16 0], []⟩ 8 (by kernel_rfl) (by kernel_rfl) (by kernel_rfl) (by kernel_rfl)) ?_
  intro W base args ds gs before hval0 hW hcnd _
  have hval : ∀ (j : Nat) t v, Try.f6.params[j]? = some t → args[j]? = some v → Value.okWide Try.prog W .any base t v := hval0
  have hW' := hW
  obtain ⟨p, q, hA0, hV, rfl, hfz, hnd⟩ := hW
  have hA : DataW.TrodAll enc Try.prog W 0 (fun _ => true) true Try.f6.params.toList args.toList ds p := hA0
  rw [Try.params6] at hA hval
  obtain ⟨y0, vs0, d0, ds0, p0, q0, hargs, rfl, rfl, h0, r_0⟩ := trodAll_cons hA
  obtain ⟨y1, vs1, d1, ds1, p1, q1, rfl, rfl, rfl, h1, r_1⟩ := trodAll_cons r_0
  obtain ⟨y2, vs2, d2, ds2, p2, q2, rfl, rfl, rfl, h2, r_2⟩ := trodAll_cons r_1
  obtain ⟨y3, vs3, d3, ds3, p3, q3, rfl, rfl, rfl, h3, r_3⟩ := trodAll_cons r_2
  obtain ⟨y4, vs4, d4, ds4, p4, q4, rfl, rfl, rfl, h4, r_4⟩ := trodAll_cons r_3
  obtain ⟨y5, vs5, d5, ds5, p5, q5, rfl, rfl, rfl, h5, r_5⟩ := trodAll_cons r_4
  obtain ⟨rfl, rfl, rfl⟩ := trodAll_nil r_5
  obtain rfl : args = #[y0, y1, y2, y3, y4, y5] := by cases args; simp_all
  obtain ⟨rfl, rfl⟩ := trodVars_none hV
  have k0 := h0
  have lt0 : ∀ x ∈ p0, x.block < W.heap.size := by obtain ⟨m, hm⟩ := k0; exact DataW.trod_lt m _ _ _ hm
  have k1 := h1
  have lt1 : ∀ x ∈ p1, x.block < W.heap.size := by obtain ⟨m, hm⟩ := k1; exact DataW.trod_lt m _ _ _ hm
  have k2 := h2
  have lt2 : ∀ x ∈ p2, x.block < W.heap.size := by obtain ⟨m, hm⟩ := k2; exact DataW.trod_lt m _ _ _ hm
  have k3 := h3
  have lt3 : ∀ x ∈ p3, x.block < W.heap.size := by obtain ⟨m, hm⟩ := k3; exact DataW.trod_lt m _ _ _ hm
  have k4 := h4
  have lt4 : ∀ x ∈ p4, x.block < W.heap.size := by obtain ⟨m, hm⟩ := k4; exact DataW.trod_lt m _ _ _ hm
  have k5 := h5
  have lt5 : ∀ x ∈ p5, x.block < W.heap.size := by obtain ⟨m, hm⟩ := k5; exact DataW.trod_lt m _ _ _ hm
  obtain ⟨v0_0, v0_1, v0_2, v0_3, v0_4, rfl, f0_0, f0_1, f0_2, f0_3, f0_4⟩ := open_ch (hval 0 24 y0 rfl rfl) h0
  obtain ⟨v1_0, v1_1, rfl, f1_0, f1_1⟩ := open_iw (hval 1 26 y1 rfl rfl) h1
  obtain ⟨v2_0, v2_1, rfl, f2_0, f2_1⟩ := open_rg (hval 2 27 y2 rfl rfl) h2
  obtain ⟨v3_0, v3_1, v3_2, v3_3, rfl, f3_0, f3_1, f3_2, f3_3⟩ := open_a16 (hval 3 45 y3 rfl rfl) h3
  obtain ⟨x4, rfl, rfl, rfl, w4⟩ := open_int Try.underlying44 (hval 4 44 y4 rfl rfl) h4
  obtain ⟨x5, rfl, rfl, rfl, w5⟩ := open_int Try.underlying44 (hval 5 44 y5 rfl rfl) h5
  clear hA0 hval0
  refine (walk v0_0 v0_1 v0_2 v0_3 v0_4 v1_0 v1_1 v2_0 v2_1 v3_0 v3_1 v3_2 v3_3 x4 x5 W f0_0 f0_1 f0_2 f0_3 f0_4 f1_0 f1_1 f2_0 f2_1 f3_0 f3_1 f3_2 f3_3 w4 w5).mono fun e W' ⟨he, bel⟩ => ?_
  subst he
  exact ⟨_, rfl, _, _, _, [], _, [], hW', trodAll_mk1 (shut_bool Try.underlying4 _), (trodAll_cons_mk (Below.trod laidOut (by kernel_rfl) (of_decide_eq_true (by kernel_rfl)) k0 bel lt0) (trodAll_cons_mk (Below.trod laidOut (by kernel_rfl) (of_decide_eq_true (by kernel_rfl)) k1 bel lt1) (trodAll_cons_mk (Below.trod laidOut (by kernel_rfl) (of_decide_eq_true (by kernel_rfl)) k2 bel lt2) (trodAll_cons_mk (Below.trod laidOut (by kernel_rfl) (of_decide_eq_true (by kernel_rfl)) k3 bel lt3) (trodAll_cons_mk (Below.trod laidOut (by kernel_rfl) (of_decide_eq_true (by kernel_rfl)) k4 bel lt4) (trodAll_cons_mk (Below.trod laidOut (by kernel_rfl) (of_decide_eq_true (by kernel_rfl)) k5 bel lt5) trodAll_mk0)))))), rfl, bel.frame _, fun h => by cases h⟩

theorem over : Rows.linkNarrowRow.holds Try.pinned (OpenSpec.ofChange Rows.linkNarrowSpec) :=
  OpenClaim.holds_of_wide 6 Try.f6 rfl rfl rfl rfl rfl rfl rfl ⟨rfl, rfl, rfl, rfl, rfl⟩ rfl rfl rfl rfl rfl (by kernel_rfl) Try.func6 (by kernel_rfl)
    (of_decide_eq_true (by kernel_rfl)) (by unfold Func.isWrapper; first | (rw [if_pos (by decide +kernel)]; kernel_rfl) | (rw [if_neg (by decide +kernel)]; exact ⟨rfl, rfl⟩))
    (fun os started H enc _ => lifted os started H enc)

/-- THE STATEMENT -/
theorem proved : Rows.LinkNarrowSaid := over
#print axioms proved
end Go.Proofs.Ytkeahbdeddjoeaa.linkNarrow
