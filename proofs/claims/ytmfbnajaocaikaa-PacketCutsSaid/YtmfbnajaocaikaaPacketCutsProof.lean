/- The Go function PacketCuts of the package regulatorlaw11 returns true for every input, and changes no argument. No condition. (The walk is cuts_law pkt.) -/
import Derived.Test.YtmfbnajaocaikaaRows
import Derived.WalkKit
import Derived.ProofKit
import Derived.OpenShut
import Derived.ShutString
import Derived.ChangeOld
import Derived.Below
import Derived.Test.YtmfbnajaocaikaaOpen
import Derived.Test.YtmfbnajaocaikaaGPk
namespace Go.Proofs.Ytmfbnajaocaikaa.packetCuts
open Go.ChangeShapes Go.WideShapes Go.ChangeAt Go.RowKit
set_option linter.unusedVariables false

theorem own : ownKnob Try.prog.godebug = none := by kernel_rfl
theorem laidOut : laidOutB Try.prog = true := by kernel_rfl

theorem walk (v0_0 : Int) (v0_1 : Int) (v0_2 : Int) (v0_3 : Int) (v1_0 : Int) (v1_1 : Int) (v1_2 : Int) (v1_3 : Int) (v1_4 : Int) (v1_5 : Int) (v1_6 : Int) (v1_7 : Int) (v1_8 : Int) (v1_9 : Int) (x2 : Int) (A3 : Option Addr) (len3 cap3 : Nat) (z3 : List UInt8) (w : World) (f0_0 : I64 v0_0) (f0_1 : I64 v0_1) (f0_2 : I64 v0_2) (f0_3 : 0 ≤ v0_3 ∧ v0_3 ≤ 18446744073709551615) (f1_0 : I64 v1_0) (f1_1 : I64 v1_1) (f1_2 : I64 v1_2) (f1_3 : 0 ≤ v1_3 ∧ v1_3 ≤ 18446744073709551615) (f1_4 : I64 v1_4) (f1_5 : I64 v1_5) (f1_6 : I64 v1_6) (f1_7 : I64 v1_7) (f1_8 : I64 v1_8) (f1_9 : I64 v1_9) (w2 : (Lit.int .u8 x2).wf = true) (r3 : Row8 w.heap.size w A3 len3 z3) (l3 : len3 ≤ cap3) (m3 : cap3 ≤ 9223372036854775807) (n3 : A3 = none → cap3 = 0) :
    Calls Try.prog 7 #[.agg #[.int .i64 v0_0, .int .i64 v0_1, .int .i64 v0_2, .int .u64 v0_3], .agg #[.int .i64 v1_0, .int .i64 v1_1, .int .i64 v1_2, .int .u64 v1_3, .int .i64 v1_4, .int .i64 v1_5, .int .i64 v1_6, .int .i64 v1_7, .int .i64 v1_8, .int .i64 v1_9], .int .u8 x2, .slice A3 len3 cap3] w fun e w' => e = .returned (.bool true) ∧ Below w.heap.size w w' :=
  cuts_law pkt v0_0 v0_1 v0_2 v0_3 v1_0 v1_1 v1_2 v1_3 v1_4 v1_5 v1_6 v1_7 v1_8 v1_9 x2 A3 len3 cap3 z3 w f0_0 f0_1 f0_2 f0_3 f1_0 f1_1 f1_2 f1_3 f1_4 f1_5 f1_6 f1_7 f1_8 f1_9 w2 r3 l3 m3 n3

set_option maxRecDepth 100000 in
theorem lifted (os : Os) (started : os.Started) (H : Type) (enc : TypeId × Value → H) :
    ReturnsInHanded {} Try.checked os 7 .any (Rows.packetCutsSpec.pre6 enc Try.prog Try.f7 Rows.packetCutsRow.domain false) (Rows.packetCutsSpec.post enc Try.prog Try.f7 false true false false) := by
  refine returnsInHanded_of_change (C := Try.checked) own started (by kernel_rfl) Try.func7
    (ChangeSpec.witness6 (enc := enc) (C := Try.checked) false ⟨#[], #[.agg #[.int .i64 0, .int .i64 0, .int .i64 0, .int .u64 0], .agg #[.int .i64 0, .int .i64 0, .int .i64 0, .int .u64 0, .int .i64 0, .int .i64 0, .int .i64 0, .int .i64 0, .int .i64 0, .int .i64 0], .int .u8 0, .slice none 0 0], []⟩ 8 (by kernel_rfl) (by kernel_rfl) (by kernel_rfl) (by kernel_rfl)) ?_
  intro W base args ds gs before hval0 hW hcnd _
  have hval : ∀ (j : Nat) t v, Try.f7.params[j]? = some t → args[j]? = some v → Value.okWide Try.prog W .any base t v := hval0
  have hW' := hW
  obtain ⟨p, q, hA0, hV, rfl, hfz, hnd⟩ := hW
  have hA : DataW.TrodAll enc Try.prog W 0 (fun _ => true) true Try.f7.params.toList args.toList ds p := hA0
  rw [Try.params7] at hA hval
  obtain ⟨y0, vs0, d0, ds0, p0, q0, hargs, rfl, rfl, h0, r_0⟩ := trodAll_cons hA
  obtain ⟨y1, vs1, d1, ds1, p1, q1, rfl, rfl, rfl, h1, r_1⟩ := trodAll_cons r_0
  obtain ⟨y2, vs2, d2, ds2, p2, q2, rfl, rfl, rfl, h2, r_2⟩ := trodAll_cons r_1
  obtain ⟨y3, vs3, d3, ds3, p3, q3, rfl, rfl, rfl, h3, r_3⟩ := trodAll_cons r_2
  obtain ⟨rfl, rfl, rfl⟩ := trodAll_nil r_3
  obtain rfl : args = #[y0, y1, y2, y3] := by cases args; simp_all
  obtain ⟨rfl, rfl⟩ := trodVars_none hV
  have k0 := h0
  have lt0 : ∀ x ∈ p0, x.block < W.heap.size := by obtain ⟨m, hm⟩ := k0; exact DataW.trod_lt m _ _ _ hm
  have k1 := h1
  have lt1 : ∀ x ∈ p1, x.block < W.heap.size := by obtain ⟨m, hm⟩ := k1; exact DataW.trod_lt m _ _ _ hm
  have k2 := h2
  have lt2 : ∀ x ∈ p2, x.block < W.heap.size := by obtain ⟨m, hm⟩ := k2; exact DataW.trod_lt m _ _ _ hm
  have k3 := h3
  have lt3 : ∀ x ∈ p3, x.block < W.heap.size := by obtain ⟨m, hm⟩ := k3; exact DataW.trod_lt m _ _ _ hm
  obtain ⟨v0_0, v0_1, v0_2, v0_3, rfl, f0_0, f0_1, f0_2, f0_3⟩ := open_rq (hval 0 24 y0 rfl rfl) h0
  obtain ⟨v1_0, v1_1, v1_2, v1_3, v1_4, v1_5, v1_6, v1_7, v1_8, v1_9, rfl, f1_0, f1_1, f1_2, f1_3, f1_4, f1_5, f1_6, f1_7, f1_8, f1_9⟩ := open_rp (hval 1 30 y1 rfl rfl) h1
  obtain ⟨x2, rfl, rfl, rfl, w2⟩ := open_int Try.underlying5 (hval 2 5 y2 rfl rfl) h2
  obtain ⟨A3, len3, cap3, z3, rfl, r3, l3, m3, n3⟩ := open_b8 (hval 3 31 y3 rfl rfl) h3
  clear hA0 hval0
  refine (walk v0_0 v0_1 v0_2 v0_3 v1_0 v1_1 v1_2 v1_3 v1_4 v1_5 v1_6 v1_7 v1_8 v1_9 x2 A3 len3 cap3 z3 W f0_0 f0_1 f0_2 f0_3 f1_0 f1_1 f1_2 f1_3 f1_4 f1_5 f1_6 f1_7 f1_8 f1_9 w2 r3 l3 m3 n3).mono fun e W' ⟨he, bel⟩ => ?_
  subst he
  exact ⟨_, rfl, _, _, _, [], _, [], hW', trodAll_mk1 (shut_bool Try.underlying4 _), (trodAll_cons_mk (Below.trod laidOut (by kernel_rfl) (of_decide_eq_true (by kernel_rfl)) k0 bel lt0) (trodAll_cons_mk (Below.trod laidOut (by kernel_rfl) (of_decide_eq_true (by kernel_rfl)) k1 bel lt1) (trodAll_cons_mk (Below.trod laidOut (by kernel_rfl) (of_decide_eq_true (by kernel_rfl)) k2 bel lt2) (trodAll_cons_mk (Below.trod laidOut (by kernel_rfl) (of_decide_eq_true (by kernel_rfl)) k3 bel lt3) trodAll_mk0)))), rfl, bel.frame _, fun h => by cases h⟩

theorem over : Rows.packetCutsRow.holds Try.pinned (OpenSpec.ofChange Rows.packetCutsSpec) :=
  OpenClaim.holds_of_wide 7 Try.f7 rfl rfl rfl rfl rfl rfl rfl ⟨rfl, rfl, rfl, rfl, rfl⟩ rfl rfl rfl rfl rfl (by kernel_rfl) Try.func7 (by kernel_rfl)
    (of_decide_eq_true (by kernel_rfl)) (by unfold Func.isWrapper; first | (rw [if_pos (by decide +kernel)]; kernel_rfl) | (rw [if_neg (by decide +kernel)]; exact ⟨rfl, rfl⟩))
    (fun os started H enc _ => lifted os started H enc)

/-- THE STATEMENT -/
theorem proved : Rows.PacketCutsSaid := over
#print axioms proved
end Go.Proofs.Ytmfbnajaocaikaa.packetCuts
