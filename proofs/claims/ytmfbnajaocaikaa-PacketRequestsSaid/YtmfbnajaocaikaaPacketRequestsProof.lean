/- The Go function PacketRequests of the package regulatorlaw11 returns true for every input, and changes no argument. No condition. (The walk is requests_law pkt.) -/
import Derived.Test.YtmfbnajaocaikaaRows
import Derived.WalkKit
import Derived.ProofKit
import Derived.OpenShut
import Derived.ShutString
import Derived.ChangeOld
import Derived.Below
import Derived.Test.YtmfbnajaocaikaaOpen
import Derived.Test.YtmfbnajaocaikaaGPk
namespace Go.Proofs.Ytmfbnajaocaikaa.packetRequests
open Go.ChangeShapes Go.WideShapes Go.ChangeAt Go.RowKit
set_option linter.unusedVariables false

theorem own : ownKnob Try.prog.godebug = none := by kernel_rfl
theorem laidOut : laidOutB Try.prog = true := by kernel_rfl

theorem walk (v0_0 : Int) (v0_1 : Int) (v0_2 : Int) (v0_3 : Int) (A1 : Option Addr) (len1 cap1 : Nat) (z1 : List UInt8) (w : World) (f0_0 : I64 v0_0) (f0_1 : I64 v0_1) (f0_2 : I64 v0_2) (f0_3 : 0 ≤ v0_3 ∧ v0_3 ≤ 18446744073709551615) (r1 : Row8 w.heap.size w A1 len1 z1) (l1 : len1 ≤ cap1) (m1 : cap1 ≤ 9223372036854775807) (n1 : A1 = none → cap1 = 0) :
    Calls Try.prog 4 #[.agg #[.int .i64 v0_0, .int .i64 v0_1, .int .i64 v0_2, .int .u64 v0_3], .slice A1 len1 cap1] w fun e w' => e = .returned (.bool true) ∧ Below w.heap.size w w' :=
  requests_law pkt v0_0 v0_1 v0_2 v0_3 A1 len1 cap1 z1 w f0_0 f0_1 f0_2 f0_3 r1 l1 m1 n1

set_option maxRecDepth 100000 in
theorem lifted (os : Os) (started : os.Started) (H : Type) (enc : TypeId × Value → H) :
    ReturnsInHanded {} Try.checked os 4 .any (Rows.packetRequestsSpec.pre6 enc Try.prog Try.f4 Rows.packetRequestsRow.domain false) (Rows.packetRequestsSpec.post enc Try.prog Try.f4 false true false false) := by
  refine returnsInHanded_of_change (C := Try.checked) own started (by kernel_rfl) Try.func4
    (ChangeSpec.witness6 (enc := enc) (C := Try.checked) false ⟨#[], #[.agg #[.int .i64 0, .int .i64 0, .int .i64 0, .int .u64 0], .slice none 0 0], []⟩ 8 (by kernel_rfl) (by kernel_rfl) (by kernel_rfl) (by kernel_rfl)) ?_
  intro W base args ds gs before hval0 hW hcnd _
  have hval : ∀ (j : Nat) t v, Try.f4.params[j]? = some t → args[j]? = some v → Value.okWide Try.prog W .any base t v := hval0
  have hW' := hW
  obtain ⟨p, q, hA0, hV, rfl, hfz, hnd⟩ := hW
  have hA : DataW.TrodAll enc Try.prog W 0 (fun _ => true) true Try.f4.params.toList args.toList ds p := hA0
  rw [Try.params4] at hA hval
  obtain ⟨y0, vs0, d0, ds0, p0, q0, hargs, rfl, rfl, h0, r_0⟩ := trodAll_cons hA
  obtain ⟨y1, vs1, d1, ds1, p1, q1, rfl, rfl, rfl, h1, r_1⟩ := trodAll_cons r_0
  obtain ⟨rfl, rfl, rfl⟩ := trodAll_nil r_1
  obtain rfl : args = #[y0, y1] := by cases args; simp_all
  obtain ⟨rfl, rfl⟩ := trodVars_none hV
  have k0 := h0
  have lt0 : ∀ x ∈ p0, x.block < W.heap.size := by obtain ⟨m, hm⟩ := k0; exact DataW.trod_lt m _ _ _ hm
  have k1 := h1
  have lt1 : ∀ x ∈ p1, x.block < W.heap.size := by obtain ⟨m, hm⟩ := k1; exact DataW.trod_lt m _ _ _ hm
  obtain ⟨v0_0, v0_1, v0_2, v0_3, rfl, f0_0, f0_1, f0_2, f0_3⟩ := open_rq (hval 0 24 y0 rfl rfl) h0
  obtain ⟨A1, len1, cap1, z1, rfl, r1, l1, m1, n1⟩ := open_b8 (hval 1 31 y1 rfl rfl) h1
  clear hA0 hval0
  refine (walk v0_0 v0_1 v0_2 v0_3 A1 len1 cap1 z1 W f0_0 f0_1 f0_2 f0_3 r1 l1 m1 n1).mono fun e W' ⟨he, bel⟩ => ?_
  subst he
  exact ⟨_, rfl, _, _, _, [], _, [], hW', trodAll_mk1 (shut_bool Try.underlying4 _), (trodAll_cons_mk (Below.trod laidOut (by kernel_rfl) (of_decide_eq_true (by kernel_rfl)) k0 bel lt0) (trodAll_cons_mk (Below.trod laidOut (by kernel_rfl) (of_decide_eq_true (by kernel_rfl)) k1 bel lt1) trodAll_mk0)), rfl, bel.frame _, fun h => by cases h⟩

theorem over : Rows.packetRequestsRow.holds Try.pinned (OpenSpec.ofChange Rows.packetRequestsSpec) :=
  OpenClaim.holds_of_wide 4 Try.f4 rfl rfl rfl rfl rfl rfl rfl ⟨rfl, rfl, rfl, rfl, rfl⟩ rfl rfl rfl rfl rfl (by kernel_rfl) Try.func4 (by kernel_rfl)
    (of_decide_eq_true (by kernel_rfl)) (by unfold Func.isWrapper; first | (rw [if_pos (by decide +kernel)]; kernel_rfl) | (rw [if_neg (by decide +kernel)]; exact ⟨rfl, rfl⟩))
    (fun os started H enc _ => lifted os started H enc)

/-- THE STATEMENT -/
theorem proved : Rows.PacketRequestsSaid := over
#print axioms proved
end Go.Proofs.Ytmfbnajaocaikaa.packetRequests
