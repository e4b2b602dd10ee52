/- Layer 10: the laws in the frames' order (gen/gen_thm.py writes this). -/
import Derived.Test.YtkeahbdeddjoeaaOpen
import Derived.Test.YtkeahbdeddjoeaaMatch
import Derived.Test.YtkeahbdeddjoeaaTruth
import Derived.Test.YtkeahbdeddjoeaaTight
import Derived.Test.YtkeahbdeddjoeaaNarrow
import Derived.Test.YtkeahbdeddjoeaaWidths
import Derived.Test.YtkeahbdeddjoeaaChanges
namespace Go.Proofs.Ytkeahbdeddjoeaa
open Go.RowKit Go
set_option linter.unusedVariables false

theorem match_law (G : Lnk) (A0 : Option Addr) (len0 cap0 : Nat) (z0 : List Ch) (v1_0 : Int) (v1_1 : Int) (v1_2 : Int) (v1_3 : Int) (v1_4 : Int) (v2_0 : Int) (v2_1 : Int) (v3_0 : Int) (v3_1 : Int) (v4_0 : Int) (v4_1 : Int) (w : World) (r0 : RowC w.heap.size w A0 len0 z0) (l0 : len0 ≤ cap0) (m0 : cap0 ≤ 9223372036854775807) (n0 : A0 = none → cap0 = 0) (f1_0 : I64 v1_0) (f1_1 : I64 v1_1) (f1_2 : I64 v1_2) (f1_3 : I64 v1_3) (f1_4 : I64 v1_4) (f2_0 : I64 v2_0) (f2_1 : I64 v2_1) (f3_0 : I64 v3_0) (f3_1 : I64 v3_1) (f4_0 : I64 v4_0) (f4_1 : I64 v4_1) :
    Calls Try.prog 3 #[.slice A0 len0 cap0, .agg #[.int .i64 v1_0, .int .i64 v1_1, .int .i64 v1_2, .int .i64 v1_3, .int .i64 v1_4], .agg #[.int .i64 v2_0, .int .i64 v2_1], .agg #[.int .i64 v3_0, .int .i64 v3_1], .agg #[.int .i64 v4_0, .int .i64 v4_1]] w (Gives (.bool true) w) :=
  match_walk G A0 len0 cap0 z0 v1_0 v1_1 v1_2 v1_3 v1_4 v2_0 v2_1 v3_0 v3_1 v4_0 v4_1 ⟨f1_0, f1_1, f1_2, f1_3, f1_4⟩ f2_0 f2_1 f3_0 f3_1 f4_0 f4_1 w r0 l0 m0
theorem truth_law (G : Lnk) (v0_0 : Int) (v0_1 : Int) (v0_2 : Int) (v0_3 : Int) (v0_4 : Int) (x1 : Int) (x2 : Int) (x3 : Int) (x4 : Int) (x5 : Int) (x6 : Int) (x7 : Int) (w : World) (f0_0 : I64 v0_0) (f0_1 : I64 v0_1) (f0_2 : I64 v0_2) (f0_3 : I64 v0_3) (f0_4 : I64 v0_4) (w1 : (Lit.int .i64 x1).wf = true) (w2 : (Lit.int .i64 x2).wf = true) (w3 : (Lit.int .i64 x3).wf = true) (w4 : (Lit.int .i64 x4).wf = true) (w5 : (Lit.int .i64 x5).wf = true) (w6 : (Lit.int .i64 x6).wf = true) (w7 : (Lit.int .i64 x7).wf = true) :
    Calls Try.prog 4 #[.agg #[.int .i64 v0_0, .int .i64 v0_1, .int .i64 v0_2, .int .i64 v0_3, .int .i64 v0_4], .int .i64 x1, .int .i64 x2, .int .i64 x3, .int .i64 x4, .int .i64 x5, .int .i64 x6, .int .i64 x7] w (Gives (.bool true) w) :=
  truth_walk G v0_0 v0_1 v0_2 v0_3 v0_4 x1 x2 x3 x4 x5 x6 x7 ⟨f0_0, f0_1, f0_2, f0_3, f0_4⟩ (i64_wf w1) (i64_wf w2) (i64_wf w3) (i64_wf w4) (i64_wf w5) (i64_wf w6) (i64_wf w7) w
theorem tight_law (G : Lnk) (v0_0 : Int) (v0_1 : Int) (v0_2 : Int) (v0_3 : Int) (v0_4 : Int) (v1_0 : Int) (v1_1 : Int) (v2_0 : Int) (v2_1 : Int) (x3 : Int) (w : World) (f0_0 : I64 v0_0) (f0_1 : I64 v0_1) (f0_2 : I64 v0_2) (f0_3 : I64 v0_3) (f0_4 : I64 v0_4) (f1_0 : I64 v1_0) (f1_1 : I64 v1_1) (f2_0 : I64 v2_0) (f2_1 : I64 v2_1) (w3 : (Lit.int .i64 x3).wf = true) :
    Calls Try.prog 5 #[.agg #[.int .i64 v0_0, .int .i64 v0_1, .int .i64 v0_2, .int .i64 v0_3, .int .i64 v0_4], .agg #[.int .i64 v1_0, .int .i64 v1_1], .agg #[.int .i64 v2_0, .int .i64 v2_1], .int .i64 x3] w (Gives (.bool true) w) :=
  tight_walk G v0_0 v0_1 v0_2 v0_3 v0_4 v1_0 v1_1 v2_0 v2_1 x3 ⟨f0_0, f0_1, f0_2, f0_3, f0_4⟩ f1_0 f1_1 f2_0 f2_1 (i64_wf w3) w
theorem narrow_law (G : Lnk) (v0_0 : Int) (v0_1 : Int) (v0_2 : Int) (v0_3 : Int) (v0_4 : Int) (v1_0 : Int) (v1_1 : Int) (v2_0 : Int) (v2_1 : Int) (v3_0 : Int) (v3_1 : Int) (v3_2 : Int) (v3_3 : Int) (x4 : Int) (x5 : Int) (w : World) (f0_0 : I64 v0_0) (f0_1 : I64 v0_1) (f0_2 : I64 v0_2) (f0_3 : I64 v0_3) (f0_4 : I64 v0_4) (f1_0 : I64 v1_0) (f1_1 : I64 v1_1) (f2_0 : I64 v2_0) (f2_1 : I64 v2_1) (f3_0 : 0 ≤ v3_0 ∧ v3_0 ≤ 65535) (f3_1 : 0 ≤ v3_1 ∧ v3_1 ≤ 65535) (f3_2 : 0 ≤ v3_2 ∧ v3_2 ≤ 65535) (f3_3 : 0 ≤ v3_3 ∧ v3_3 ≤ 65535) (w4 : (Lit.int .u16 x4).wf = true) (w5 : (Lit.int .u16 x5).wf = true) :
    Calls Try.prog 6 #[.agg #[.int .i64 v0_0, .int .i64 v0_1, .int .i64 v0_2, .int .i64 v0_3, .int .i64 v0_4], .agg #[.int .i64 v1_0, .int .i64 v1_1], .agg #[.int .i64 v2_0, .int .i64 v2_1], .agg #[.int .u16 v3_0, .int .u16 v3_1, .int .u16 v3_2, .int .u16 v3_3], .int .u16 x4, .int .u16 x5] w (Gives (.bool true) w) :=
  narrow_walk G v0_0 v0_1 v0_2 v0_3 v0_4 v1_0 v1_1 v2_0 v2_1 v3_0 v3_1 v3_2 v3_3 x4 x5 ⟨f0_0, f0_1, f0_2, f0_3, f0_4⟩ f1_0 f1_1 f2_0 f2_1 f3_0 f3_1 f3_2 f3_3 (u16_wf w4) (u16_wf w5) w
theorem widths_law (G : Lnk) (v0_0 : Int) (v0_1 : Int) (v0_2 : Int) (v0_3 : Int) (v0_4 : Int) (v1_0 : Int) (v1_1 : Int) (w : World) (f0_0 : I64 v0_0) (f0_1 : I64 v0_1) (f0_2 : I64 v0_2) (f0_3 : I64 v0_3) (f0_4 : I64 v0_4) (f1_0 : I64 v1_0) (f1_1 : I64 v1_1) :
    Calls Try.prog 7 #[.agg #[.int .i64 v0_0, .int .i64 v0_1, .int .i64 v0_2, .int .i64 v0_3, .int .i64 v0_4], .agg #[.int .i64 v1_0, .int .i64 v1_1]] w (Gives (.bool true) w) :=
  widths_walk G v0_0 v0_1 v0_2 v0_3 v0_4 v1_0 v1_1 ⟨f0_0, f0_1, f0_2, f0_3, f0_4⟩ f1_0 f1_1 w
theorem changes_law (G : Lnk) (A0 : Option Addr) (len0 cap0 : Nat) (z0 : List Ch) (v1_0 : Int) (v1_1 : Int) (x2 : Int) (v3_0 : Int) (v3_1 : Int) (v3_2 : Int) (v3_3 : Int) (v3_4 : Int) (w : World) (r0 : RowC w.heap.size w A0 len0 z0) (l0 : len0 ≤ cap0) (m0 : cap0 ≤ 9223372036854775807) (n0 : A0 = none → cap0 = 0) (f1_0 : I64 v1_0) (f1_1 : I64 v1_1) (w2 : (Lit.int .i64 x2).wf = true) (f3_0 : I64 v3_0) (f3_1 : I64 v3_1) (f3_2 : I64 v3_2) (f3_3 : I64 v3_3) (f3_4 : I64 v3_4) :
    Calls Try.prog 8 #[.slice A0 len0 cap0, .agg #[.int .i64 v1_0, .int .i64 v1_1], .int .i64 x2, .agg #[.int .i64 v3_0, .int .i64 v3_1, .int .i64 v3_2, .int .i64 v3_3, .int .i64 v3_4]] w (Gives (.bool true) w) :=
  changes_walk G A0 len0 cap0 z0 v1_0 v1_1 x2 v3_0 v3_1 v3_2 v3_3 v3_4 ⟨f3_0, f3_1, f3_2, f3_3, f3_4⟩ f1_0 f1_1 (i64_wf w2) w r0 l0 m0 n0
end Go.Proofs.Ytkeahbdeddjoeaa
