/- Layer 8: the laws in the order of the frames. -/
import Derived.Test.YtpfcjffpomdhbaaOpen
import Derived.Test.YtpfcjffpomdhbaaMatch
import Derived.Test.YtpfcjffpomdhbaaTruth
import Derived.Test.YtpfcjffpomdhbaaEnds
import Derived.Test.YtpfcjffpomdhbaaSteps
import Derived.Test.YtpfcjffpomdhbaaWider
import Derived.Test.YtpfcjffpomdhbaaMeets
import Derived.Test.YtpfcjffpomdhbaaWrsLaw
import Derived.Test.YtpfcjffpomdhbaaNothing
import Derived.Test.YtpfcjffpomdhbaaGMeet
namespace Go.Proofs.Ytpfcjffpomdhbaa
open Go.RowKit Go
set_option linter.unusedVariables false

theorem match_law (G : Blf) (p l h i j r a s : Int) (w : World) (ip : I64 p) (il : I64 l) (ih : I64 h) (ii : I64 i) (ij : I64 j) (hr : (Lit.int .i64 r).wf = true) (ha : (Lit.int .i64 a).wf = true) (hs : (Lit.int .i64 s).wf = true) :
    Calls Try.prog 3 #[.agg #[.int .i64 p, .int .i64 l, .int .i64 h], .agg #[.int .i64 i, .int .i64 j], .int .i64 r, .int .i64 a, .int .i64 s] w (Gives (.bool true) w) :=
  match_walk G p l h i j r a s ip il ih ii ij (i64_wf hr) (i64_wf ha) (i64_wf hs) w
theorem truth_law (G : Blf) (p l h r e n c : Int) (w : World) (ip : I64 p) (il : I64 l) (ih : I64 h) (hr : (Lit.int .u32 r).wf = true) (he : (Lit.int .u64 e).wf = true) (hn : (Lit.int .u64 n).wf = true) (hc : (Lit.int .u64 c).wf = true) :
    Calls Try.prog 4 #[.agg #[.int .i64 p, .int .i64 l, .int .i64 h], .int .u32 r, .int .u64 e, .int .u64 n, .int .u64 c] w (Gives (.bool true) w) :=
  truth_walk G p l h r e n c ip il ih (u32_wf hr).1 (u32_wf hr).2 (u64_wf he).1 (u64_wf he).2 (u64_wf hn).1 (u64_wf hn).2 (u64_wf hc).1 (u64_wf hc).2 w
theorem ends_law (G : Blf) (p l h r c : Int) (w : World) (ip : I64 p) (il : I64 l) (ih : I64 h) (hr : (Lit.int .u32 r).wf = true) (hc : (Lit.int .u64 c).wf = true) :
    Calls Try.prog 5 #[.agg #[.int .i64 p, .int .i64 l, .int .i64 h], .int .u32 r, .int .u64 c] w (Gives (.bool true) w) :=
  ends_walk G p l h r c ip il ih (u32_wf hr).1 (u32_wf hr).2 (u64_wf hc).1 (u64_wf hc).2 w
theorem steps_law (G : Blf) (p l h r a b : Int) (w : World) (ip : I64 p) (il : I64 l) (ih : I64 h) (hr : (Lit.int .u32 r).wf = true) (ha : (Lit.int .u64 a).wf = true) (hb : (Lit.int .u64 b).wf = true) :
    Calls Try.prog 6 #[.agg #[.int .i64 p, .int .i64 l, .int .i64 h], .int .u32 r, .int .u64 a, .int .u64 b] w (Gives (.bool true) w) :=
  steps_walk G p l h r a b ip il ih (u32_wf hr).1 (u32_wf hr).2 (u64_wf ha).1 (u64_wf ha).2 (u64_wf hb).1 (u64_wf hb).2 w
theorem wider_law (G : Blf) (p l h u v r m a : Int) (w : World) (ip : I64 p) (il : I64 l) (ih : I64 h) (iu : I64 u) (iv : I64 v) (hr : (Lit.int .u32 r).wf = true) (hm : (Lit.int .u32 m).wf = true) (ha : (Lit.int .i64 a).wf = true) :
    Calls Try.prog 7 #[.agg #[.int .i64 p, .int .i64 l, .int .i64 h], .agg #[.int .i64 u, .int .i64 v], .int .u32 r, .int .u32 m, .int .i64 a] w (Gives (.bool true) w) :=
  wider_walk G p l h u v r m a ip il ih iu iv (u32_wf hr).1 (u32_wf hr).2 (u32_wf hm).1 (u32_wf hm).2 (i64_wf ha) w
theorem meets_law (G : Blf) (p l h u v x : Int) (w : World) (ip : I64 p) (il : I64 l) (ih : I64 h) (iu : I64 u) (iv : I64 v) (hx : (Lit.int .i64 x).wf = true) :
    Calls Try.prog 8 #[.agg #[.int .i64 p, .int .i64 l, .int .i64 h], .agg #[.int .i64 u, .int .i64 v], .int .i64 x] w (Gives (.bool true) w) :=
  meets_walk G p l h u v x ip il ih iu iv w
theorem worst_law (G : Blf) (l h s n : Int) (w : World) (il : I64 l) (ih : I64 h) (hs : (Lit.int .u64 s).wf = true) (hn : (Lit.int .u64 n).wf = true) :
    Calls Try.prog 9 #[.agg #[.int .i64 l, .int .i64 h], .int .u64 s, .int .u64 n] w (Gives (.bool true) w) :=
  worst_walk G l h s n il ih (u64_wf hs).1 (u64_wf hs).2 (u64_wf hn).1 (u64_wf hn).2 w
theorem nothing_law (G : Blf) (a x u v : Int) (w : World) (ha : (Lit.int .i64 a).wf = true) (hx : (Lit.int .i64 x).wf = true) (iu : I64 u) (iv : I64 v) :
    Calls Try.prog 10 #[.int .i64 a, .int .i64 x, .agg #[.int .i64 u, .int .i64 v]] w (Gives (.bool true) w) :=
  nothing_walk G a x u v (i64_wf ha) (i64_wf hx) iu iv w
end Go.Proofs.Ytpfcjffpomdhbaa
