/- Layer 9: the laws in the order of the frames. -/
import Derived.Test.YtihfafmockaljaaOpen
import Derived.Test.YtihfafmockaljaaForward
import Derived.Test.YtihfafmockaljaaJumps
import Derived.Test.YtihfafmockaljaaReaches
import Derived.Test.YtihfafmockaljaaLimits
import Derived.Test.YtihfafmockaljaaMoves3
import Derived.Test.YtihfafmockaljaaWalks
namespace Go.Proofs.Ytihfafmockaljaa
open Go.RowKit Go
set_option linter.unusedVariables false

theorem forward_law (G : Slw) (p s r a b : Int) (w : World) (ip : I64 p) (is : I64 s) (ir : I64 r) (ha : (Lit.int .i64 a).wf = true) (hb : (Lit.int .i64 b).wf = true) :
    Calls Try.prog 3 #[.agg #[.int .i64 p, .int .i64 s, .int .i64 r], .int .i64 a, .int .i64 b] w (Gives (.bool true) w) :=
  forward_walk G p s r a b ip is ir (i64_wf ha) (i64_wf hb) w
theorem jumps_law (G : Slw) (p s r a v m h : Int) (w : World) (ip : I64 p) (is : I64 s) (ir : I64 r) (ha : (Lit.int .i64 a).wf = true) (hv : (Lit.int .i64 v).wf = true) (hm : (Lit.int .i64 m).wf = true) (hh : (Lit.int .i64 h).wf = true) :
    Calls Try.prog 4 #[.agg #[.int .i64 p, .int .i64 s, .int .i64 r], .int .i64 a, .int .i64 v, .int .i64 m, .int .i64 h] w (Gives (.bool true) w) :=
  jumps_walk G p s r a v m h ip is ir (i64_wf ha) (i64_wf hv) (i64_wf hm) (i64_wf hh) w
theorem reaches_law (G : Slw) (p s r a v m h : Int) (w : World) (ip : I64 p) (is : I64 s) (ir : I64 r) (ha : (Lit.int .i64 a).wf = true) (hv : (Lit.int .i64 v).wf = true) (hm : (Lit.int .i64 m).wf = true) (hh : (Lit.int .i64 h).wf = true) :
    Calls Try.prog 5 #[.agg #[.int .i64 p, .int .i64 s, .int .i64 r], .int .i64 a, .int .i64 v, .int .i64 m, .int .i64 h] w (Gives (.bool true) w) :=
  reaches_walk G p s r a v m h ip is ir (i64_wf ha) (i64_wf hv) (i64_wf hm) (i64_wf hh) w
theorem limits_law (G : Slw) (p s r a v m h : Int) (w : World) (ip : I64 p) (is : I64 s) (ir : I64 r) (ha : (Lit.int .i64 a).wf = true) (hv : (Lit.int .i64 v).wf = true) (hm : (Lit.int .i64 m).wf = true) (hh : (Lit.int .i64 h).wf = true) :
    Calls Try.prog 6 #[.agg #[.int .i64 p, .int .i64 s, .int .i64 r], .int .i64 a, .int .i64 v, .int .i64 m, .int .i64 h] w (Gives (.bool true) w) :=
  limits_walk G p s r a v m h ip is ir (i64_wf ha) (i64_wf hv) (i64_wf hm) (i64_wf hh) w
theorem moves_law (G : Slw) (p s r a v m h b n : Int) (w : World) (ip : I64 p) (is : I64 s) (ir : I64 r) (ha : (Lit.int .i64 a).wf = true) (hv : (Lit.int .i64 v).wf = true) (hm : (Lit.int .i64 m).wf = true) (hh : (Lit.int .i64 h).wf = true) (hb : (Lit.int .i32 b).wf = true) (hn : (Lit.int .i32 n).wf = true) :
    Calls Try.prog 7 #[.agg #[.int .i64 p, .int .i64 s, .int .i64 r], .int .i64 a, .int .i64 v, .int .i64 m, .int .i64 h, .int .i32 b, .int .i32 n] w (Gives (.bool true) w) :=
  moves_walk G p s r a v m h b n ip is ir (i64_wf ha) (i64_wf hv) (i64_wf hm) (i64_wf hh) (i32_wf hb).1 (i32_wf hb).2 (i32_wf hn).1 (i32_wf hn).2 w
theorem walks_law (G : Slw) (a s m : Int) (A : Option Addr) (len cap : Nat) (l : List Tn) (w : World) (ha : (Lit.int .i64 a).wf = true) (hs : (Lit.int .i64 s).wf = true) (hm : (Lit.int .i64 m).wf = true) (hr : RowT w.heap.size w A len l) (hl : len ≤ cap) (hc : cap ≤ 9223372036854775807) (hn : A = none → cap = 0) :
    Calls Try.prog 8 #[.int .i64 a, .int .i64 s, .int .i64 m, .slice A len cap] w (Gives (.bool true) w) :=
  walks_walk G a s m A len cap l (i64_wf ha) (i64_wf hs) (i64_wf hm) w hr hl hc
end Go.Proofs.Ytihfafmockaljaa
