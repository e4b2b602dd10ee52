/- Layer 7: the laws over the landed code, in the order of the frames. -/
import Derived.Test.YtjjpcgfhoncmeaaGSev2
import Derived.Test.YtjjpcgfhoncmeaaOpen
import Derived.Test.YtjjpcgfhoncmeaaTruth
import Derived.Test.YtjjpcgfhoncmeaaOrder
import Derived.Test.YtjjpcgfhoncmeaaExact
import Derived.Test.YtjjpcgfhoncmeaaMatch
namespace Go.Proofs.Ytjjpcgfhoncmeaa
open Go.RowKit Go

theorem match_law (G : Dft) (T : Tb) (tl th al ah : Int) (A : Option Addr) (len cap : Nat) (l : List Sg) (r n : Int) (w : World) (ht : T.At w) (room : T.Room) (itl : I64 tl) (ith : I64 th) (ial : I64 al) (iah : I64 ah)
    (hr : RowS w.heap.size w A len l) (hl : len ≤ cap) (hc : cap ≤ 9223372036854775807) (hn : A = none → cap = 0) (ir : (Lit.int .i64 r).wf = true) (iN : (Lit.int .i64 n).wf = true) :
    Calls Try.prog 3 #[T.val, .agg #[.int .i64 tl, .int .i64 th], .agg #[.int .i64 al, .int .i64 ah], .slice A len cap, .int .i64 r, .int .i64 n] w (Gives (.bool true) w) :=
  match_walk G T tl th al ah A len cap l r n room itl ith ial iah (i64_wf ir) (i64_wf iN) w ht hr hl hc hn
end Go.Proofs.Ytjjpcgfhoncmeaa
