/- Layer 7: DriftSegments and DriftWorst in the order of the frames. -/
import Derived.Test.YtjjpcgfhoncmeaaGSev2
import Derived.Test.YtjjpcgfhoncmeaaOpen
import Derived.Test.YtjjpcgfhoncmeaaSegs
import Derived.Test.YtjjpcgfhoncmeaaWLaw
namespace Go.Proofs.Ytjjpcgfhoncmeaa
open Go.RowKit Go

theorem segs_law (G : Dft) (T : Tb) (A : Option Addr) (len cap : Nat) (l : List Sg) (w : World) (ht : T.At w) (room : T.Room)
    (hr : RowS w.heap.size w A len l) (hl : len ≤ cap) (hc : cap ≤ 9223372036854775807) (hn : A = none → cap = 0) :
    Calls Try.prog 7 #[T.val, .slice A len cap] w (Gives (.bool true) w) :=
  segs_walk G T A len cap l room w ht hr hl hc hn

theorem worst_law (G : Dft) (T : Tb) (tl th al ah x y : Int) (w : World) (ht : T.At w) (room : T.Room) (itl : I64 tl) (ith : I64 th) (ial : I64 al) (iah : I64 ah) (ix : (Lit.int .i64 x).wf = true) (iy : (Lit.int .i64 y).wf = true) :
    Calls Try.prog 6 #[T.val, .agg #[.int .i64 tl, .int .i64 th], .agg #[.int .i64 al, .int .i64 ah], .int .i64 x, .int .i64 y] w (Gives (.bool true) w) :=
  worst_walk G T tl th al ah x y room itl ith ial iah (i64_wf ix) (i64_wf iy) w ht
end Go.Proofs.Ytjjpcgfhoncmeaa
