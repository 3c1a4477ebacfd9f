/-
  Joined: VoB.
-/
import Derived.Lib.ConvBytes
import Derived.Deep.RegionLaw
import Derived.Test.YtponmfkddglopaaWU17
import Derived.Test.YtponmfkddglopaaWU15
import Derived.Test.YtponmfkddglopaaWU0
import Derived.Test.YtponmfkddglopaaWU9
import Derived.Test.YtponmfkddglopaaWU3
import Derived.Test.YtponmfkddglopaaWU12
import Derived.Test.YtponmfkddglopaaWU14
namespace Go.Proofs.Ytponmfkddglopaa
open Go.RowKit

def Vo.cells (v : Vo) : List Value := .int .i64 v.vw :: .int .i64 v.sq :: vs v.dg
def Vu.cells (v : Vu) : List Value := .int .i64 v.cl :: .int .i64 v.sp :: (vs v.dg ++ [.int .u32 (v.ms : Int)])
def Re.cells (v : Re) : List Value := [.int .i64 v.vw, .int .i64 v.cl, .int .i64 v.sp, .int .i64 v.rs]
theorem Try.agg_int (w : World) : (isAgg 3).run Try.prog w = .ok false w := by kernel_rfl
/-- one cell, kept -/
structure CellK (w : World) (p : Addr) (v : Value) : Prop where
 lt : p.block < w.heap.size
 eq : w.cell? p = some v
theorem CellK.through {w w' : World} {p : Addr} {v : Value} (h : CellK w p v) (hb : Below w.heap.size w w') : CellK w' p v := ⟨Nat.lt_of_lt_of_le h.lt hb.size, (hb.cell (p := p) h.lt).trans h.eq⟩

end Go.Proofs.Ytponmfkddglopaa
