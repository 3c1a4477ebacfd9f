/-
  Joined: VoB.
-/
import Derived.Lib.ConvBytes
import Derived.Test.YtkpgjcahmpekbaaSO22
import Derived.Test.YtkpgjcahmpekbaaSO19
import Derived.Test.YtkpgjcahmpekbaaSO8
import Derived.Test.YtkpgjcahmpekbaaSO10
import Derived.Test.YtkpgjcahmpekbaaSO3
import Derived.Test.YtkpgjcahmpekbaaSO14
import Derived.Test.YtkpgjcahmpekbaaSO17
namespace Go.Proofs.Ytkpgjcahmpekbaa
open Go.RowKit

def Vo.cells (v : Vo) : List Value := .int .i64 v.vw :: .int .i64 v.sq :: vs v.dg
def Vu.cells (v : Vu) : List Value := .int .i64 v.cl :: .int .i64 v.sp :: (vs v.dg ++ [.int .u32 (v.ms : Int)])
def Re.cells (v : Re) : List Value := [.int .i64 v.vw, .int .i64 v.cl, .int .i64 v.sp, .int .i64 v.rs]
/-- one cell, kept -/
structure CellK (w : World) (p : Addr) (v : Value) : Prop where
 lt : p.block < w.heap.size
 eq : w.cell? p = some v
theorem CellK.through {w w' : World} {p : Addr} {v : Value} (h : CellK w p v) (hb : Below w.heap.size w w') : CellK w' p v := ⟨Nat.lt_of_lt_of_le h.lt hb.size, (hb.cell (p := p) h.lt).trans h.eq⟩

end Go.Proofs.Ytkpgjcahmpekbaa
