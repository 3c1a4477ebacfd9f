/-
  Joined: VoP, VoB.
-/
import Derived.Test.YtkpgjcahmpekbaaTU16
import Derived.Lib.ConvBytes
import Derived.Deep.RegionLaw
import Derived.Test.YtkpgjcahmpekbaaTU17
import Derived.Test.YtkpgjcahmpekbaaTU0
import Derived.Test.YtkpgjcahmpekbaaTU8
import Derived.Test.YtkpgjcahmpekbaaTU3
import Derived.Test.YtkpgjcahmpekbaaTU11
namespace Go.Proofs.Ytkpgjcahmpekbaa
open Go.RowKit

def In64 (v : Int) : Prop := -9223372036854775808 ≤ v ∧ v ≤ 9223372036854775807

structure Vo where
 vw : Int
 sq : Int
 dg : List UInt8
def Vo.no : Vo := ⟨0, 0, List.replicate 32 0⟩
structure Vu where
 cl : Int
 sp : Int
 dg : List UInt8
 ms : Nat
def Vu.no : Vu := ⟨0, 0, List.replicate 32 0, 0⟩
structure Re where
 vw : Int
 cl : Int
 sp : Int
 rs : Int
def Re.no : Re := ⟨0, 0, 0, 0⟩
structure Pr where
 vw : Int
 sq : Int
 es : List Ey
def Pr.no : Pr := ⟨0, 0, []⟩
end Go.Proofs.Ytkpgjcahmpekbaa

namespace Go.Proofs.Ytkpgjcahmpekbaa
open Go.RowKit

def Vo.cells (v : Vo) : List Value := .int .i64 v.vw :: .int .i64 v.sq :: vs v.dg
def Vu.cells (v : Vu) : List Value := .int .i64 v.cl :: .int .i64 v.sp :: (vs v.dg ++ [.int .u32 (v.ms : Int)])
def Re.cells (v : Re) : List Value := [.int .i64 v.vw, .int .i64 v.cl, .int .i64 v.sp, .int .i64 v.rs]
/-- one cell, kept -/
structure CellK (w : World) (p : Addr) (v : Value) : Prop where
 lt : p.block < w.heap.size
 eq : w.cell? p = some v
theorem CellK.through {w w' : World} {p : Addr} {v : Value} (h : CellK w p v) (hb : Below w.heap.size w w') : CellK w' p v := ⟨Nat.lt_of_lt_of_le h.lt hb.size, (hb.cell (p := p) h.lt).trans h.eq⟩

end Go.Proofs.Ytkpgjcahmpekbaa
