/-
  Joined: SlP, VoP, VoB.
-/
import Derived.Test.YtkpgjcahmpekbaaSS17
import Derived.Test.YtkpgjcahmpekbaaSS18
import Derived.Test.YtkpgjcahmpekbaaSS14
import Derived.Lib.ConvBytes
import Derived.Test.YtkpgjcahmpekbaaSS15
import Derived.Test.YtkpgjcahmpekbaaSS6
import Derived.Test.YtkpgjcahmpekbaaSS8
import Derived.Test.YtkpgjcahmpekbaaSS3
import Derived.Test.YtkpgjcahmpekbaaSS12
namespace Go.Proofs.Ytkpgjcahmpekbaa
open Go.RowKit

abbrev Wl := List (Int × List UInt8)
structure Slt where
 n : Int
 has : Bool
 dg : List UInt8
 es : List Ey
 pr : Wl
 cm : Wl
def Slt.no (n : Int) : Slt := ⟨n, false, List.replicate 32 0, [], [], []⟩
def propS (s : Slt) (d : List UInt8) (es : List Ey) : Slt × Int :=
 if s.has = true ∧ s.dg = d then (s, 15) else if s.has = true then (s, 2) else ({ s with has := true, dg := d, es := es }, 0)
/-- whether, and how, who has voted: 0 not, 15 so, 2 else -/
def saidW : Wl → Int → List UInt8 → Int
 | [], _, _ => 0
 | x :: l, who, d => if x.1 = who then (if x.2 = d then 15 else 2) else saidW l who d
def voteE (n : Int) (l : Wl) (who : Int) (d : List UInt8) : Int := if who < 0 ∨ n ≤ who then 17 else saidW l who d
def voteW (n : Int) (l : Wl) (who : Int) (d : List UInt8) : Wl := if voteE n l who d = 0 then l ++ [(who, d)] else l
def prepS (s : Slt) (who : Int) (d : List UInt8) : Slt × Int := ({ s with pr := voteW s.n s.pr who d }, voteE s.n s.pr who d)
def commS (s : Slt) (who : Int) (d : List UInt8) : Slt × Int := ({ s with cm := voteW s.n s.cm who d }, voteE s.n s.cm who d)
def cntW (l : Wl) (d : List UInt8) : Nat := (l.filter (fun x => x.2 == d)).length
def cntP (l : Wl) (p : Int) (d : List UInt8) : Nat := (l.filter (fun x => !(x.1 == p) && (x.2 == d))).length
def prepB (s : Slt) (p : Int) : Bool := s.has && decide (2 * fltN s.n ≤ ((cntP s.pr p s.dg : Nat) : Int))
def commB (s : Slt) : Bool := s.has && decide (2 * fltN s.n < ((cntW s.cm s.dg : Nat) : Int))
end Go.Proofs.Ytkpgjcahmpekbaa

namespace Go.Proofs.Ytkpgjcahmpekbaa
open Go.RowKit

structure Vo where
 vw : Int
 sq : Int
 dg : List UInt8
def Vo.no : Vo := ⟨0, 0, List.replicate 32 0⟩
structure Vu where
 cl : Int
 sp : Int
 dg : List UInt8
 ms : Nat
def Vu.no : Vu := ⟨0, 0, List.replicate 32 0, 0⟩
structure Re where
 vw : Int
 cl : Int
 sp : Int
 rs : Int
def Re.no : Re := ⟨0, 0, 0, 0⟩
structure Pr where
 vw : Int
 sq : Int
 es : List Ey
def Pr.no : Pr := ⟨0, 0, []⟩
end Go.Proofs.Ytkpgjcahmpekbaa

namespace Go.Proofs.Ytkpgjcahmpekbaa
open Go.RowKit

def Vo.cells (v : Vo) : List Value := .int .i64 v.vw :: .int .i64 v.sq :: vs v.dg
def Vu.cells (v : Vu) : List Value := .int .i64 v.cl :: .int .i64 v.sp :: (vs v.dg ++ [.int .u32 (v.ms : Int)])
def Re.cells (v : Re) : List Value := [.int .i64 v.vw, .int .i64 v.cl, .int .i64 v.sp, .int .i64 v.rs]
/-- one cell, kept -/
structure CellK (w : World) (p : Addr) (v : Value) : Prop where
 lt : p.block < w.heap.size
 eq : w.cell? p = some v
theorem CellK.through {w w' : World} {p : Addr} {v : Value} (h : CellK w p v) (hb : Below w.heap.size w w') : CellK w' p v := ⟨Nat.lt_of_lt_of_le h.lt hb.size, (hb.cell (p := p) h.lt).trans h.eq⟩

end Go.Proofs.Ytkpgjcahmpekbaa
