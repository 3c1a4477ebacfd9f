/-
  Joined: Flt, SlP.
-/
import Derived.BigGuard
import Derived.Test.YtkpgjcahmpekbaaTU2
import Derived.BigQuiet
import Derived.Test.YtkpgjcahmpekbaaTU17
namespace Go.Proofs.Ytkpgjcahmpekbaa
open Go.RowKit

def fltN (n : Int) : Int := if n < 4 then 0 else (n - 1) / 3

end Go.Proofs.Ytkpgjcahmpekbaa

namespace Go.Proofs.Ytkpgjcahmpekbaa
open Go.RowKit

abbrev Wl := List (Int × List UInt8)
structure Slt where
 n : Int
 has : Bool
 dg : List UInt8
 es : List Ey
 pr : Wl
 cm : Wl
def Slt.no (n : Int) : Slt := ⟨n, false, List.replicate 32 0, [], [], []⟩
def propS (s : Slt) (d : List UInt8) (es : List Ey) : Slt × Int :=
 if s.has = true ∧ s.dg = d then (s, 15) else if s.has = true then (s, 2) else ({ s with has := true, dg := d, es := es }, 0)
/-- whether, and how, who has voted: 0 not, 15 so, 2 else -/
def saidW : Wl → Int → List UInt8 → Int
 | [], _, _ => 0
 | x :: l, who, d => if x.1 = who then (if x.2 = d then 15 else 2) else saidW l who d
def voteE (n : Int) (l : Wl) (who : Int) (d : List UInt8) : Int := if who < 0 ∨ n ≤ who then 17 else saidW l who d
def voteW (n : Int) (l : Wl) (who : Int) (d : List UInt8) : Wl := if voteE n l who d = 0 then l ++ [(who, d)] else l
def prepS (s : Slt) (who : Int) (d : List UInt8) : Slt × Int := ({ s with pr := voteW s.n s.pr who d }, voteE s.n s.pr who d)
def commS (s : Slt) (who : Int) (d : List UInt8) : Slt × Int := ({ s with cm := voteW s.n s.cm who d }, voteE s.n s.cm who d)
def cntW (l : Wl) (d : List UInt8) : Nat := (l.filter (fun x => x.2 == d)).length
def cntP (l : Wl) (p : Int) (d : List UInt8) : Nat := (l.filter (fun x => !(x.1 == p) && (x.2 == d))).length
def prepB (s : Slt) (p : Int) : Bool := s.has && decide (2 * fltN s.n ≤ ((cntP s.pr p s.dg : Nat) : Int))
def commB (s : Slt) : Bool := s.has && decide (2 * fltN s.n < ((cntW s.cm s.dg : Nat) : Int))
end Go.Proofs.Ytkpgjcahmpekbaa
