/-
  Joined: SlP.
-/
import Derived.BigQuiet
import Derived.BigGuard
import Derived.Test.YtponmfkddglopaaWU15
import Derived.Test.YtponmfkddglopaaWU2
namespace Go.Proofs.Ytponmfkddglopaa
open Go.RowKit

abbrev Wl := List (Int × List UInt8)
structure Slt where
 n : Int
 has : Bool
 dg : List UInt8
 es : List Ey
 pr : Wl
 cm : Wl
def Slt.no (n : Int) : Slt := ⟨n, false, List.replicate 32 0, [], [], []⟩
/-- whether, and how, who has voted: 0 not, 15 so, 2 else -/
def saidW : Wl → Int → List UInt8 → Int
 | [], _, _ => 0
 | x :: l, who, d => if x.1 = who then (if x.2 = d then 15 else 2) else saidW l who d
def voteE (n : Int) (l : Wl) (who : Int) (d : List UInt8) : Int := if who < 0 ∨ n ≤ who then 17 else saidW l who d
def voteW (n : Int) (l : Wl) (who : Int) (d : List UInt8) : Wl := if voteE n l who d = 0 then l ++ [(who, d)] else l
def prepS (s : Slt) (who : Int) (d : List UInt8) : Slt × Int := ({ s with pr := voteW s.n s.pr who d }, voteE s.n s.pr who d)
end Go.Proofs.Ytponmfkddglopaa
