/-
  Joined: TaP.
-/
import Derived.Laws.AppendOwn
import Derived.Test.YtponmfkddglopaaWU18
import Derived.Test.YtponmfkddglopaaWU10
namespace Go.Proofs.Ytponmfkddglopaa
open Go.RowKit

def Vo.eqb (a b : Vo) : Bool := (a.vw == b.vw) && (a.sq == b.sq) && (a.dg == b.dg)
theorem Vo.eqb_iff {a b : Vo} : a.eqb b = true ↔ a = b := by
 obtain ⟨a1, a2, a3⟩ := a
 obtain ⟨b1, b2, b3⟩ := b
 simp [Vo.eqb, and_assoc]
abbrev Tl := List (Int × Vo)
end Go.Proofs.Ytponmfkddglopaa
