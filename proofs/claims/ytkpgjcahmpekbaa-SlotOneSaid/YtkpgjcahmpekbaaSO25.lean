/-
  Joined: TaP.
-/
import Derived.Test.YtkpgjcahmpekbaaSO24
import Derived.Test.YtkpgjcahmpekbaaSO12
namespace Go.Proofs.Ytkpgjcahmpekbaa
open Go.RowKit

def Vo.eqb (a b : Vo) : Bool := (a.vw == b.vw) && (a.sq == b.sq) && (a.dg == b.dg)
theorem Vo.eqb_iff {a b : Vo} : a.eqb b = true ↔ a = b := by
 obtain ⟨a1, a2, a3⟩ := a
 obtain ⟨b1, b2, b3⟩ := b
 simp [Vo.eqb, and_assoc]
abbrev Tl := List (Int × Vo)
end Go.Proofs.Ytkpgjcahmpekbaa
