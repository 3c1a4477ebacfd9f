/-
  Joined: BaP.
-/
import Derived.Test.YtkpgjcahmpekbaaSO17
namespace Go.Proofs.Ytkpgjcahmpekbaa
open Go.RowKit

/-- an entry: its core, and who stands behind it -/
structure Ey where
 co : Cr
 ms : Nat
def Ey.eqb (x y : Ey) : Bool := x.co.eqb y.co && (x.ms == y.ms)
theorem Ey.eqb_iff {x y : Ey} : x.eqb y = true ↔ x = y := by
 obtain ⟨x1, x2⟩ := x
 obtain ⟨y1, y2⟩ := y
 simp only [Ey.eqb, Bool.and_eq_true, Cr.eqb_iff, beq_iff_eq, Ey.mk.injEq]
end Go.Proofs.Ytkpgjcahmpekbaa
