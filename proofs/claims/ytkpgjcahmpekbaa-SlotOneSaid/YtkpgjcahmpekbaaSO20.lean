/-
  Joined: Flt.
-/
import Derived.BigGuard
import Derived.Test.YtkpgjcahmpekbaaSO2
namespace Go.Proofs.Ytkpgjcahmpekbaa
open Go.RowKit

def fltN (n : Int) : Int := if n < 4 then 0 else (n - 1) / 3

end Go.Proofs.Ytkpgjcahmpekbaa
