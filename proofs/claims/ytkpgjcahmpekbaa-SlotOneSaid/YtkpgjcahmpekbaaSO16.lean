/-
  Joined: RqC.
-/
import Derived.Lib.ConvBytes
import Derived.Test.YtkpgjcahmpekbaaSO7
import Derived.Test.YtkpgjcahmpekbaaSO5
import Derived.Test.YtkpgjcahmpekbaaSO8
import Derived.Test.YtkpgjcahmpekbaaSO10
import Derived.Test.YtkpgjcahmpekbaaSO3
namespace Go.Proofs.Ytkpgjcahmpekbaa
open Go.RowKit

@[simp] theorem beB_len (v k : Nat) : (beB v k).length = k := beB_length v k
@[simp] theorem rowB_len (xs : List UInt8) : (rowB xs).length = 4 + xs.length := by unfold rowB; rw [List.length_append, beB_length]

end Go.Proofs.Ytkpgjcahmpekbaa
