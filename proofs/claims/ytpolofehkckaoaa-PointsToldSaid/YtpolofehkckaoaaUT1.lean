/-
  Joined: Co, Cm.
-/
import Derived.Test.YtpolofehkckaoaaUT0
namespace Go.Proofs.Ytpolofehkckaoaa
open Go.RowKit

/-- A row's bytes. -/
def rowB (xs : List UInt8) : List UInt8 := beB xs.length 4 ++ xs
/-- A number of 64 bits without its sign, of one with it. -/
def u64N (v : Int) : Nat := (v % 18446744073709551616).toNat
end Go.Proofs.Ytpolofehkckaoaa

namespace Go.Proofs.Ytpolofehkckaoaa
open Go.RowKit

/-- Each one's bytes, one behind the other. -/
def encAll {α : Type} (f : α → List UInt8) : List α → List UInt8
 | [] => []
 | x :: xs => f x ++ encAll f xs
section
variable {α : Type} {f : α → List UInt8} {rd : Option (List UInt8) → α × Option (List UInt8)}
end

end Go.Proofs.Ytpolofehkckaoaa
