/-
  Joined: Ba, PM.
-/
import Derived.Laws.RangeAny
import Derived.Laws.Strings3
import Derived.Laws.Concat
import Derived.Test.YtkpgjcahmpekbaaSO2
namespace Go.Proofs.Ytkpgjcahmpekbaa
open Go.RowKit

/-- the string of these bytes -/
def ba (l : List UInt8) : ByteArray := ⟨l.toArray⟩
section
variable {P : Program} {t : TypeId}
end

end Go.Proofs.Ytkpgjcahmpekbaa

namespace Go.Proofs.Ytkpgjcahmpekbaa
open Go.RowKit

/-- An amount. -/
def isM (a : Int) : Bool := decide (0 ≤ a) && decide (a ≤ 1099511627776)

/-- Two numbers, as a call hands them back. -/
def two (p : Int × Int) : Value := .tuple #[.int .i64 p.1, .int .i64 p.2]

end Go.Proofs.Ytkpgjcahmpekbaa
