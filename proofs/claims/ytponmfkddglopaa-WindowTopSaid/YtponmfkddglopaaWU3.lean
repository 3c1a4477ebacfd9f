/-
  Joined: Ba, PM.
-/
import Derived.Laws.RangeAny
import Derived.Laws.Strings3
import Derived.Laws.Concat
import Derived.Test.YtponmfkddglopaaWU2
namespace Go.Proofs.Ytponmfkddglopaa
open Go.RowKit

/-- the string of these bytes -/
def ba (l : List UInt8) : ByteArray := ⟨l.toArray⟩
section
variable {P : Program} {t : TypeId}
end

end Go.Proofs.Ytponmfkddglopaa

namespace Go.Proofs.Ytponmfkddglopaa
open Go.RowKit

/-- An amount. -/
def isM (a : Int) : Bool := decide (0 ≤ a) && decide (a ≤ 1099511627776)

end Go.Proofs.Ytponmfkddglopaa
