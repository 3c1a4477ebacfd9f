/-
  CwT
-/
import Derived.Test.YtheecifgbkdecaaSR47
import Derived.Test.YtheecifgbkdecaaSR32
namespace Go.Proofs.Ytheecifgbkdecaa
open Go.RowKit
theorem parseco : ParseCO := fun xs N A n c w h _ _ hn => parse18_own xs N A n c w h hn

end Go.Proofs.Ytheecifgbkdecaa
