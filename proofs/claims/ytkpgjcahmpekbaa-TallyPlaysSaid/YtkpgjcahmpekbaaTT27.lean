/-
  Joined: TwSD.
-/
import Derived.Defers
import Derived.Outline
import Derived.Recover
import Derived.Test.YtkpgjcahmpekbaaTT26
namespace Go.Proofs.Ytkpgjcahmpekbaa
open Go.RowKit

theorem Try.sz_bool20 (w : World) : (sizeOf 4).run Try.prog w = .ok 1 w := by kernel_rfl
theorem results_cell_one {P : Program} {fn : Func} {p : Tmp} {ty : TypeId} (h : fn.results = #[.cell p ty]) (tmps : Array Value) (w : World) (a : Addr) (v : Value) (hag : (isAgg ty).run P w = .ok false w)
  (hp : tmps.getD p undef = .pointer (some a)) (hc : w.cell? a = some v) : (results fn tmps).run P w = .ok v w := by
 have hp' : tmps[p]?.getD undef = .pointer (some a) := by simpa using hp
 simp [results, h, hp', asAddr, loadVar, hag, hc]
theorem Try.agg_bool20 (w : World) : (isAgg 4).run Try.prog w = .ok false w := by kernel_rfl

end Go.Proofs.Ytkpgjcahmpekbaa
