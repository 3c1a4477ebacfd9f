/-
  Joined: RqOp, RqC.
-/
import Derived.ProofKit
import Derived.OpenShut
import Derived.ChangeMaps5
import Derived.Deep.Slices
import Derived.Deep.Fields
import Derived.Test.YtponmfkddglopaaWU12
import Derived.Test.YtponmfkddglopaaWU0
import Derived.Lib.ConvBytes
import Derived.Deep.RegionLaw
import Derived.Test.YtponmfkddglopaaWU7
import Derived.Test.YtponmfkddglopaaWU5
import Derived.Test.YtponmfkddglopaaWU9
import Derived.Test.YtponmfkddglopaaWU3
namespace Go.Proofs.Ytponmfkddglopaa
open Go.ChangeShapes Go.WideShapes Go.ChangeAt Go.RowKit Go.Deep

theorem Try.own : ownKnob Try.prog.godebug = none := by kernel_rfl
theorem Try.laidOut : laidOutB Try.prog = true := by kernel_rfl
def Cr.cells (c : Cr) : List Value := [.int .i64 c.cl, .int .i64 c.sp, .int .i64 c.op, .string (ba c.lt), .int .i64 c.a, .int .i64 c.b, .string (ba c.tx)]
end Go.Proofs.Ytponmfkddglopaa

namespace Go.Proofs.Ytponmfkddglopaa
open Go.RowKit

@[simp] theorem beB_len (v k : Nat) : (beB v k).length = k := beB_length v k
@[simp] theorem rowB_len (xs : List UInt8) : (rowB xs).length = 4 + xs.length := by unfold rowB; rw [List.length_append, beB_length]

end Go.Proofs.Ytponmfkddglopaa
