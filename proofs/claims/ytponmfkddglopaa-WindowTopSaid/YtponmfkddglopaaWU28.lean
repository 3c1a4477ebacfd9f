/-
  Joined: TwK.
-/
import Derived.Test.YtponmfkddglopaaWU27
import Derived.Test.YtponmfkddglopaaWU22
namespace Go.Proofs.Ytponmfkddglopaa
open Go.RowKit

instance : DecidableEq Vo := fun a b => decidable_of_iff (a.eqb b = true) Vo.eqb_iff
abbrev encD (d : List UInt8) : Value := .agg (vs d).toArray
abbrev okD (d : List UInt8) : Prop := d.length = 32
end Go.Proofs.Ytponmfkddglopaa
