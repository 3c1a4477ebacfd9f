/-
  Joined: WlO.
-/
import Derived.Test.YtponmfkddglopaaWU13
import Derived.Test.YtponmfkddglopaaWU15
import Derived.Test.YtponmfkddglopaaWU25
import Derived.Test.YtponmfkddglopaaWU45
namespace Go.Proofs.Ytponmfkddglopaa
open Go.ChangeShapes Go.WideShapes Go.ChangeAt Go.RowKit Go.Deep

set_option maxRecDepth 100000 in
theorem opened_i64_ {H : Type} {enc : TypeId × Value → H} {W : World} {b : Nat} {v : Value} {d : DataW H} {p : List MemPlace}
  (hv : Value.okWide Try.prog W .any b 2 v) (h0 : DataW.Trod enc Try.prog W 0 (fun _ => true) true 2 v d p) : ∃ y : Int, v = .int .i64 y := by
 obtain ⟨x, rfl, rfl, rfl, _⟩ := open_int Try.underlying2 hv h0
 exact ⟨x, rfl⟩
set_option maxRecDepth 100000 in
theorem opened_u8i {H : Type} {enc : TypeId × Value → H} {W : World} {b : Nat} {v : Value} {d : DataW H} {p : List MemPlace}
  (hv : Value.okWide Try.prog W .any b 5 v) (h0 : DataW.Trod enc Try.prog W 0 (fun _ => true) true 5 v d p) : ∃ y : Int, v = .int .u8 y ∧ 0 ≤ y ∧ y ≤ 255 := by
 obtain ⟨x, rfl, rfl, rfl, wx⟩ := open_int Try.underlying5 hv h0
 exact ⟨x, rfl, by simpa [Lit.wf, IntKind.min, IntKind.max, IntKind.signed, IntKind.bits] using wx⟩

end Go.Proofs.Ytponmfkddglopaa
