/-
  Joined: O4.
-/
import Derived.Deep.RegionLaw
import Derived.Test.YtkpgjcahmpekbaaSO0
namespace Go.Proofs.Ytkpgjcahmpekbaa
open Go.RowKit

theorem By.one {w : World} {Q : Nat → Prop} {x : Int} {b : UInt8} (t : TypeId) (hQ : Q w.heap.size) (h : u8 b = .int .u8 x) : By (w.alloc (.cells #[.int .u8 x] t)) Q (some ⟨w.heap.size, 0, none⟩) 1 [b] := by
 refine ⟨rfl, fun _ => ⟨_, _, rfl, hQ, fun j u hu => ?_⟩⟩
 match j, hu with
 | 0, hu =>
  simp at hu
  subst hu
  rw [cell_of_row _ w.heap.size _ _ _ _ (heap_alloc_new w _), h]
  rfl

end Go.Proofs.Ytkpgjcahmpekbaa
