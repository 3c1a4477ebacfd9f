/-
  Joined: TwWV.
-/
import Derived.Deep.RegionHeld
import Derived.Test.YtkpgjcahmpekbaaTU26
import Derived.Test.YtkpgjcahmpekbaaTU21
namespace Go.Proofs.Ytkpgjcahmpekbaa
open Go.RowKit

open Go.Maps Go.Sort Go.Shelf
theorem sKeys_len {κ : Type} (M : List (Int × κ)) : (sKeys M).length = M.length := by simp [sKeys]
theorem sKeys_mem {κ : Type} {M : List (Int × κ)} {a : Int} (h : a ∈ sKeys M) : a ∈ M.map Prod.fst := (List.mergeSort_perm _ _).subset h
theorem ok_get {κ : Type} {enc : κ → Value} {ok : κ → Prop} {w : World} {gv : Nat} {M : List (Int × κ)} {z : κ} (h : VMp enc ok w gv M) (hz : ok z) (a : Int) : ok ((getM a M).getD z) := by
 cases h9 : getM a M with
 | none => exact hz
 | some o => exact h.2 _ (get_memM h9)
end Go.Proofs.Ytkpgjcahmpekbaa
