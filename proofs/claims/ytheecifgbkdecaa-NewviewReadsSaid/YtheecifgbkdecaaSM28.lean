/-
  ChW
-/
import Derived.Test.YtheecifgbkdecaaSM22
namespace Go.Proofs.Ytheecifgbkdecaa
open Go.RowKit
section
variable {w w' : World} {B B' : Nat}
theorem ChOwn.off {P Q R : Pl} {C : Ch} {g : Nat} (h : ChOwn w B P Q R C) (hg : w.grownBy w' (some g)) (hl : g < B) : ChOwn w' B P Q R C := ⟨h.1.off hg hl, h.2.1.off hg hl, h.2.2.off hg hl⟩
theorem ChOwn.through {P Q R : Pl} {C : Ch} (h : ChOwn w B P Q R C) (hb : Below w.heap.size w w') : ChOwn w' B P Q R C := ⟨h.1.through hb, h.2.1.through hb, h.2.2.through hb⟩
theorem ChOwn.weak {P Q R : Pl} {C : Ch} (h : ChOwn w B P Q R C) (hB : B' ≤ B) : ChOwn w B' P Q R C := ⟨h.1.weak hB, h.2.1.weak hB, h.2.2.weak hB⟩
end

end Go.Proofs.Ytheecifgbkdecaa
