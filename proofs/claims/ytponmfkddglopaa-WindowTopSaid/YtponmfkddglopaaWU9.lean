/-
  Joined: CoR.
-/
import Derived.Test.YtponmfkddglopaaWU1
import Derived.Test.YtponmfkddglopaaWU8
namespace Go.Proofs.Ytponmfkddglopaa
open Go.RowKit

/-- what is left, and the failure, told as a state -/
def St (xs : List UInt8) (er : Int) : Option (List UInt8) → Prop
 | some r => xs = r ∧ er = 0
 | none => er ≠ 0
/-- Block g is a reader of type t in this state. -/
def Rs (Q : Nat → Prop) (w : World) (g : Nat) (t : TypeId) (st : Option (List UInt8)) : Prop := ∃ xs er, RS Q w g t xs er ∧ St xs er st ∧ xs.length ≤ 1099511627776

section
variable {Q : Nat → Prop} {w w' : World} {g : Nat} {t : TypeId} {st : Option (List UInt8)}
theorem Rs.lt (h : Rs Q w g t st) : g < w.heap.size := by
 obtain ⟨_, _, h, _⟩ := h
 exact h.lt
theorem Rs.below (h : Rs Q w g t st) (hb : Below w.heap.size w w') : Rs Q w' g t st := by
 obtain ⟨xs, er, h, hs, hl⟩ := h
 exact ⟨xs, er, h.below hb, hs, hl⟩
theorem Rs.drew (h : Rs Q w g t st) : Rs Q w.drew g t st := h
theorem Rs.alloc (h : Rs Q w g t st) (o : Obj) : Rs Q (w.alloc o) g t st := h.below ((Below.refl _ w).alloc (Nat.le_refl _) o)
theorem Rs.block (h : Rs Q w g t st) : ∃ cs, w.heap[g]? = some (.cells cs t (0, 0)) := by
 obtain ⟨_, _, h, _⟩ := h
 exact h.block
end

section
variable {Q : Nat → Prop} {g : Nat} {st : Option (List UInt8)} {w : World}
end

end Go.Proofs.Ytponmfkddglopaa
