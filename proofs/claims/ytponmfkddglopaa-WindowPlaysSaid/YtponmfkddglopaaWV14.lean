/-
  Joined: SlL0, SlX.
-/
import Derived.Test.YtponmfkddglopaaWV13
import Derived.Deep.RegionHeld
import Derived.Deep.CutBlock
namespace Go.Proofs.Ytponmfkddglopaa
open Go.RowKit

/-- how much a slot holds, at most -/
structure SlLow (s : Slt) : Prop where
 n1 : 1 ≤ s.n
 n7 : s.n ≤ 7
 pr : s.pr.length ≤ 1000
 cm : s.cm.length ≤ 1000
 es : s.es.length ≤ 1000
theorem SlLow.no {n : Int} (h1 : 1 ≤ n) (h7 : n ≤ 7) : SlLow (Slt.no n) := ⟨h1, h7, Nat.zero_le _, Nat.zero_le _, Nat.zero_le _⟩
section
variable {T : World → Value → (Nat → Prop) → Slt → Prop} {w w' : World} {v : Value} {D : Nat → Prop} {s : Slt}
end
end Go.Proofs.Ytponmfkddglopaa

namespace Go.Proofs.Ytponmfkddglopaa
open Go.RowKit

/-- a slot of one's own, made behind w0, and a digest beside it -/
def FX (T : World → Value → (Nat → Prop) → Slt → Prop) (w0 w : World) (v : Value) (s : Slt) (g : Nat) (d : List UInt8) : Prop :=
 ∃ D, T w v D s ∧ Below w0.heap.size w0 w ∧ (∀ q, D q → w0.heap.size ≤ q) ∧ Blk w g 40 (vs d) ∧ ¬ D g
section
variable {T : World → Value → (Nat → Prop) → Slt → Prop} {w0 w w' : World} {v : Value} {s : Slt} {g : Nat} {d : List UInt8}
theorem FX.below (h : FX T w0 w v s g d) : Below w0.heap.size w0 w := by obtain ⟨_, _, h2, _⟩ := h; exact h2
theorem FX.blk (h : FX T w0 w v s g d) : Blk w g 40 (vs d) := by obtain ⟨_, _, _, _, h4, _⟩ := h; exact h4
end
end Go.Proofs.Ytponmfkddglopaa
