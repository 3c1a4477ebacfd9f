/-
  Joined: SlL0.
-/
import Derived.Test.YtponmfkddglopaaWU22
namespace Go.Proofs.Ytponmfkddglopaa
open Go.RowKit

/-- how much a slot holds, at most -/
structure SlLow (s : Slt) : Prop where
 n1 : 1 ≤ s.n
 n7 : s.n ≤ 7
 pr : s.pr.length ≤ 1000
 cm : s.cm.length ≤ 1000
 es : s.es.length ≤ 1000
theorem SlLow.no {n : Int} (h1 : 1 ≤ n) (h7 : n ≤ 7) : SlLow (Slt.no n) := ⟨h1, h7, Nat.zero_le _, Nat.zero_le _, Nat.zero_le _⟩
section
variable {T : World → Value → (Nat → Prop) → Slt → Prop} {w w' : World} {v : Value} {D : Nat → Prop} {s : Slt}
end
end Go.Proofs.Ytponmfkddglopaa
