/-
  Joined: Ft.
-/
import Derived.Test.YtponmfkddglopaaWU2
namespace Go.Proofs.Ytponmfkddglopaa
open Go.RowKit

/-- of what was there, the blocks of D alone may have turned -/
structure Ft (D : Nat → Prop) (w w' : World) : Prop where
 os : w'.os = w.os
 tape : w'.tape = w.tape
 output : w'.output = w.output
 size : w.heap.size ≤ w'.heap.size
 block : ∀ b, b < w.heap.size → ¬ D b → w'.heap[b]? = w.heap[b]?
section
variable {D D' : Nat → Prop} {w m w' : World}
theorem Ft.refl (D : Nat → Prop) (w : World) : Ft D w w := ⟨rfl, rfl, rfl, Nat.le_refl _, fun _ _ _ => rfl⟩
theorem Ft.of_below (h : Below w.heap.size w w') : Ft D w w' := ⟨h.os, h.tape, h.output, h.size, fun b hb _ => h.block b hb⟩
theorem Ft.of_grown {row : Option Nat} (h : w.grownBy w' row) (hr : ∀ b, row = some b → D b ∨ w.heap.size ≤ b) : Ft D w w' :=
 ⟨h.os, h.tape, h.output, h.size, fun b hb hD => h.block b hb (fun e => by rcases hr b e.symm with h9 | h9; exact hD h9; omega)⟩
/-- behind it what the object has may be more, but nothing that was there already -/
theorem Ft.trans (a : Ft D w m) (b : Ft D' m w') (h : ∀ q, D' q → D q ∨ w.heap.size ≤ q) : Ft D w w' :=
 ⟨b.os.trans a.os, b.tape.trans a.tape, b.output.trans a.output, Nat.le_trans a.size b.size, fun q hq hD => (b.block q (Nat.lt_of_lt_of_le hq a.size) (fun h9 => by rcases h q h9 with h8 | h8; exact hD h8; omega)).trans (a.block q hq hD)⟩
theorem Ft.deep (a : Ft D w m) (b : Below m.heap.size m w') : Ft D w w' :=
 ⟨b.os.trans a.os, b.tape.trans a.tape, b.output.trans a.output, Nat.le_trans a.size b.size, fun q hq hD => (b.block q (Nat.lt_of_lt_of_le hq a.size)).trans (a.block q hq hD)⟩
theorem Ft.blk {q : Nat} {t : TypeId} {cs : List Value} (a : Ft D w w') (hb : Blk w q t cs) (h : ¬ D q) : Blk w' q t cs := (a.block q hb.lt h).trans hb
theorem Ft.below {B : Nat} {v : World} (a : Ft D w w') (hb : Below B v w) (hB : B ≤ w.heap.size) (h : ∀ q, D q → B ≤ q) : Below B v w' :=
 ⟨a.os.trans hb.os, a.tape.trans hb.tape, a.output.trans hb.output, Nat.le_trans hb.size a.size, fun k hk => (a.block k (by omega) (fun h9 => by have := h k h9; omega)).trans (hb.block k hk)⟩
end

end Go.Proofs.Ytponmfkddglopaa
