/-
  A slice of slices of bytes, in memory.
-/
import Derived.Test.YtnncfhkgcaoomaaKF
namespace Go.Proofs.Ytnncfhkgcaoomaa
open Go.RowKit

/-- A slice of slices of bytes, as it lies in memory. -/
def Txts (w : World) (L : Option Addr) (m : Nat) : Prop :=
  0 < m → ∃ b o, L = some ⟨b, o, none⟩ ∧ ∀ i, i < m → ∃ A n c t, w.cell? ⟨b, o + i, none⟩ = some (.slice A n c) ∧ By w (fun _ => True) A n t
theorem Txts.through {w w' : World} {L : Option Addr} {m : Nat} (h : Txts w L m) (hb : Below w.heap.size w w') : Txts w' L m := fun hm => by
  obtain ⟨b, o, e, hc⟩ := h hm
  refine ⟨b, o, e, fun i hi => ?_⟩
  obtain ⟨A, n, c, t, h0, h1⟩ := hc i hi
  have lt : b < w.heap.size := World.block_lt_of_cell? w ⟨b, o + i, none⟩ h0
  exact ⟨A, n, c, t, (hb.cell (p := ⟨b, _, none⟩) lt).trans h0, h1.through hb⟩

end Go.Proofs.Ytnncfhkgcaoomaa
