/-
  Joined: RqR, BaP.
-/
import Derived.Deep.CutRange
import Derived.Laws.AppendOwn
import Derived.Test.YtponmfkddglopaaWU13
import Derived.Test.YtponmfkddglopaaWU9
import Derived.Test.YtponmfkddglopaaWU10
namespace Go.Proofs.Ytponmfkddglopaa
open Go.RowKit

/-- A block of cells that are no bytes is turned. -/
theorem By.far {w w' : World} {A : Option Addr} {n g : Nat} {xs : List UInt8} {t : TypeId} {cs : List Value} (h : By w (fun _ => True) A n xs) (hg : w.grownBy w' (some g)) (hb : Blk w g t cs) (hc : ∀ v ∈ cs, ∀ u : UInt8, v ≠ u8 u) : By w' (fun _ => True) A n xs :=
 ⟨h.1, fun hn => by
  obtain ⟨b, o, e, _, hc1⟩ := h.2 hn
  refine ⟨b, o, e, trivial, fun j u hu => hg.cell (hc1 j u hu) (fun e2 => ?_)⟩
  have e3 : b = g := Option.some.inj e2
  subst e3
  have h2 := hc1 j u hu
  rw [hb.cell] at h2
  exact hc _ (List.mem_of_getElem? h2) u rfl⟩

end Go.Proofs.Ytponmfkddglopaa

namespace Go.Proofs.Ytponmfkddglopaa
open Go.RowKit

/-- an entry: its core, and who stands behind it -/
structure Ey where
 co : Cr
 ms : Nat
def Ey.eqb (x y : Ey) : Bool := x.co.eqb y.co && (x.ms == y.ms)
theorem Ey.eqb_iff {x y : Ey} : x.eqb y = true ↔ x = y := by
 obtain ⟨x1, x2⟩ := x
 obtain ⟨y1, y2⟩ := y
 simp only [Ey.eqb, Bool.and_eq_true, Cr.eqb_iff, beq_iff_eq, Ey.mk.injEq]
end Go.Proofs.Ytponmfkddglopaa
