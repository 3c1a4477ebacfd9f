/-
  Joined: WnA.
-/
import Derived.Outline
import Derived.StillTail
import Derived.Deep.RegionHeld
import Derived.Test.YtponmfkddglopaaWU42
import Derived.Test.YtponmfkddglopaaWU2
namespace Go.Proofs.Ytponmfkddglopaa
open Go.RowKit

theorem Blk.apart {w w' : World} {g : Nat} {t : TypeId} {cs : List Value} {B' : Nat} {e' : TypeId} {k' : Nat} {v' : Value} {xs' : List (List Value)} (h : Blk w g t cs) (h' : Os w B' e' k' v' xs') (hne : t ≠ e') (hg : w.grownBy w' v'.ownBlock) : Blk w' g t cs := by
 rcases h'.1.2 with ⟨rfl, _⟩ | ⟨g2, cap, cur, rfl, _, hg2, _⟩
 ·exact h.grown hg (by simp [Value.ownBlock])
 ·refine h.grown hg (fun e2 => ?_)
  have e3 : g = g2 := Option.some.inj e2
  subst e3
  unfold Blk at h
  rw [hg2] at h
  injection h with h
  injection h with _ ht
  exact hne ht.symm
end Go.Proofs.Ytponmfkddglopaa
