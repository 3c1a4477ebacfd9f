/-
  Joined: SwR.
-/
import Derived.Test.YtponmfkddglopaaWV25
import Derived.Test.YtponmfkddglopaaWV14
import Derived.Test.YtponmfkddglopaaWV11
namespace Go.Proofs.Ytponmfkddglopaa
open Go.RowKit

structure SwR (W : World) (R gp pv pc gm mv mc : Nat) (bv : Value) (s : Slt) : Prop where
 box : Blk W R 61 (slC s bv (.pointer (some ⟨gp, 0, none⟩)) (.pointer (some ⟨gm, 0, none⟩)))
 pr : TlR 76 encD okD W gp pv pc s.pr
 cm : TlR 76 encD okD W gm mv mc s.cm
 bat : OEy W 0 bv s.es
 dg : s.dg.length = 32
 ap : ∀ q, D3 gp pv pc q → ¬ D3 gm mv mc q
 ab : ∀ q, bv.ownBlock = some q → q ≠ R ∧ ¬ D3 gp pv pc q ∧ ¬ D3 gm mv mc q
def DS (R gp pv pc gm mv mc : Nat) (bv : Value) : Nat → Prop := fun q => q = R ∨ D3 gp pv pc q ∨ D3 gm mv mc q ∨ bv.ownBlock = some q
theorem tl_ne {W : World} {R g gv gc : Nat} {cs : List Value} {M : Wl} (h : Blk W R 61 cs) (t : TlR 76 encD okD W g gv gc M) : ¬ D3 g gv gc R := by
 rintro (e | e | e)
 ·have h1 : W.heap[R]? = _ := h
  have h2 : W.heap[g]? = _ := t.box
  rw [← e, h1] at h2
  exact absurd h2 (by simp)
 ·exact vm_ne h t.vm e
 ·exact cm_ne h t.cm e
section
variable {W W' : World} {R gp pv pc gm mv mc : Nat} {bv : Value} {s : Slt}
theorem SwR.lt (h : SwR W R gp pv pc gm mv mc bv s) : ∀ q, DS R gp pv pc gm mv mc bv q → q < W.heap.size := by
 rintro q (rfl | hq | hq | hq)
 ·exact h.box.lt
 ·exact h.pr.lt q hq
 ·exact h.cm.lt q hq
 ·exact (h.bat.1.lt q hq).2
theorem SwR.keep (h : SwR W R gp pv pc gm mv mc bv s) (hb : ∀ q, DS R gp pv pc gm mv mc bv q → W'.heap[q]? = W.heap[q]?) : SwR W' R gp pv pc gm mv mc bv s :=
 ⟨(hb R (.inl rfl)).trans h.box, h.pr.keep (fun q hq => hb q (.inr (.inl hq))), h.cm.keep (fun q hq => hb q (.inr (.inr (.inl hq)))), ⟨h.bat.1.keep (fun b _ _ hq => hb b (.inr (.inr (.inr hq)))), h.bat.2⟩, h.dg, h.ap, h.ab⟩
theorem SwR.through (h : SwR W R gp pv pc gm mv mc bv s) (hb : Below W.heap.size W W') : SwR W' R gp pv pc gm mv mc bv s := h.keep fun q hq => hb.block q (h.lt q hq)
theorem SwR.prep (h : SwR W R gp pv pc gm mv mc bv s) {l : Wl} (hf : Ft (D3 gp pv pc) W W') (hp : TlR 76 encD okD W' gp pv pc l) : SwR W' R gp pv pc gm mv mc bv { s with pr := l } :=
 ⟨hf.blk h.box (tl_ne h.box h.pr), hp, h.cm.keep (fun q hq => hf.block q (h.cm.lt q hq) (fun h9 => h.ap q h9 hq)), ⟨h.bat.1.keep (fun b _ hl hq => hf.block b hl (h.ab b hq).2.1), h.bat.2⟩, h.dg, h.ap, h.ab⟩
end
end Go.Proofs.Ytponmfkddglopaa
