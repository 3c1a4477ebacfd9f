/-
  Joined: PwZ.
-/
import Derived.Test.YtpolofehkckaoaaUH47
import Derived.Test.YtpolofehkckaoaaUH38
import Derived.Test.YtpolofehkckaoaaUH35
import Derived.Test.YtpolofehkckaoaaUH36
import Derived.Test.YtpolofehkckaoaaUH37
import Derived.Test.YtpolofehkckaoaaUH20
namespace Go.Proofs.Ytpolofehkckaoaa
open Go.RowKit

/-- the program's points in memory, with their blocks -/
def PTr (w : World) (B : Nat) (r : Ptp) (D : Nat → Prop) : Prop := ∃ mo mv ows OE VE vf, PPt w B mo mv r ows OE VE vf ∧ ∀ q, D q ↔ DW B mo mv r ows vf q
theorem PPt.few {w : World} {B mo mv : Nat} {r : Ptp} {ows : List Ow} {OE VE : List (Int × Value)} {vf : Nat → Pl} (h : PPt w B mo mv r ows OE VE vf) (hl : PtLow r) : ows.length ≤ 100000 := by
 have h3 := h.ol
 have h1 : (ownL r).length ≤ 100000 := hl.of _ (by
  unfold ownL
  rw [List.getD_eq_getElem?_getD, List.getElem?_eq_getElem (by rw [h.nl]; exact h.sf)]
  exact List.getElem_mem _)
 rwa [h3, List.length_map] at h1
theorem Ft.iff {D D' : Nat → Prop} {w w' : World} (h : Ft D w w') (hd : ∀ q, D q ↔ D' q) : Ft D' w w' := ⟨h.os, h.tape, h.output, h.size, fun b hb hn => h.block b hb (fun h9 => hn ((hd b).1 h9))⟩
theorem pts_p : PtsP PTr where
 off := fun ⟨mo, mv, ows, OE, VE, vf, h, hD⟩ hf hd => ⟨mo, mv, ows, OE, VE, vf, h.off hf (fun q hq => hd q ((hD q).2 hq)), hD⟩
 lt := fun ⟨_, _, _, _, _, _, h, hD⟩ q hq => h.lt q ((hD q).1 hq)
 new_ := fun n self w h1 h7 hs => (new_p n self w h1 h7 hs).mono fun e w' ⟨B, mo, mv, e1, hp, hb, hB, hmo, hmv⟩ => ⟨B, _, e1, ⟨mo, mv, [], [], [], fun _ => (none, 0, 0), hp, fun q => Iff.rfl⟩, hb, fun q hq => by
  rcases hq with rfl | rfl | rfl | ⟨o, ho, _⟩ | ⟨a, _, _, a9, h9, _⟩
  ·exact hB
  ·exact hmo
  ·exact hmv
  ·cases ho
  ·cases h9⟩
 own := fun q d b A k c ⟨mo, mv, ows, OE, VE, vf, h, hD⟩ _ h64 hd hb hk _ => (own_p q d b A k c h h64 hd hb hk).mono fun e w' ⟨e1, ows', OE', h2, hf, hq⟩ => ⟨e1, _, ⟨mo, mv, ows', OE', VE, vf, h2, fun _ => Iff.rfl⟩, hf.iff (fun q => (hD q).symm), fun q h9 => (hq q h9).imp (hD q).2 id⟩
 vote := fun who x ⟨mo, mv, ows, OE, VE, vf, h, hD⟩ _ hx => (vote_p who x h hx).mono fun e w' ⟨e1, VE', vf', h2, hf, hq⟩ => ⟨e1, _, ⟨mo, mv, ows, OE, VE', vf', h2, fun _ => Iff.rfl⟩, hf.iff (fun q => (hD q).symm), fun q h9 => (hq q h9).imp (hD q).2 id⟩
 move := fun low ⟨mo, mv, ows, OE, VE, vf, h, hD⟩ _ => (move_p low h).mono fun e w' ⟨e1, ows', OE', h2, hf, hq⟩ => ⟨e1, _, ⟨mo, mv, ows', OE', VE, vf, h2, fun _ => Iff.rfl⟩, hf.iff (fun q => (hD q).symm), fun q h9 => (hq q h9).imp (hD q).2 id⟩
 stable := fun above ⟨_, _, _, _, _, _, h, _⟩ hl => stable_p h above (h.few hl)
 weak := fun above ⟨_, _, _, _, _, _, h, _⟩ hl => weak_p h above (h.few hl)
 supp := fun x ⟨_, _, _, _, _, _, h, _⟩ _ hx => support_p x h hx
 bytes := fun x ⟨_, _, _, _, _, _, h, _⟩ _ hx => bytes_p x h hx
 told := fun ⟨_, _, _, _, _, _, h, _⟩ hl => told_p h (h.few hl)
 votes := fun who ⟨_, _, _, _, _, _, h, _⟩ hl hw => (votes_any who h hw (h.few hl)).mono fun e w' ⟨⟨A, k, c, e1, _, hp, _, _⟩, hb⟩ => ⟨⟨A, k, c, e1, hp⟩, hb⟩

end Go.Proofs.Ytpolofehkckaoaa
