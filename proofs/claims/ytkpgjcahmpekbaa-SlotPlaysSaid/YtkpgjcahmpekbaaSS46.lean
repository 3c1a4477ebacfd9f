/-
  Joined: SwV.
-/
import Derived.Test.YtkpgjcahmpekbaaSS45
namespace Go.Proofs.Ytkpgjcahmpekbaa
open Go.RowKit

def TS (w : World) (v : Value) (D : Nat → Prop) (s : Slt) : Prop := ∃ R gp pv pc gm mv mc bv, v = .pointer (some ⟨R, 0, none⟩) ∧ D = DS R gp pv pc gm mv mc bv ∧ SwR w R gp pv pc gm mv mc bv s
theorem Ft.more {D D' : Nat → Prop} {w w' : World} (h : Ft D w w') (hd : ∀ q, D q → D' q) : Ft D' w w' := ⟨h.os, h.tape, h.output, h.size, fun b hb hn => h.block b hb (fun h9 => hn (hd b h9))⟩
theorem slotv : SlotV TS where
 lt := by
  rintro w v D s ⟨R, gp, pv, pc, gm, mv, mc, bv, rfl, rfl, h⟩
  exact h.lt
 keep := by
  rintro w w' v D s ⟨R, gp, pv, pc, gm, mv, mc, bv, rfl, rfl, h⟩ _ hb
  exact ⟨R, gp, pv, pc, gm, mv, mc, bv, rfl, rfl, h.keep hb⟩
 new := fun n w h1 h7 => (new_sw n w h1 h7).mono (by
  rintro e w' ⟨R, gp, pv, pc, gm, mv, mc, rfl, h, hb, hq⟩
  exact ⟨_, _, rfl, ⟨R, gp, pv, pc, gm, mv, mc, _, rfl, rfl, h⟩, hb, hq⟩)
 none_ := fun n w h => new_sw_none n w h
 propose := by
  rintro w v D s d es E k c ⟨R, gp, pv, pc, gm, mv, mc, bv, rfl, rfl, h⟩ hl hd he hk
  refine (propose_sw d es E k c h hl hd he hk).mono ?_
  rintro e w' ⟨rfl, h9⟩
  refine ⟨rfl, ?_⟩
  rcases h9 with ⟨h1, h2⟩ | ⟨h1, A2, n2, c2, h2, h3, h4⟩
  ·rw [h1]
   exact ⟨_, ⟨R, gp, pv, pc, gm, mv, mc, bv, rfl, rfl, h.through h2⟩, Ft.of_below h2, fun q hq => .inl hq⟩
  ·rw [h1]
   refine ⟨_, ⟨R, gp, pv, pc, gm, mv, mc, _, rfl, rfl, h2⟩, h3, ?_⟩
   rintro q (hq | hq | hq | hq)
   ·exact .inl (.inl hq)
   ·exact .inl (.inr (.inl hq))
   ·exact .inl (.inr (.inr (.inl hq)))
   ·exact .inr (h4 q hq)
 prepare := by
  rintro w v D s who d ⟨R, gp, pv, pc, gm, mv, mc, bv, rfl, rfl, h⟩ hl hd
  refine (prepare_sw who d h hl hd).mono ?_
  rintro e w' ⟨rfl, h1, h2⟩
  exact ⟨rfl, _, ⟨R, gp, pv, pc, gm, mv, mc, bv, rfl, rfl, h1⟩, h2.more (fun q hq => .inr (.inl hq)), fun q hq => .inl hq⟩
 commit := by
  rintro w v D s who d ⟨R, gp, pv, pc, gm, mv, mc, bv, rfl, rfl, h⟩ hl hd
  refine (commit_sw who d h hl hd).mono ?_
  rintro e w' ⟨rfl, h1, h2⟩
  exact ⟨rfl, _, ⟨R, gp, pv, pc, gm, mv, mc, bv, rfl, rfl, h1⟩, h2.more (fun q hq => .inr (.inr (.inl hq))), fun q hq => .inl hq⟩
 prepared := by
  rintro w v D s p ⟨R, gp, pv, pc, gm, mv, mc, bv, rfl, rfl, h⟩ hl
  exact prepared_sw p h hl
 committed := by
  rintro w v D s ⟨R, gp, pv, pc, gm, mv, mc, bv, rfl, rfl, h⟩ hl
  exact committed_sw h hl
 votes := by
  rintro w v D s ⟨R, gp, pv, pc, gm, mv, mc, bv, rfl, rfl, h⟩ hl
  exact votes_sw h hl
 proposal := by
  rintro w v D s ⟨R, gp, pv, pc, gm, mv, mc, bv, rfl, rfl, h⟩ hl
  exact proposal_sw h hl

end Go.Proofs.Ytkpgjcahmpekbaa
