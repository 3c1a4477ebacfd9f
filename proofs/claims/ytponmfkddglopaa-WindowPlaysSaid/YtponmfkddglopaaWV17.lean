/-
  Joined: SpA.
-/
import Derived.Deep.RegionHeld
import Derived.Deep.CutBlock
import Derived.BigGuard
import Derived.BigQuiet
import Derived.Test.YtponmfkddglopaaWV14
import Derived.Test.YtponmfkddglopaaWV16
import Derived.Test.YtponmfkddglopaaWV15
import Derived.Test.YtponmfkddglopaaWV13
import Derived.Test.YtponmfkddglopaaWV2
import Derived.Test.YtponmfkddglopaaWV8
import Derived.Test.YtponmfkddglopaaWV11
namespace Go.Proofs.Ytponmfkddglopaa
open Go.RowKit

abbrev tSd : TypeId := 57
/-- an act, as it lies in memory -/
structure Sa where
  kd : Int
  who : Int
  dg : List UInt8
  es : List Ey
  A : Option Addr
  n : Nat
  c : Nat
def Sa.cells (x : Sa) : List Value := .int .u8 x.kd :: .int .i64 x.who :: (vs x.dg ++ [.slice x.A x.n x.c])
theorem Sa.len {x : Sa} (h : x.dg.length = 32) : x.cells.length = 35 := by simp [Sa.cells, vs, h]
theorem Sa.one (x : Sa) : x.cells.toArray.all (·.oneCell') = true := Array.all_eq_true_iff_forall_mem.2 (fun u hu => by
  simp only [Sa.cells, List.mem_toArray, List.mem_cons, List.mem_append, vs, List.mem_map, List.mem_nil_iff, or_false] at hu
  rcases hu with rfl | rfl | ⟨b, _, rfl⟩ | rfl <;> rfl)
structure SaOk (w : World) (x : Sa) : Prop where
  dg : x.dg.length = 32
  es : EysIn w x.A x.n x.es
  lo : 0 ≤ x.kd
  hi : x.kd ≤ 255
def SasIn (w : World) (A : Option Addr) (k : Nat) (l : List Sa) : Prop := Sl w 35 A k (l.map Sa.cells) ∧ ∀ x ∈ l, SaOk w x
theorem SasIn.len {w : World} {A : Option Addr} {k : Nat} {l : List Sa} (h : SasIn w A k l) : l.length = k := by simpa using h.1.len
theorem SasIn.at {w w' : World} {A : Option Addr} {k : Nat} {l : List Sa} (h : SasIn w A k l) (hb : Below w.heap.size w w') {i : Nat} (hi : i < k) : ∃ g o x, A = some ⟨g, o, none⟩ ∧ SaOk w x ∧ w'.rangeAt g (o + i * 35) x.cells := by
  obtain ⟨g, o, cs, e, h1, _, _, h4⟩ := (h.1.through hb).at hi
  have hl : i < l.length := by rw [h.len]; exact hi
  rw [List.getElem?_map, List.getElem?_eq_getElem hl] at h1
  simp only [Option.map_some, Option.some.injEq] at h1
  subst h1
  have h2 := h.2 _ (List.getElem_mem hl)
  exact ⟨g, o, l[i], e, h2, h4⟩
/-- what the document's slot has of memory -/
def RD (R : Nat) (bv pv cv : Value) : Nat → Prop := fun q => q = R ∨ bv.ownBlock = some q ∨ pv.ownBlock = some q ∨ cv.ownBlock = some q
structure JB (T : World → Value → (Nat → Prop) → Slt → Prop) (w0 W : World) (v : Value) (R : Nat) (sp sd : Slt) (D : Nat → Prop) (bv pv cv : Value) : Prop where
  tt : T W v D sp
  box : Blk W R tSd (slC sd bv pv cv)
  es : OEy W w0.heap.size bv sd.es
  pr : OWd W w0.heap.size pv sd.pr
  cm : OWd W w0.heap.size cv sd.cm
  dg : sd.dg.length = 32
  be : Below w0.heap.size w0 W
  rr : w0.heap.size ≤ R
  dd : ∀ q, D q → w0.heap.size ≤ q
  ap : ∀ q, D q → ¬ RD R bv pv cv q
  nb : bv.ownBlock ≠ some R
  np : pv.ownBlock ≠ some R
  nc : cv.ownBlock ≠ some R
section
variable {T : World → Value → (Nat → Prop) → Slt → Prop} {w0 W W' : World} {v : Value} {R : Nat} {sp sd : Slt} {D : Nat → Prop} {bv pv cv : Value}
theorem JB.lt (h : JB T w0 W v R sp sd D bv pv cv) : ∀ q, RD R bv pv cv q → q < W.heap.size := by
  rintro q (rfl | hq | hq | hq)
  · exact h.box.lt
  · exact (h.es.1.lt q hq).2
  · exact (h.pr.1.lt q hq).2
  · exact (h.cm.1.lt q hq).2
theorem JB.prog (h : JB T w0 W v R sp sd D bv pv cv) {D' : Nat → Prop} {sp' : Slt} (h1 : T W' v D' sp') (h2 : Ft D W W') (h3 : ∀ q, D' q → D q ∨ W.heap.size ≤ q) : JB T w0 W' v R sp' sd D' bv pv cv :=
  ⟨h1, h2.blk h.box (fun h9 => h.ap R h9 (.inl rfl)), ⟨h.es.1.keep (fun b _ hl hq => h2.block b hl (fun h9 => h.ap b h9 (.inr (.inl hq)))), h.es.2⟩,
   ⟨h.pr.1.keep (fun b _ hl hq => h2.block b hl (fun h9 => h.ap b h9 (.inr (.inr (.inl hq))))), h.pr.2⟩, ⟨h.cm.1.keep (fun b _ hl hq => h2.block b hl (fun h9 => h.ap b h9 (.inr (.inr (.inr hq))))), h.cm.2⟩,
   h.dg, h2.below h.be h.be.size h.dd, h.rr, fun q hq => (h3 q hq).elim (h.dd q) (fun h9 => Nat.le_trans h.be.size h9),
   fun q hq hr => (h3 q hq).elim (fun h9 => h.ap q h9 hr) (fun h9 => by have := h.lt q hr; omega), h.nb, h.np, h.nc⟩
end
/-- both -/
def JS (T : World → Value → (Nat → Prop) → Slt → Prop) (w0 W : World) (v : Value) (R : Nat) (sp sd : Slt) : Prop := ∃ D bv pv cv, JB T w0 W v R sp sd D bv pv cv
section
variable {T : World → Value → (Nat → Prop) → Slt → Prop} {w0 W W' : World} {v : Value} {R : Nat} {sp sd : Slt} {g : Nat} {x : Sa}
theorem JS.be (h : JS T w0 W v R sp sd) : Below w0.heap.size w0 W := by obtain ⟨_, _, _, _, h⟩ := h; exact h.be
/-- what the document's slot holds, as its box tells it -/
theorem JS.docBox (h : JS T w0 W v R sp sd) : ∃ B nb cb P cp C cc, Blk W R tSd (slC sd (.slice B nb cb) (.slice P sd.pr.length cp) (.slice C sd.cm.length cc)) ∧ EysIn W B nb sd.es ∧ sd.dg.length = 32 := by
  obtain ⟨D, bv, pv, cv, h1⟩ := h
  obtain ⟨B, nb, cb, rfl, _, _, hE, _⟩ := h1.es.out
  obtain ⟨P, cp, rfl, _, _, _⟩ := h1.pr.out
  obtain ⟨C, cc, rfl, _, _, _⟩ := h1.cm.out
  exact ⟨B, nb, cb, P, cp, C, cc, h1.box, hE, h1.dg⟩
end

end Go.Proofs.Ytponmfkddglopaa
