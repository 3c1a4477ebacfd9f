/-
  Joined: SpA.
-/
import Derived.Deep.RegionHeld
import Derived.Deep.CutBlock
import Derived.BigQuiet
import Derived.Test.YtkpgjcahmpekbaaTT21
import Derived.Test.YtkpgjcahmpekbaaTT19
import Derived.Test.YtkpgjcahmpekbaaTT13
import Derived.Test.YtkpgjcahmpekbaaTT9
import Derived.Test.YtkpgjcahmpekbaaTT12
namespace Go.Proofs.Ytkpgjcahmpekbaa
open Go.RowKit

abbrev tSd : TypeId := 80
/-- an act, as it lies in memory -/
structure Sa where
  kd : Int
  who : Int
  dg : List UInt8
  es : List Ey
  A : Option Addr
  n : Nat
  c : Nat
def Sa.cells (x : Sa) : List Value := .int .u8 x.kd :: .int .i64 x.who :: (vs x.dg ++ [.slice x.A x.n x.c])
theorem Sa.len {x : Sa} (h : x.dg.length = 32) : x.cells.length = 35 := by simp [Sa.cells, vs, h]
theorem Sa.one (x : Sa) : x.cells.toArray.all (·.oneCell') = true := Array.all_eq_true_iff_forall_mem.2 (fun u hu => by
  simp only [Sa.cells, List.mem_toArray, List.mem_cons, List.mem_append, vs, List.mem_map, List.mem_nil_iff, or_false] at hu
  rcases hu with rfl | rfl | ⟨b, _, rfl⟩ | rfl <;> rfl)
structure SaOk (w : World) (x : Sa) : Prop where
  dg : x.dg.length = 32
  es : EysIn w x.A x.n x.es
  lo : 0 ≤ x.kd
  hi : x.kd ≤ 255
def SasIn (w : World) (A : Option Addr) (k : Nat) (l : List Sa) : Prop := Sl w 35 A k (l.map Sa.cells) ∧ ∀ x ∈ l, SaOk w x
theorem SasIn.len {w : World} {A : Option Addr} {k : Nat} {l : List Sa} (h : SasIn w A k l) : l.length = k := by simpa using h.1.len
theorem SasIn.at {w w' : World} {A : Option Addr} {k : Nat} {l : List Sa} (h : SasIn w A k l) (hb : Below w.heap.size w w') {i : Nat} (hi : i < k) : ∃ g o x, A = some ⟨g, o, none⟩ ∧ SaOk w x ∧ w'.rangeAt g (o + i * 35) x.cells := by
  obtain ⟨g, o, cs, e, h1, _, _, h4⟩ := (h.1.through hb).at hi
  have hl : i < l.length := by rw [h.len]; exact hi
  rw [List.getElem?_map, List.getElem?_eq_getElem hl] at h1
  simp only [Option.map_some, Option.some.injEq] at h1
  subst h1
  have h2 := h.2 _ (List.getElem_mem hl)
  exact ⟨g, o, l[i], e, h2, h4⟩
/-- what the document's slot has of memory -/
def RD (R : Nat) (bv pv cv : Value) : Nat → Prop := fun q => q = R ∨ bv.ownBlock = some q ∨ pv.ownBlock = some q ∨ cv.ownBlock = some q
structure JB (T : World → Value → (Nat → Prop) → Slt → Prop) (w0 W : World) (v : Value) (R : Nat) (sp sd : Slt) (D : Nat → Prop) (bv pv cv : Value) : Prop where
  tt : T W v D sp
  box : Blk W R tSd (slC sd bv pv cv)
  es : OEy W w0.heap.size bv sd.es
  pr : OWd W w0.heap.size pv sd.pr
  cm : OWd W w0.heap.size cv sd.cm
  dg : sd.dg.length = 32
  be : Below w0.heap.size w0 W
  rr : w0.heap.size ≤ R
  dd : ∀ q, D q → w0.heap.size ≤ q
  ap : ∀ q, D q → ¬ RD R bv pv cv q
  nb : bv.ownBlock ≠ some R
  np : pv.ownBlock ≠ some R
  nc : cv.ownBlock ≠ some R
section
variable {T : World → Value → (Nat → Prop) → Slt → Prop} {w0 W W' : World} {v : Value} {R : Nat} {sp sd : Slt} {D : Nat → Prop} {bv pv cv : Value}
theorem JB.lt (h : JB T w0 W v R sp sd D bv pv cv) : ∀ q, RD R bv pv cv q → q < W.heap.size := by
  rintro q (rfl | hq | hq | hq)
  · exact h.box.lt
  · exact (h.es.1.lt q hq).2
  · exact (h.pr.1.lt q hq).2
  · exact (h.cm.1.lt q hq).2
theorem JB.prog (h : JB T w0 W v R sp sd D bv pv cv) {D' : Nat → Prop} {sp' : Slt} (h1 : T W' v D' sp') (h2 : Ft D W W') (h3 : ∀ q, D' q → D q ∨ W.heap.size ≤ q) : JB T w0 W' v R sp' sd D' bv pv cv :=
  ⟨h1, h2.blk h.box (fun h9 => h.ap R h9 (.inl rfl)), ⟨h.es.1.keep (fun b _ hl hq => h2.block b hl (fun h9 => h.ap b h9 (.inr (.inl hq)))), h.es.2⟩,
   ⟨h.pr.1.keep (fun b _ hl hq => h2.block b hl (fun h9 => h.ap b h9 (.inr (.inr (.inl hq))))), h.pr.2⟩, ⟨h.cm.1.keep (fun b _ hl hq => h2.block b hl (fun h9 => h.ap b h9 (.inr (.inr (.inr hq))))), h.cm.2⟩,
   h.dg, h2.below h.be h.be.size h.dd, h.rr, fun q hq => (h3 q hq).elim (h.dd q) (fun h9 => Nat.le_trans h.be.size h9),
   fun q hq hr => (h3 q hq).elim (fun h9 => h.ap q h9 hr) (fun h9 => by have := h.lt q hr; omega), h.nb, h.np, h.nc⟩
theorem JB.through (V : SlotV T) (h : JB T w0 W v R sp sd D bv pv cv) (hb : Below W.heap.size W W') : JB T w0 W' v R sp sd D bv pv cv :=
  h.prog (V.through h.tt hb) (Ft.of_below hb) (fun _ hq => .inl hq)
theorem JB.doc (V : SlotV T) (h : JB T w0 W v R sp sd D bv pv cv) {sd' : Slt} {bv' pv' cv' : Value} (hf : Ft (fun q => q = R) W W') (hB : Blk W' R tSd (slC sd' bv' pv' cv')) (hd : sd'.dg.length = 32)
    (h1 : bv' = bv ∧ sd'.es = sd.es ∨ OEy W' W.heap.size bv' sd'.es) (h2 : pv' = pv ∧ sd'.pr = sd.pr ∨ OWd W' W.heap.size pv' sd'.pr) (h3 : cv' = cv ∧ sd'.cm = sd.cm ∨ OWd W' W.heap.size cv' sd'.cm) : JB T w0 W' v R sp sd' D bv' pv' cv' := by
  have hRl := h.box.lt
  have e1 : OEy W' w0.heap.size bv' sd'.es ∧ ∀ q, bv'.ownBlock = some q → q ≠ R ∧ (¬ D q) := by
    rcases h1 with ⟨rfl, e⟩ | h1
    · rw [e]
      exact ⟨⟨h.es.1.keep (fun b _ hl hq => hf.block b hl (fun h9 => h.nb (by rw [← h9]; exact hq))), h.es.2⟩, fun q hq => ⟨fun e9 => h.nb (by rw [← e9]; exact hq), fun h9 => h.ap q h9 (.inr (.inl hq))⟩⟩
    · exact ⟨⟨h1.1.weak h.be.size, h1.2⟩, fun q hq => by
        have h8 := (h1.1.lt q hq).1
        exact ⟨by omega, fun h9 => by have := V.lt h.tt q h9; omega⟩⟩
  have e2 : OWd W' w0.heap.size pv' sd'.pr ∧ ∀ q, pv'.ownBlock = some q → q ≠ R ∧ (¬ D q) := by
    rcases h2 with ⟨rfl, e⟩ | h2
    · rw [e]
      exact ⟨⟨h.pr.1.keep (fun b _ hl hq => hf.block b hl (fun h9 => h.np (by rw [← h9]; exact hq))), h.pr.2⟩, fun q hq => ⟨fun e9 => h.np (by rw [← e9]; exact hq), fun h9 => h.ap q h9 (.inr (.inr (.inl hq)))⟩⟩
    · exact ⟨⟨h2.1.weak h.be.size, h2.2⟩, fun q hq => by
        have h8 := (h2.1.lt q hq).1
        exact ⟨by omega, fun h9 => by have := V.lt h.tt q h9; omega⟩⟩
  have e3 : OWd W' w0.heap.size cv' sd'.cm ∧ ∀ q, cv'.ownBlock = some q → q ≠ R ∧ (¬ D q) := by
    rcases h3 with ⟨rfl, e⟩ | h3
    · rw [e]
      exact ⟨⟨h.cm.1.keep (fun b _ hl hq => hf.block b hl (fun h9 => h.nc (by rw [← h9]; exact hq))), h.cm.2⟩, fun q hq => ⟨fun e9 => h.nc (by rw [← e9]; exact hq), fun h9 => h.ap q h9 (.inr (.inr (.inr hq)))⟩⟩
    · exact ⟨⟨h3.1.weak h.be.size, h3.2⟩, fun q hq => by
        have h8 := (h3.1.lt q hq).1
        exact ⟨by omega, fun h9 => by have := V.lt h.tt q h9; omega⟩⟩
  refine ⟨V.ft h.tt hf (fun q hq e => h.ap q hq (.inl e)), hB, e1.1, e2.1, e3.1, hd, hf.below h.be h.be.size (fun q hq => by rw [hq]; exact h.rr), h.rr, h.dd, ?_, fun e => (e1.2 R e).1 rfl, fun e => (e2.2 R e).1 rfl, fun e => (e3.2 R e).1 rfl⟩
  rintro q hq (rfl | hr | hr | hr)
  · exact h.ap q hq (.inl rfl)
  · exact (e1.2 q hr).2 hq
  · exact (e2.2 q hr).2 hq
  · exact (e3.2 q hr).2 hq
end
/-- both, and the act's block beside them -/
def JX (T : World → Value → (Nat → Prop) → Slt → Prop) (w0 W : World) (v : Value) (R : Nat) (sp sd : Slt) (g : Nat) (x : Sa) : Prop := ∃ D bv pv cv, JB T w0 W v R sp sd D bv pv cv ∧ Blk W g 82 x.cells ∧ ¬ D g ∧ g ≠ R
/-- both -/
def JS (T : World → Value → (Nat → Prop) → Slt → Prop) (w0 W : World) (v : Value) (R : Nat) (sp sd : Slt) : Prop := ∃ D bv pv cv, JB T w0 W v R sp sd D bv pv cv
section
variable {T : World → Value → (Nat → Prop) → Slt → Prop} {w0 W W' : World} {v : Value} {R : Nat} {sp sd : Slt} {g : Nat} {x : Sa}
theorem JX.blk (h : JX T w0 W v R sp sd g x) : Blk W g 82 x.cells := by obtain ⟨_, _, _, _, _, h2, _⟩ := h; exact h2
theorem JS.be (h : JS T w0 W v R sp sd) : Below w0.heap.size w0 W := by obtain ⟨_, _, _, _, h⟩ := h; exact h.be
theorem JS.through (V : SlotV T) (h : JS T w0 W v R sp sd) (hb : Below W.heap.size W W') : JS T w0 W' v R sp sd := by obtain ⟨D, bv, pv, cv, h⟩ := h; exact ⟨D, bv, pv, cv, h.through V hb⟩
theorem JX.through (V : SlotV T) (h : JX T w0 W v R sp sd g x) (hb : Below W.heap.size W W') : JX T w0 W' v R sp sd g x := by obtain ⟨D, bv, pv, cv, h, h2, h3⟩ := h; exact ⟨D, bv, pv, cv, h.through V hb, h2.through hb, h3⟩
theorem JX.prog {D' : Nat → Prop} {sp' : Slt} {D : Nat → Prop} {bv pv cv : Value} (h : JB T w0 W v R sp sd D bv pv cv) (h2 : Blk W g 82 x.cells) (h3 : ¬ D g) (h4 : g ≠ R) (h5 : T W' v D' sp') (h6 : Ft D W W') (h7 : ∀ q, D' q → D q ∨ W.heap.size ≤ q) : JX T w0 W' v R sp' sd g x :=
  ⟨D', bv, pv, cv, h.prog h5 h6 h7, h6.blk h2 h3, fun h9 => (h7 g h9).elim h3 (fun h8 => by have := h2.lt; omega), h4⟩
theorem JX.doc {D : Nat → Prop} {bv' pv' cv' : Value} {sd' : Slt} (h2 : Blk W g 82 x.cells) (h3 : ¬ D g) (h4 : g ≠ R) (h5 : JB T w0 W' v R sp sd' D bv' pv' cv') (h6 : Ft (fun q => q = R) W W') : JX T w0 W' v R sp sd' g x :=
  ⟨D, bv', pv', cv', h5, h6.blk h2 h4, h3, h4⟩
end

end Go.Proofs.Ytkpgjcahmpekbaa
