/-
  Joined: ChM.
-/
import Derived.Test.YtpolofehkckaoaaUT7
import Derived.Test.YtpolofehkckaoaaUT11
import Derived.Test.YtpolofehkckaoaaUT9
namespace Go.Proofs.Ytpolofehkckaoaa
open Go.RowKit

def Po.cells (p : Po) : List Value := .int .i64 p.sq :: vs p.dg
theorem Po.cells_len (p : Po) (h : p.dg.length = 32) : p.cells.length = 33 := by simp [Po.cells, vs_length, h]
theorem Try.el_po : El Try.prog 39 31 33 40 (.agg (Po.cells ⟨0, List.replicate 32 0⟩).toArray) :=
 ⟨Try.underlying39, by kernel_rfl, rfl, by omega, by omega, by omega⟩
theorem Try.ix_po (W : World) (g o n c j : Nat) (hj : j < n) : (Instr.indexAt 39 (.slice (some ⟨g, o, none⟩) n c) (.int .i64 (j : Int))).run Try.prog W = .ok (.pointer (some ⟨g, o + j * 33, none⟩)) W := Try.el_po.index (by kernel_rfl) W g o n c j hj
def PosIn (w : World) (A : Option Addr) (k : Nat) (l : List Po) : Prop := Sl w 33 A k (l.map Po.cells) ∧ ∀ p ∈ l, p.dg.length = 32
def pfC (p : Pf) (s : Pl) : List Value := [.int .i64 p.sq, .int .i64 p.vw, .slice s.1 s.2.1 s.2.2]
def pfR : List Pf → List Pl → List (List Value) := List.zipWith pfC
def AllP (w : World) : List Pf → List Pl → Prop
 | [], [] => True
 | p :: ps, s :: ss => (EysIn w s.1 s.2.1 p.es ∧ s.2.1 ≤ s.2.2 ∧ s.2.2 ≤ maxLen) ∧ AllP w ps ss
 | [], _ :: _ => False
 | _ :: _, [] => False
def PfsIn (w : World) (A : Option Addr) (k : Nat) (ps : List Pf) : Prop := ∃ ss, Sl w 3 A k (pfR ps ss) ∧ AllP w ps ss
theorem pfR_len {ps : List Pf} {ss : List Pl} (h : ps.length = ss.length) : (pfR ps ss).length = ps.length := by
 unfold pfR
 rw [List.length_zipWith, h, Nat.min_self]
theorem pfR_get {ps : List Pf} {ss : List Pl} {i : Nat} {p : Pf} {s : Pl} (hp : ps[i]? = some p) (hs : ss[i]? = some s) : (pfR ps ss)[i]? = some (pfC p s) := by
 unfold pfR
 rw [List.getElem?_zipWith, hp, hs]
section
variable {w w' : World} {A : Option Addr} {k : Nat}
theorem PosIn.through {l : List Po} (h : PosIn w A k l) (hb : Below w.heap.size w w') : PosIn w' A k l := ⟨h.1.through hb, h.2⟩
theorem PosIn.len {l : List Po} (h : PosIn w A k l) : l.length = k := by simpa using h.1.len
theorem PosIn.none_ : PosIn w none 0 [] := ⟨Sl.none_, fun _ h => nomatch h⟩
theorem PosIn.at {l : List Po} (h : PosIn w A k l) {i : Nat} (hi : i < k) : ∃ g o p, A = some ⟨g, o, none⟩ ∧ l[i]? = some p ∧ p ∈ l ∧ l.drop i = p :: l.drop (i + 1) ∧ p.dg.length = 32 ∧ w.rangeAt g (o + i * 33) p.cells := by
 obtain ⟨g, o, cs, e, h1, _, _, h4⟩ := h.1.at hi
 have hl : i < l.length := by rw [h.len]; exact hi
 rw [List.getElem?_map, List.getElem?_eq_getElem hl] at h1
 simp only [Option.map_some, Option.some.injEq] at h1
 subst h1
 exact ⟨g, o, l[i], e, List.getElem?_eq_getElem hl, List.getElem_mem hl, List.drop_eq_getElem_cons hl, h.2 _ (List.getElem_mem hl), h4⟩
theorem AllP.mono : ∀ {ps : List Pf} {ss : List Pl}, AllP w ps ss → (∀ (s : Pl) es, EysIn w s.1 s.2.1 es → EysIn w' s.1 s.2.1 es) → AllP w' ps ss
 | [], [], _, _ => trivial
 | _ :: _, _ :: _, h, hm => ⟨⟨hm _ _ h.1.1, h.1.2⟩, AllP.mono h.2 hm⟩
 | [], _ :: _, h, _ => h.elim
 | _ :: _, [], h, _ => h.elim
theorem AllP.len : ∀ {ps : List Pf} {ss : List Pl}, AllP w ps ss → ps.length = ss.length
 | [], [], _ => rfl
 | _ :: _, _ :: _, h => by simp [AllP.len h.2]
 | [], _ :: _, h => h.elim
 | _ :: _, [], h => h.elim
theorem AllP.at : ∀ {ps : List Pf} {ss : List Pl} {i : Nat} {p : Pf}, AllP w ps ss → ps[i]? = some p → ∃ s, ss[i]? = some s ∧ EysIn w s.1 s.2.1 p.es ∧ s.2.1 ≤ s.2.2 ∧ s.2.2 ≤ maxLen
 | [], _, _, _, _, h => by simp at h
 | _ :: _, [], _, _, h, _ => h.elim
 | x :: _, s :: _, 0, p, h, he => by
  simp at he
  subst he
  exact ⟨s, rfl, h.1⟩
 | _ :: _, _ :: _, i + 1, p, h, he => by
  obtain ⟨s, hs, ht⟩ := AllP.at h.2 (by simpa using he)
  exact ⟨s, by simpa using hs, ht⟩
theorem PfsIn.none_ : PfsIn w none 0 [] := ⟨[], Sl.none_, trivial⟩
theorem PfsIn.through {ps : List Pf} (h : PfsIn w A k ps) (hb : Below w.heap.size w w') : PfsIn w' A k ps := by
 obtain ⟨ss, h1, h2⟩ := h
 exact ⟨ss, h1.through hb, h2.mono fun _ _ h => h.through hb⟩
theorem PfsIn.len {ps : List Pf} (h : PfsIn w A k ps) : ps.length = k := by
 obtain ⟨ss, h1, h2⟩ := h
 rw [← pfR_len h2.len]
 exact h1.len
theorem PfsIn.at {ps : List Pf} (h : PfsIn w A k ps) {i : Nat} (hi : i < k) : ∃ g o p B m c, A = some ⟨g, o, none⟩ ∧ ps[i]? = some p ∧ p ∈ ps ∧ ps.drop i = p :: ps.drop (i + 1) ∧ w.rangeAt g (o + i * 3) [.int .i64 p.sq, .int .i64 p.vw, .slice B m c] ∧ EysIn w B m p.es ∧ m ≤ c ∧ c ≤ maxLen := by
 have hl : i < ps.length := by rw [h.len]; exact hi
 obtain ⟨ss, h1, h2⟩ := h
 obtain ⟨g, o, cs, e, h3, _, _, h4⟩ := h1.at hi
 obtain ⟨s, hs, ht⟩ := h2.at (List.getElem?_eq_getElem hl)
 rw [pfR_get (List.getElem?_eq_getElem hl) hs] at h3
 injection h3 with h3
 subst h3
 exact ⟨g, o, ps[i], s.1, s.2.1, s.2.2, e, List.getElem?_eq_getElem hl, List.getElem_mem hl, List.drop_eq_getElem_cons hl, h4, ht⟩
/-- the slices' caps that a change is handed with -/
structure Caps where
 c1 : Nat
 c2 : Nat
 c3 : Nat
/-- a change's cells, and that it is read there -/
def Ch.cells (c : Ch) (P Q R : Pl) : List Value := [.int .i64 c.vw, .int .i64 c.lw, .slice P.1 P.2.1 P.2.2, .slice Q.1 Q.2.1 Q.2.2, .slice R.1 R.2.1 R.2.2]
def ChIn (w : World) (P Q R : Pl) (c : Ch) : Prop := (PosIn w P.1 P.2.1 c.po ∧ P.2.1 ≤ P.2.2 ∧ P.2.2 ≤ maxLen) ∧ (PfsIn w Q.1 Q.2.1 c.pp ∧ Q.2.1 ≤ Q.2.2 ∧ Q.2.2 ≤ maxLen) ∧ (PfsIn w R.1 R.2.1 c.pd ∧ R.2.1 ≤ R.2.2 ∧ R.2.2 ≤ maxLen)
theorem ChIn.through {P Q R : Pl} {c : Ch} (h : ChIn w P Q R c) (hb : Below w.heap.size w w') : ChIn w' P Q R c := ⟨⟨h.1.1.through hb, h.1.2⟩, ⟨h.2.1.1.through hb, h.2.1.2⟩, ⟨h.2.2.1.through hb, h.2.2.2⟩⟩
end
end Go.Proofs.Ytpolofehkckaoaa
