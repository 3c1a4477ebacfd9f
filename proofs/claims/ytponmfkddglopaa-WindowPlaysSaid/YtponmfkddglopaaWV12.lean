/-
  Joined: VoC, TaP, Ft, TaM.
-/
import Derived.Test.YtponmfkddglopaaWV11
import Derived.Test.YtponmfkddglopaaWV7
import Derived.Test.YtponmfkddglopaaWV2
namespace Go.Proofs.Ytponmfkddglopaa
open Go.RowKit

theorem vs_lit (l : List UInt8) (h : l.length = 32) : ∃ x0 x1 x2 x3 x4 x5 x6 x7 x8 x9 x10 x11 x12 x13 x14 x15 x16 x17 x18 x19 x20 x21 x22 x23 x24 x25 x26 x27 x28 x29 x30 x31 : UInt8, l = [x0, x1, x2, x3, x4, x5, x6, x7, x8, x9, x10, x11, x12, x13, x14, x15, x16, x17, x18, x19, x20, x21, x22, x23, x24, x25, x26, x27, x28, x29, x30, x31] := by
 match l, h with
 | [x0, x1, x2, x3, x4, x5, x6, x7, x8, x9, x10, x11, x12, x13, x14, x15, x16, x17, x18, x19, x20, x21, x22, x23, x24, x25, x26, x27, x28, x29, x30, x31], _ => exact ⟨x0, x1, x2, x3, x4, x5, x6, x7, x8, x9, x10, x11, x12, x13, x14, x15, x16, x17, x18, x19, x20, x21, x22, x23, x24, x25, x26, x27, x28, x29, x30, x31, rfl⟩
theorem Vo.one (v : Vo) : (Vo.cells v).toArray.all (·.oneCell') = true := Array.all_eq_true_iff_forall_mem.2 (fun u hu => by
 simp only [Vo.cells, List.mem_toArray, List.mem_cons] at hu
 rcases hu with rfl | rfl | hu
 ·rfl
 ·rfl
 ·exact vs_one u hu)
theorem Vu.one (v : Vu) : (Vu.cells v).toArray.all (·.oneCell') = true := Array.all_eq_true_iff_forall_mem.2 (fun u hu => by
 simp only [Vu.cells, List.mem_toArray, List.mem_cons, List.mem_append, List.not_mem_nil, or_false] at hu
 rcases hu with rfl | rfl | hu | rfl
 ·rfl
 ·rfl
 ·exact vs_one u hu
 ·rfl)
theorem Re.one (v : Re) : (Re.cells v).toArray.all (·.oneCell') = true := by simp [Re.cells, Value.oneCell']
end Go.Proofs.Ytponmfkddglopaa

namespace Go.Proofs.Ytponmfkddglopaa
open Go.RowKit

def Vo.eqb (a b : Vo) : Bool := (a.vw == b.vw) && (a.sq == b.sq) && (a.dg == b.dg)
theorem Vo.eqb_iff {a b : Vo} : a.eqb b = true ↔ a = b := by
 obtain ⟨a1, a2, a3⟩ := a
 obtain ⟨b1, b2, b3⟩ := b
 simp [Vo.eqb, and_assoc]
abbrev Tl := List (Int × Vo)
end Go.Proofs.Ytponmfkddglopaa

namespace Go.Proofs.Ytponmfkddglopaa
open Go.RowKit

/-- of what was there, the blocks of D alone may have turned -/
structure Ft (D : Nat → Prop) (w w' : World) : Prop where
 os : w'.os = w.os
 tape : w'.tape = w.tape
 output : w'.output = w.output
 size : w.heap.size ≤ w'.heap.size
 block : ∀ b, b < w.heap.size → ¬ D b → w'.heap[b]? = w.heap[b]?
section
variable {D D' : Nat → Prop} {w m w' : World}
theorem Ft.refl (D : Nat → Prop) (w : World) : Ft D w w := ⟨rfl, rfl, rfl, Nat.le_refl _, fun _ _ _ => rfl⟩
theorem Ft.of_below (h : Below w.heap.size w w') : Ft D w w' := ⟨h.os, h.tape, h.output, h.size, fun b hb _ => h.block b hb⟩
theorem Ft.of_grown {row : Option Nat} (h : w.grownBy w' row) (hr : ∀ b, row = some b → D b ∨ w.heap.size ≤ b) : Ft D w w' :=
 ⟨h.os, h.tape, h.output, h.size, fun b hb hD => h.block b hb (fun e => by rcases hr b e.symm with h9 | h9; exact hD h9; omega)⟩
/-- behind it what the object has may be more, but nothing that was there already -/
theorem Ft.trans (a : Ft D w m) (b : Ft D' m w') (h : ∀ q, D' q → D q ∨ w.heap.size ≤ q) : Ft D w w' :=
 ⟨b.os.trans a.os, b.tape.trans a.tape, b.output.trans a.output, Nat.le_trans a.size b.size, fun q hq hD => (b.block q (Nat.lt_of_lt_of_le hq a.size) (fun h9 => by rcases h q h9 with h8 | h8; exact hD h8; omega)).trans (a.block q hq hD)⟩
theorem Ft.deep (a : Ft D w m) (b : Below m.heap.size m w') : Ft D w w' :=
 ⟨b.os.trans a.os, b.tape.trans a.tape, b.output.trans a.output, Nat.le_trans a.size b.size, fun q hq hD => (b.block q (Nat.lt_of_lt_of_le hq a.size)).trans (a.block q hq hD)⟩
theorem Ft.blk {q : Nat} {t : TypeId} {cs : List Value} (a : Ft D w w') (hb : Blk w q t cs) (h : ¬ D q) : Blk w' q t cs := (a.block q hb.lt h).trans hb
theorem Ft.below {B : Nat} {v : World} (a : Ft D w w') (hb : Below B v w) (hB : B ≤ w.heap.size) (h : ∀ q, D q → B ≤ q) : Below B v w' :=
 ⟨a.os.trans hb.os, a.tape.trans hb.tape, a.output.trans hb.output, Nat.le_trans hb.size a.size, fun k hk => (a.block k (by omega) (fun h9 => by have := h k h9; omega)).trans (hb.block k hk)⟩
end

end Go.Proofs.Ytponmfkddglopaa

namespace Go.Proofs.Ytponmfkddglopaa
open Go.RowKit

def onC (x : Int × Vo) : List Value := .int .i64 x.1 :: Vo.cells x.2
def itC (i : Int) : List Value := [.int .i64 i]
def IsIn (w : World) (A : Option Addr) (k : Nat) (l : List Int) : Prop := Sl w 1 A k (l.map itC)
def OnIn (w : World) (A : Option Addr) (k : Nat) (l : Tl) : Prop := Sl w 35 A k (l.map onC) ∧ ∀ x ∈ l, x.2.dg.length = 32
section
variable {w w' : World} {A : Option Addr} {k B : Nat} {v : Value}
theorem IsIn.through {l : List Int} (h : IsIn w A k l) (hb : Below w.heap.size w w') : IsIn w' A k l := Sl.through h hb
theorem IsIn.len {l : List Int} (h : IsIn w A k l) : l.length = k := by simpa using Sl.len h
theorem IsIn.none_ : IsIn w none 0 [] := Sl.none_
theorem IsIn.at {l : List Int} (h : IsIn w A k l) {i : Nat} (hi : i < k) : ∃ g o x, A = some ⟨g, o, none⟩ ∧ l[i]? = some x ∧ l.drop i = x :: l.drop (i + 1) ∧ w.cell? ⟨g, o + i, none⟩ = some (.int .i64 x) := by
 obtain ⟨g, o, cs, e, h1, _, _, h4⟩ := Sl.at h hi
 have hl : i < l.length := by rw [h.len]; exact hi
 rw [List.getElem?_map, List.getElem?_eq_getElem hl] at h1
 simp only [Option.map_some, Option.some.injEq] at h1
 subst h1
 refine ⟨g, o, l[i], e, List.getElem?_eq_getElem hl, List.drop_eq_getElem_cons hl, ?_⟩
 have h9 := h4 0 _ rfl
 simpa using h9
theorem OnIn.through {l : Tl} (h : OnIn w A k l) (hb : Below w.heap.size w w') : OnIn w' A k l := ⟨h.1.through hb, h.2⟩
theorem OnIn.len {l : Tl} (h : OnIn w A k l) : l.length = k := by simpa using h.1.len
theorem OnIn.none_ : OnIn w none 0 [] := ⟨Sl.none_, fun _ h => nomatch h⟩
theorem OnIn.at {l : Tl} (h : OnIn w A k l) {i : Nat} (hi : i < k) : ∃ g o x, A = some ⟨g, o, none⟩ ∧ l[i]? = some x ∧ x ∈ l ∧ l.drop i = x :: l.drop (i + 1) ∧ x.2.dg.length = 32 ∧ w.rangeAt g (o + i * 35) (onC x) := by
 obtain ⟨g, o, cs, e, h1, _, _, h4⟩ := h.1.at hi
 have hl : i < l.length := by rw [h.len]; exact hi
 rw [List.getElem?_map, List.getElem?_eq_getElem hl] at h1
 simp only [Option.map_some, Option.some.injEq] at h1
 subst h1
 exact ⟨g, o, l[i], e, List.getElem?_eq_getElem hl, List.getElem_mem hl, List.drop_eq_getElem_cons hl, h.2 _ (List.getElem_mem hl), h4⟩
end
end Go.Proofs.Ytponmfkddglopaa
