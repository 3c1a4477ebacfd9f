/-
  Joined: TaM.
-/
import Derived.Test.YtponmfkddglopaaWU19
import Derived.Test.YtponmfkddglopaaWU20
namespace Go.Proofs.Ytponmfkddglopaa
open Go.RowKit

def onC (x : Int × Vo) : List Value := .int .i64 x.1 :: Vo.cells x.2
def itC (i : Int) : List Value := [.int .i64 i]
def IsIn (w : World) (A : Option Addr) (k : Nat) (l : List Int) : Prop := Sl w 1 A k (l.map itC)
def OnIn (w : World) (A : Option Addr) (k : Nat) (l : Tl) : Prop := Sl w 35 A k (l.map onC) ∧ ∀ x ∈ l, x.2.dg.length = 32
section
variable {w w' : World} {A : Option Addr} {k B : Nat} {v : Value}
theorem IsIn.through {l : List Int} (h : IsIn w A k l) (hb : Below w.heap.size w w') : IsIn w' A k l := Sl.through h hb
theorem IsIn.len {l : List Int} (h : IsIn w A k l) : l.length = k := by simpa using Sl.len h
theorem IsIn.at {l : List Int} (h : IsIn w A k l) {i : Nat} (hi : i < k) : ∃ g o x, A = some ⟨g, o, none⟩ ∧ l[i]? = some x ∧ l.drop i = x :: l.drop (i + 1) ∧ w.cell? ⟨g, o + i, none⟩ = some (.int .i64 x) := by
 obtain ⟨g, o, cs, e, h1, _, _, h4⟩ := Sl.at h hi
 have hl : i < l.length := by rw [h.len]; exact hi
 rw [List.getElem?_map, List.getElem?_eq_getElem hl] at h1
 simp only [Option.map_some, Option.some.injEq] at h1
 subst h1
 refine ⟨g, o, l[i], e, List.getElem?_eq_getElem hl, List.drop_eq_getElem_cons hl, ?_⟩
 have h9 := h4 0 _ rfl
 simpa using h9
theorem OnIn.through {l : Tl} (h : OnIn w A k l) (hb : Below w.heap.size w w') : OnIn w' A k l := ⟨h.1.through hb, h.2⟩
theorem OnIn.len {l : Tl} (h : OnIn w A k l) : l.length = k := by simpa using h.1.len
theorem OnIn.at {l : Tl} (h : OnIn w A k l) {i : Nat} (hi : i < k) : ∃ g o x, A = some ⟨g, o, none⟩ ∧ l[i]? = some x ∧ x ∈ l ∧ l.drop i = x :: l.drop (i + 1) ∧ x.2.dg.length = 32 ∧ w.rangeAt g (o + i * 35) (onC x) := by
 obtain ⟨g, o, cs, e, h1, _, _, h4⟩ := h.1.at hi
 have hl : i < l.length := by rw [h.len]; exact hi
 rw [List.getElem?_map, List.getElem?_eq_getElem hl] at h1
 simp only [Option.map_some, Option.some.injEq] at h1
 subst h1
 exact ⟨g, o, l[i], e, List.getElem?_eq_getElem hl, List.getElem_mem hl, List.drop_eq_getElem_cons hl, h.2 _ (List.getElem_mem hl), h4⟩
end
end Go.Proofs.Ytponmfkddglopaa
