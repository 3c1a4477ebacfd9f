/-
  Joined: SlP, TaP, TaM, SlM, TwK.
-/
import Derived.BigQuiet
import Derived.Test.YtpolofehkckaoaaUH8
import Derived.Test.YtpolofehkckaoaaUH12
import Derived.Test.YtpolofehkckaoaaUH10
import Derived.Test.YtpolofehkckaoaaUH5
import Derived.Test.YtpolofehkckaoaaUH13
import Derived.Test.YtpolofehkckaoaaUH29
namespace Go.Proofs.Ytpolofehkckaoaa
open Go.RowKit

abbrev Wl := List (Int × List UInt8)
structure Slt where
 n : Int
 has : Bool
 dg : List UInt8
 es : List Ey
 pr : Wl
 cm : Wl
end Go.Proofs.Ytpolofehkckaoaa

namespace Go.Proofs.Ytpolofehkckaoaa
open Go.RowKit

def Vo.eqb (a b : Vo) : Bool := (a.vw == b.vw) && (a.sq == b.sq) && (a.dg == b.dg)
theorem Vo.eqb_iff {a b : Vo} : a.eqb b = true ↔ a = b := by
 obtain ⟨a1, a2, a3⟩ := a
 obtain ⟨b1, b2, b3⟩ := b
 simp [Vo.eqb, and_assoc]
abbrev Tl := List (Int × Vo)
end Go.Proofs.Ytpolofehkckaoaa

namespace Go.Proofs.Ytpolofehkckaoaa
open Go.RowKit

def onC (x : Int × Vo) : List Value := .int .i64 x.1 :: Vo.cells x.2
def itC (i : Int) : List Value := [.int .i64 i]
def IsIn (w : World) (A : Option Addr) (k : Nat) (l : List Int) : Prop := Sl w 1 A k (l.map itC)
def OnIn (w : World) (A : Option Addr) (k : Nat) (l : Tl) : Prop := Sl w 35 A k (l.map onC) ∧ ∀ x ∈ l, x.2.dg.length = 32
section
variable {w w' : World} {A : Option Addr} {k B : Nat} {v : Value}
theorem IsIn.through {l : List Int} (h : IsIn w A k l) (hb : Below w.heap.size w w') : IsIn w' A k l := Sl.through h hb
theorem IsIn.len {l : List Int} (h : IsIn w A k l) : l.length = k := by simpa using Sl.len h
theorem IsIn.none_ : IsIn w none 0 [] := Sl.none_
theorem IsIn.at {l : List Int} (h : IsIn w A k l) {i : Nat} (hi : i < k) : ∃ g o x, A = some ⟨g, o, none⟩ ∧ l[i]? = some x ∧ l.drop i = x :: l.drop (i + 1) ∧ w.cell? ⟨g, o + i, none⟩ = some (.int .i64 x) := by
 obtain ⟨g, o, cs, e, h1, _, _, h4⟩ := Sl.at h hi
 have hl : i < l.length := by rw [h.len]; exact hi
 rw [List.getElem?_map, List.getElem?_eq_getElem hl] at h1
 simp only [Option.map_some, Option.some.injEq] at h1
 subst h1
 refine ⟨g, o, l[i], e, List.getElem?_eq_getElem hl, List.drop_eq_getElem_cons hl, ?_⟩
 have h9 := h4 0 _ rfl
 simpa using h9
theorem OnIn.through {l : Tl} (h : OnIn w A k l) (hb : Below w.heap.size w w') : OnIn w' A k l := ⟨h.1.through hb, h.2⟩
theorem OnIn.len {l : Tl} (h : OnIn w A k l) : l.length = k := by simpa using h.1.len
theorem OnIn.none_ : OnIn w none 0 [] := ⟨Sl.none_, fun _ h => nomatch h⟩
theorem OnIn.at {l : Tl} (h : OnIn w A k l) {i : Nat} (hi : i < k) : ∃ g o x, A = some ⟨g, o, none⟩ ∧ l[i]? = some x ∧ x ∈ l ∧ l.drop i = x :: l.drop (i + 1) ∧ x.2.dg.length = 32 ∧ w.rangeAt g (o + i * 35) (onC x) := by
 obtain ⟨g, o, cs, e, h1, _, _, h4⟩ := h.1.at hi
 have hl : i < l.length := by rw [h.len]; exact hi
 rw [List.getElem?_map, List.getElem?_eq_getElem hl] at h1
 simp only [Option.map_some, Option.some.injEq] at h1
 subst h1
 exact ⟨g, o, l[i], e, List.getElem?_eq_getElem hl, List.getElem_mem hl, List.drop_eq_getElem_cons hl, h.2 _ (List.getElem_mem hl), h4⟩
end
end Go.Proofs.Ytpolofehkckaoaa

namespace Go.Proofs.Ytpolofehkckaoaa
open Go.RowKit

def wdC (x : Int × List UInt8) : List Value := .int .i64 x.1 :: vs x.2
def WdIn (w : World) (A : Option Addr) (k : Nat) (l : Wl) : Prop := Sl w 33 A k (l.map wdC) ∧ ∀ x ∈ l, x.2.length = 32
section
variable {w w' : World} {A : Option Addr} {k B : Nat} {v : Value}
theorem WdIn.through {l : Wl} (h : WdIn w A k l) (hb : Below w.heap.size w w') : WdIn w' A k l := ⟨h.1.through hb, h.2⟩
theorem WdIn.len {l : Wl} (h : WdIn w A k l) : l.length = k := by simpa using h.1.len
theorem WdIn.none_ : WdIn w none 0 [] := ⟨Sl.none_, fun _ h => nomatch h⟩
theorem WdIn.at {l : Wl} (h : WdIn w A k l) {i : Nat} (hi : i < k) : ∃ g o x, A = some ⟨g, o, none⟩ ∧ l[i]? = some x ∧ x ∈ l ∧ l.drop i = x :: l.drop (i + 1) ∧ x.2.length = 32 ∧ w.rangeAt g (o + i * 33) (wdC x) := by
 obtain ⟨g, o, cs, e, h1, _, _, h4⟩ := h.1.at hi
 have hl : i < l.length := by rw [h.len]; exact hi
 rw [List.getElem?_map, List.getElem?_eq_getElem hl] at h1
 simp only [Option.map_some, Option.some.injEq] at h1
 subst h1
 exact ⟨g, o, l[i], e, List.getElem?_eq_getElem hl, List.getElem_mem hl, List.drop_eq_getElem_cons hl, h.2 _ (List.getElem_mem hl), h4⟩
end
end Go.Proofs.Ytpolofehkckaoaa

namespace Go.Proofs.Ytpolofehkckaoaa
open Go.RowKit

instance : DecidableEq Vo := fun a b => decidable_of_iff (a.eqb b = true) Vo.eqb_iff
end Go.Proofs.Ytpolofehkckaoaa
