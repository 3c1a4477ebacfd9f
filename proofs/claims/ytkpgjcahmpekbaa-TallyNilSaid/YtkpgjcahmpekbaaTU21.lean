/-
  Joined: TaM.
-/
import Derived.Test.YtkpgjcahmpekbaaTU20
import Derived.Test.YtkpgjcahmpekbaaTU14
namespace Go.Proofs.Ytkpgjcahmpekbaa
open Go.RowKit

def onC (x : Int × Vo) : List Value := .int .i64 x.1 :: Vo.cells x.2
theorem Try.el_is : El Try.prog 41 3 1 8 (.int .i64 0) := ⟨Try.underlying41, by kernel_rfl, rfl, by omega, by omega, by omega⟩
theorem Try.ix_is (W : World) (g o n c j : Nat) (hj : j < n) : (Instr.indexAt 41 (.slice (some ⟨g, o, none⟩) n c) (.int .i64 (j : Int))).run Try.prog W = .ok (.pointer (some ⟨g, o + j, none⟩)) W := by
 have h9 := Try.el_is.index (by kernel_rfl) W g o n c j hj
 simpa using h9
def itC (i : Int) : List Value := [.int .i64 i]
def IsIn (w : World) (A : Option Addr) (k : Nat) (l : List Int) : Prop := Sl w 1 A k (l.map itC)
def OnIn (w : World) (A : Option Addr) (k : Nat) (l : Tl) : Prop := Sl w 35 A k (l.map onC) ∧ ∀ x ∈ l, x.2.dg.length = 32
def OOn (w : World) (B : Nat) (v : Value) (l : Tl) : Prop := Os w B 92 35 v (l.map onC) ∧ ∀ x ∈ l, x.2.dg.length = 32
section
variable {w w' : World} {A : Option Addr} {k B : Nat} {v : Value}
theorem IsIn.through {l : List Int} (h : IsIn w A k l) (hb : Below w.heap.size w w') : IsIn w' A k l := Sl.through h hb
theorem IsIn.len {l : List Int} (h : IsIn w A k l) : l.length = k := by simpa using Sl.len h
theorem IsIn.none_ : IsIn w none 0 [] := Sl.none_
theorem IsIn.at {l : List Int} (h : IsIn w A k l) {i : Nat} (hi : i < k) : ∃ g o x, A = some ⟨g, o, none⟩ ∧ l[i]? = some x ∧ l.drop i = x :: l.drop (i + 1) ∧ w.cell? ⟨g, o + i, none⟩ = some (.int .i64 x) := by
 obtain ⟨g, o, cs, e, h1, _, _, h4⟩ := Sl.at h hi
 have hl : i < l.length := by rw [h.len]; exact hi
 rw [List.getElem?_map, List.getElem?_eq_getElem hl] at h1
 simp only [Option.map_some, Option.some.injEq] at h1
 subst h1
 refine ⟨g, o, l[i], e, List.getElem?_eq_getElem hl, List.drop_eq_getElem_cons hl, ?_⟩
 have h9 := h4 0 _ rfl
 simpa using h9
theorem OnIn.through {l : Tl} (h : OnIn w A k l) (hb : Below w.heap.size w w') : OnIn w' A k l := ⟨h.1.through hb, h.2⟩
theorem OnIn.len {l : Tl} (h : OnIn w A k l) : l.length = k := by simpa using h.1.len
theorem OnIn.none_ : OnIn w none 0 [] := ⟨Sl.none_, fun _ h => nomatch h⟩
theorem OnIn.at {l : Tl} (h : OnIn w A k l) {i : Nat} (hi : i < k) : ∃ g o x, A = some ⟨g, o, none⟩ ∧ l[i]? = some x ∧ x ∈ l ∧ l.drop i = x :: l.drop (i + 1) ∧ x.2.dg.length = 32 ∧ w.rangeAt g (o + i * 35) (onC x) := by
 obtain ⟨g, o, cs, e, h1, _, _, h4⟩ := h.1.at hi
 have hl : i < l.length := by rw [h.len]; exact hi
 rw [List.getElem?_map, List.getElem?_eq_getElem hl] at h1
 simp only [Option.map_some, Option.some.injEq] at h1
 subst h1
 exact ⟨g, o, l[i], e, List.getElem?_eq_getElem hl, List.getElem_mem hl, List.drop_eq_getElem_cons hl, h.2 _ (List.getElem_mem hl), h4⟩
theorem OOn.through {l : Tl} (h : OOn w B v l) (hb : Below w.heap.size w w') : OOn w' B v l := ⟨h.1.through hb, h.2⟩
theorem OOn.nil (w : World) (B : Nat) : OOn w B (.slice none 0 0) [] := ⟨Os.nil _ _ _ _, fun _ h => nomatch h⟩
theorem OOn.weak {l : Tl} {B' : Nat} (h : OOn w B v l) (hB : B' ≤ B) : OOn w B' v l := ⟨h.1.weak hB, h.2⟩
theorem OOn.out {l : Tl} (h : OOn w B v l) : ∃ A c, v = .slice A l.length c ∧ l.length ≤ c ∧ c ≤ maxLen ∧ OnIn w A l.length l := by
 obtain ⟨A, c, e, hn, hm, hs⟩ := h.1.out
 rw [List.length_map] at e hn hs
 exact ⟨A, c, e, hn, hm, hs, h.2⟩
end
end Go.Proofs.Ytkpgjcahmpekbaa
