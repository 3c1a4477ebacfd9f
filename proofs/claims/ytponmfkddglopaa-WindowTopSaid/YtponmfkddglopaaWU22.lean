/-
  Joined: SlM.
-/
import Derived.Test.YtponmfkddglopaaWU16
import Derived.Test.YtponmfkddglopaaWU21
namespace Go.Proofs.Ytponmfkddglopaa
open Go.RowKit

def wdC (x : Int × List UInt8) : List Value := .int .i64 x.1 :: vs x.2
def WdIn (w : World) (A : Option Addr) (k : Nat) (l : Wl) : Prop := Sl w 33 A k (l.map wdC) ∧ ∀ x ∈ l, x.2.length = 32
def OWd (w : World) (B : Nat) (v : Value) (l : Wl) : Prop := Os w B 72 33 v (l.map wdC) ∧ ∀ x ∈ l, x.2.length = 32
section
variable {w w' : World} {A : Option Addr} {k B : Nat} {v : Value}
theorem WdIn.through {l : Wl} (h : WdIn w A k l) (hb : Below w.heap.size w w') : WdIn w' A k l := ⟨h.1.through hb, h.2⟩
theorem WdIn.len {l : Wl} (h : WdIn w A k l) : l.length = k := by simpa using h.1.len
theorem WdIn.at {l : Wl} (h : WdIn w A k l) {i : Nat} (hi : i < k) : ∃ g o x, A = some ⟨g, o, none⟩ ∧ l[i]? = some x ∧ x ∈ l ∧ l.drop i = x :: l.drop (i + 1) ∧ x.2.length = 32 ∧ w.rangeAt g (o + i * 33) (wdC x) := by
 obtain ⟨g, o, cs, e, h1, _, _, h4⟩ := h.1.at hi
 have hl : i < l.length := by rw [h.len]; exact hi
 rw [List.getElem?_map, List.getElem?_eq_getElem hl] at h1
 simp only [Option.map_some, Option.some.injEq] at h1
 subst h1
 exact ⟨g, o, l[i], e, List.getElem?_eq_getElem hl, List.getElem_mem hl, List.drop_eq_getElem_cons hl, h.2 _ (List.getElem_mem hl), h4⟩
theorem OWd.through {l : Wl} (h : OWd w B v l) (hb : Below w.heap.size w w') : OWd w' B v l := ⟨h.1.through hb, h.2⟩
theorem OWd.nil (w : World) (B : Nat) : OWd w B (.slice none 0 0) [] := ⟨Os.nil _ _ _ _, fun _ h => nomatch h⟩
theorem OWd.weak {l : Wl} {B' : Nat} (h : OWd w B v l) (hB : B' ≤ B) : OWd w B' v l := ⟨h.1.weak hB, h.2⟩
theorem OWd.out {l : Wl} (h : OWd w B v l) : ∃ A c, v = .slice A l.length c ∧ l.length ≤ c ∧ c ≤ maxLen ∧ WdIn w A l.length l := by
 obtain ⟨A, c, e, hn, hm, hs⟩ := h.1.out
 rw [List.length_map] at e hn hs
 exact ⟨A, c, e, hn, hm, hs, h.2⟩
end
/-- the slot's own cells -/
def slC (s : Slt) (b p c : Value) : List Value := .int .i64 s.n :: .bool s.has :: (vs s.dg ++ [b, p, c])
end Go.Proofs.Ytponmfkddglopaa
