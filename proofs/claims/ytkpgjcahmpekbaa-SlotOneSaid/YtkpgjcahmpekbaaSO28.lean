/-
  Joined: SlM.
-/
import Derived.Test.YtkpgjcahmpekbaaSO21
import Derived.Test.YtkpgjcahmpekbaaSO27
namespace Go.Proofs.Ytkpgjcahmpekbaa
open Go.RowKit

theorem eq_dgy (x y : List UInt8) (hx : x.length = 32) (hy : y.length = 32) (w : World) : (Op.equalIn 10000 27 (.agg (vs x).toArray) (.agg (vs y).toArray)).run Try.prog w = .ok (x == y) w := by
 obtain ⟨i, hi⟩ := Option.isSome_iff_exists.1 (show (Try.prog.info? 5).isSome = true by kernel_rfl)
 rw [show (10000 : Nat) = 9998 + 1 + 1 from rfl, run_equalIn_array w (9998 + 1) _ _ Try.underlying27 hi, show Try.prog.cellsOf 5 = 1 by kernel_rfl, List.range_eq_range', run_eqItems_bytes 9998 5 w Try.underlying5 x y 32 0 (by omega) (by omega)]
 rfl
def wdC (x : Int × List UInt8) : List Value := .int .i64 x.1 :: vs x.2
def dgZ : List UInt8 := List.replicate 32 0
def WdIn (w : World) (A : Option Addr) (k : Nat) (l : Wl) : Prop := Sl w 33 A k (l.map wdC) ∧ ∀ x ∈ l, x.2.length = 32
def OWd (w : World) (B : Nat) (v : Value) (l : Wl) : Prop := Os w B 138 33 v (l.map wdC) ∧ ∀ x ∈ l, x.2.length = 32
section
variable {w w' : World} {A : Option Addr} {k B : Nat} {v : Value}
theorem WdIn.through {l : Wl} (h : WdIn w A k l) (hb : Below w.heap.size w w') : WdIn w' A k l := ⟨h.1.through hb, h.2⟩
theorem WdIn.len {l : Wl} (h : WdIn w A k l) : l.length = k := by simpa using h.1.len
theorem WdIn.none_ : WdIn w none 0 [] := ⟨Sl.none_, fun _ h => nomatch h⟩
theorem WdIn.at {l : Wl} (h : WdIn w A k l) {i : Nat} (hi : i < k) : ∃ g o x, A = some ⟨g, o, none⟩ ∧ l[i]? = some x ∧ x ∈ l ∧ l.drop i = x :: l.drop (i + 1) ∧ x.2.length = 32 ∧ w.rangeAt g (o + i * 33) (wdC x) := by
 obtain ⟨g, o, cs, e, h1, _, _, h4⟩ := h.1.at hi
 have hl : i < l.length := by rw [h.len]; exact hi
 rw [List.getElem?_map, List.getElem?_eq_getElem hl] at h1
 simp only [Option.map_some, Option.some.injEq] at h1
 subst h1
 exact ⟨g, o, l[i], e, List.getElem?_eq_getElem hl, List.getElem_mem hl, List.drop_eq_getElem_cons hl, h.2 _ (List.getElem_mem hl), h4⟩
theorem OWd.through {l : Wl} (h : OWd w B v l) (hb : Below w.heap.size w w') : OWd w' B v l := ⟨h.1.through hb, h.2⟩
theorem OWd.nil (w : World) (B : Nat) : OWd w B (.slice none 0 0) [] := ⟨Os.nil _ _ _ _, fun _ h => nomatch h⟩
theorem OWd.weak {l : Wl} {B' : Nat} (h : OWd w B v l) (hB : B' ≤ B) : OWd w B' v l := ⟨h.1.weak hB, h.2⟩
theorem OWd.out {l : Wl} (h : OWd w B v l) : ∃ A c, v = .slice A l.length c ∧ l.length ≤ c ∧ c ≤ maxLen ∧ WdIn w A l.length l := by
 obtain ⟨A, c, e, hn, hm, hs⟩ := h.1.out
 rw [List.length_map] at e hn hs
 exact ⟨A, c, e, hn, hm, hs, h.2⟩
end
theorem osMade (w : World) (e : TypeId) (k : Nat) : Os (w.alloc (.cells #[] e)) w.heap.size e k (.slice (some ⟨w.heap.size, 0, none⟩) 0 0) [] :=
 ⟨World.ownsRow_made w #[] 0 (Nat.le_refl _) (by simp [maxLen]) (by simp), fun x hx => by cases hx⟩
/-- the slot's own cells -/
def slC (s : Slt) (b p c : Value) : List Value := .int .i64 s.n :: .bool s.has :: (vs s.dg ++ [b, p, c])
theorem cntW_cons (x : Int × List UInt8) (l : Wl) (d : List UInt8) : cntW (x :: l) d = (if (x.2 == d) = true then 1 else 0) + cntW l d := by
 unfold cntW
 cases h : x.2 == d <;> simp [h, Nat.add_comm]
theorem cntP_cons (x : Int × List UInt8) (l : Wl) (p : Int) (d : List UInt8) : cntP (x :: l) p d = (if (!(x.1 == p) && (x.2 == d)) = true then 1 else 0) + cntP l p d := by
 unfold cntP
 rw [List.filter_cons]
 cases h : (!(x.1 == p) && (x.2 == d)) <;> simp [Nat.add_comm]
theorem fltN_bd (n : Int) (h : n ≤ 300) : 0 ≤ fltN n ∧ fltN n ≤ 100 := by
 unfold fltN
 split <;> omega
theorem slC_b (s : Slt) (b p c : Value) (h : s.dg.length = 32) : (slC s b p c)[34]? = some b := by
 unfold slC
 rw [List.getElem?_cons_succ, List.getElem?_cons_succ, List.getElem?_append_right (by simp [vs, h])]
 simp [vs, h]
theorem slC_p (s : Slt) (b p c : Value) (h : s.dg.length = 32) : (slC s b p c)[35]? = some p := by
 unfold slC
 rw [List.getElem?_cons_succ, List.getElem?_cons_succ, List.getElem?_append_right (by simp [vs, h])]
 simp [vs, h]
theorem slC_c (s : Slt) (b p c : Value) (h : s.dg.length = 32) : (slC s b p c)[36]? = some c := by
 unfold slC
 rw [List.getElem?_cons_succ, List.getElem?_cons_succ, List.getElem?_append_right (by simp [vs, h])]
 simp [vs, h]
theorem slC_setB (s : Slt) (b p c v : Value) (l : List Ey) (h : s.dg.length = 32) : (slC s b p c).set 34 v = slC { s with es := l } v p c := by
 unfold slC
 rw [List.set_cons_succ, List.set_cons_succ, List.set_append_right _ _ (by simp [vs, h])]
 simp [vs, h]
theorem Try.agg_i21 (w : World) : (isAgg 3).run Try.prog w = .ok false w := by kernel_rfl
theorem slC_len (s : Slt) (b p c : Value) (h : s.dg.length = 32) : (slC s b p c).length = 37 := by simp [slC, vs, h]

end Go.Proofs.Ytkpgjcahmpekbaa
