/-
  A cell of an element of a call's own slice is turned; where an endorsement goes, by plain functions. No walk here.
-/
import Derived.Test.YtgbobemhogeeeaaEnI
namespace Go.Proofs.Ytgbobemhogeeeaa
open Go.RowKit

theorem flat_set {α : Type} {k j : Nat} (u : α) : ∀ (rows : List (List α)) (i : Nat) (x : List α), (∀ r ∈ rows, r.length = k) → j < k → rows[i]? = some x → rows.flatten.set (i * k + j) u = (rows.set i (x.set j u)).flatten
  | [], i, x, _, _, h => by simp at h
  | r :: rows, 0, x, hl, hj, h => by
    have hx : r = x := by simpa using h
    subst hx
    have := hl r (List.mem_cons_self ..)
    rw [Nat.zero_mul, Nat.zero_add, List.flatten_cons, List.set_cons_zero, List.flatten_cons, List.set_append_left _ _ (by omega)]
  | r :: rows, i + 1, x, hl, hj, h => by
    have hr := hl r (List.mem_cons_self ..)
    have ih := flat_set u rows i x (fun q hq => hl q (List.mem_cons_of_mem _ hq)) hj (by simpa using h)
    rw [List.flatten_cons, List.set_cons_succ, List.flatten_cons, List.set_append_right _ _ (by rw [hr, Nat.add_mul]; omega), ← ih, hr]
    congr 2
    rw [Nat.add_mul]
    omega
/-- One cell of one element of an own slice is turned. -/
theorem Os.set_ {w : World} {B k : Nat} {e : TypeId} {v : Value} {rows : List (List Value)} {i j : Nat} {x : List Value} (h : Os w B e k v rows) (hx : rows[i]? = some x) (hj : j < k) :
    ∃ g cs, v.ownBlock = some g ∧ B ≤ g ∧ v = .slice (some ⟨g, 0, none⟩) rows.length (match v with | .slice _ _ c => c | _ => 0) ∧ Blk w g e cs ∧ i * k + j < cs.length ∧ ∀ (u : Value) (w' : World), Blk w' g e (cs.set (i * k + j) u) → Os w' B e k v (rows.set i (x.set j u)) := by
  have hi : i < rows.length := (List.getElem?_eq_some_iff.1 hx).1
  obtain ⟨⟨hl, h1⟩, h2⟩ := h
  rcases h1 with ⟨_, h1⟩ | ⟨g, cap, cur, rfl, hb, hg, hn, hm, hs, hc⟩
  · omega
  have hfl : i * k + j < rows.length * k := by
    have := Nat.mul_le_mul_right k (show i + 1 ≤ rows.length by omega)
    rw [Nat.add_mul] at this
    omega
  have hcl : rows.length * k ≤ cap * k := Nat.mul_le_mul_right k hn
  refine ⟨g, cur.toList, rfl, hb, rfl, hg, by rw [Array.length_toList]; omega, fun u w' hb' => ⟨⟨?_, .inr ⟨g, cap, (cur.toList.set (i * k + j) u).toArray, ?_, hb, hb', ?_, hm, ?_, ?_⟩⟩, ?_⟩⟩
  · rw [← flat_set u rows i x h2 hj hx, List.length_set, List.length_set, hl]
  · rw [List.length_set]
  · rw [List.length_set]; exact hn
  · simp [hs]
  · rw [← flat_set u rows i x h2 hj hx, ← hc, List.length_set, List.take_set]
  · intro r hr
    rcases List.mem_or_eq_of_mem_set hr with h9 | h9
    · exact h2 r h9
    · rw [h9, List.length_set]
      exact h2 x (List.mem_of_getElem? hx)
theorem enR_set {es : List En} {ss : List Pl} {i : Nat} {e : En} (p : Pl) (he : es[i]? = some e) : enR es (ss.set i p) = (enR es ss).set i (enC e p) := by
  unfold enR
  refine List.ext_getElem? fun m => ?_
  rw [List.getElem?_zipWith, List.getElem?_set]
  by_cases hm : i = m
  · subst hm
    rw [if_pos rfl, List.getElem?_set_self', List.getElem?_zipWith, he]
    by_cases hs : i < ss.length
    · rw [if_pos hs, List.getElem?_eq_getElem hs]
      rfl
    · rw [if_neg hs, List.getElem?_eq_none (by omega)]
      rfl
  · rw [if_neg hm, List.getElem?_set_ne hm, List.getElem?_zipWith]
theorem placeE_le (es : List En) (y : Int) : (placeE es y).1 ≤ es.length ∧ (placeE es y).2 ≤ es.length ∧ (placeE es y).1 ≤ (placeE es y).2 := by
  unfold placeE
  split
  · rename_i i h
    obtain ⟨_, x, hx, _⟩ := findIdx_of_some h
    have := (List.getElem?_eq_some_iff.1 hx).1
    exact ⟨by simp only; omega, by simp only; omega, by simp only; omega⟩
  · split
    · rename_i i h
      obtain ⟨_, x, hx, _⟩ := findIdx_of_some h
      have := (List.getElem?_eq_some_iff.1 hx).1
      exact ⟨by simp only; omega, by simp only; omega, Nat.le_refl _⟩
    · exact ⟨Nat.le_refl _, Nat.le_refl _, Nat.le_refl _⟩
/-- a request's endorsements with one more -/
def withE (es : List En) (x : En) : List En := es.take (placeE es x.og).1 ++ [x] ++ es.drop (placeE es x.og).2
theorem withE_len (es : List En) (x : En) : (withE es x).length ≤ es.length + 1 ∧ 0 < (withE es x).length := by
  have := placeE_le es x.og
  unfold withE
  simp only [List.length_append, List.length_take, List.length_drop, List.length_cons, List.length_nil]
  omega

end Go.Proofs.Ytgbobemhogeeeaa
