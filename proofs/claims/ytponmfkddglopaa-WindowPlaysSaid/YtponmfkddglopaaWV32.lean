/-
  Joined: WnP.
-/
import Derived.Test.YtponmfkddglopaaWV29
namespace Go.Proofs.Ytponmfkddglopaa
open Go.RowKit

abbrev Lw := List (Int × Slt)
structure Wn where
 n : Int
 low : Int
 sl : Lw
def Wn.no (n : Int) : Wn := ⟨n, 0, []⟩
/-- how many lie below -/
def befW (q : Int) : Lw → Nat
 | [] => 0
 | x :: l => if x.1 < q then befW q l + 1 else 0
def insW (q : Int) (s : Slt) : Lw → Lw
 | [] => [(q, s)]
 | x :: l => if x.1 < q then x :: insW q s l else if x.1 = q then x :: l else (q, s) :: x :: l
def dropW (low : Int) : Lw → Lw
 | [] => []
 | x :: l => if x.1 ≤ low then dropW low l else x :: l
/-- the slot of a number turned -/
def setW (q : Int) (s : Slt) (l : Lw) : Lw := l.map (fun x => if x.1 = q then (q, s) else x)
def seqW (l : Lw) : List Int := l.map Prod.fst
def RisW (l : Lw) : Prop := l.Pairwise (fun a b => a.1 < b.1)
/-- an index at which all before lie below, and its own doesn't, is it -/
theorem befW_is (q : Int) : ∀ (l : Lw) (i : Nat), i ≤ l.length → (∀ j x, j < i → l[j]? = some x → x.1 < q) → (∀ x, l[i]? = some x → ¬ x.1 < q) → befW q l = i
 | [], i, hi, _, _ => by unfold befW; simp at hi; omega
 | y :: l, i, hi, h1, h2 => by
  unfold befW
  cases i with
  | zero => rw [if_neg (h2 y rfl)]
  | succ i =>
   rw [if_pos (h1 0 y (Nat.succ_pos _) rfl), befW_is q l i (by simpa using hi) (fun j x hj hx => h1 (j + 1) x (by omega) (by simpa using hx)) (fun x hx => h2 x (by simpa using hx))]
theorem insW_split (q : Int) (s : Slt) : ∀ l : Lw, (∀ x, l[befW q l]? = some x → x.1 ≠ q) → insW q s l = l.take (befW q l) ++ (q, s) :: l.drop (befW q l)
 | [], _ => rfl
 | y :: l, h => by
  unfold insW befW
  unfold befW at h
  by_cases hy : y.1 < q
  ·rw [if_pos hy] at h ⊢
   rw [if_pos hy, List.take_succ_cons, List.drop_succ_cons, List.cons_append, insW_split q s l (fun x hx => h x (by simpa using hx))]
  ·rw [if_neg hy] at h ⊢
   rw [if_neg hy, if_neg (h y rfl)]
   rfl
theorem insW_there (q : Int) (s : Slt) : ∀ l : Lw, (∃ x, l[befW q l]? = some x ∧ x.1 = q) → insW q s l = l
 | [], ⟨x, h, _⟩ => by simp at h
 | y :: l, ⟨x, h, he⟩ => by
  unfold insW
  unfold befW at h
  by_cases hy : y.1 < q
  ·rw [if_pos hy] at h ⊢
   rw [insW_there q s l ⟨x, by simpa using h, he⟩]
  ·rw [if_neg hy] at h ⊢
   have e : y = x := by simpa using h
   rw [if_pos (by rw [e]; exact he)]
theorem insW_mem {q : Int} {s : Slt} {y : Int × Slt} : ∀ {l : Lw}, y ∈ insW q s l → y = (q, s) ∨ y ∈ l
 | [], h => .inl (List.mem_singleton.1 h)
 | x :: l, h => by
  unfold insW at h
  split at h
  ·rcases List.mem_cons.1 h with h | h
   ·exact .inr (by rw [h]; exact List.mem_cons_self ..)
   ·exact (insW_mem h).imp id (List.mem_cons_of_mem _)
  ·split at h
   ·exact .inr h
   ·exact List.mem_cons.1 h
theorem insW_ris {q : Int} {s : Slt} : ∀ {l : Lw}, RisW l → RisW (insW q s l)
 | [], _ => List.pairwise_singleton ..
 | x :: l, h => by
  have h1 := (List.pairwise_cons.1 h).1
  have h2 := (List.pairwise_cons.1 h).2
  unfold insW
  split
  ·rename_i hx
   refine List.pairwise_cons.2 ⟨fun y hy => ?_, insW_ris h2⟩
   rcases insW_mem hy with rfl | hy
   ·exact hx
   ·exact h1 y hy
  ·split
   ·exact h
   ·refine List.pairwise_cons.2 ⟨fun y hy => ?_, h⟩
    rcases List.mem_cons.1 hy with rfl | hy
    ·show q < y.1; omega
    ·have := h1 y hy; show q < y.1; omega
theorem dropW_sub (low : Int) : ∀ l : Lw, (dropW low l).Sublist l
 | [] => List.Sublist.refl _
 | x :: l => by
  unfold dropW
  split
  ·exact (dropW_sub low l).cons x
  ·exact List.Sublist.refl _
theorem dropW_ris {low : Int} {l : Lw} (h : RisW l) : RisW (dropW low l) := h.sublist (dropW_sub low l)
theorem setW_seq (q : Int) (s : Slt) (l : Lw) : seqW (setW q s l) = seqW l := by
 unfold seqW setW
 rw [List.map_map]
 refine List.map_congr_left fun x _ => ?_
 show (if x.1 = q then (q, s) else x).1 = x.1
 split
 ·rename_i h; exact h.symm
 ·rfl
theorem setW_ris {q : Int} {s : Slt} {l : Lw} (h : RisW l) : RisW (setW q s l) := by
 have h1 : (seqW l).Pairwise (· < ·) := by
  unfold seqW
  rw [List.pairwise_map]
  exact h
 rw [← setW_seq q s l] at h1
 unfold seqW at h1
 rw [List.pairwise_map] at h1
 exact h1
/-- no more than eight whole numbers above the mark -/
theorem ris_few {low : Int} : ∀ {l : Lw} (k : Nat) (hi : Int), RisW l → (∀ x ∈ l, hi - k < x.1 ∧ x.1 ≤ hi) → l.length ≤ k
 | [], _, _, _, _ => Nat.zero_le _
 | x :: l, k, hi, h, hb => by
  have h1 := (List.pairwise_cons.1 h).1
  have h2 := (List.pairwise_cons.1 h).2
  have hx := hb x (List.mem_cons_self ..)
  cases k with
  | zero => have h3 := hx.1; have h4 := hx.2; simp at h3; omega
  | succ k =>
   have := ris_few (low := low) k hi h2 (fun y hy => by
    have h5 := h1 y hy
    have h6 := hb y (List.mem_cons_of_mem _ hy)
    refine ⟨?_, h6.2⟩
    have h7 := hx.1
    push_cast at h7
    omega)
   simp; omega

end Go.Proofs.Ytponmfkddglopaa
