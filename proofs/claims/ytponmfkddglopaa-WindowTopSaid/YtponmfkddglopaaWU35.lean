/-
  Joined: WnP.
-/
import Derived.Test.YtponmfkddglopaaWU32
namespace Go.Proofs.Ytponmfkddglopaa
open Go.RowKit

abbrev Lw := List (Int × Slt)
structure Wn where
 n : Int
 low : Int
 sl : Lw
def Wn.no (n : Int) : Wn := ⟨n, 0, []⟩
def dropW (low : Int) : Lw → Lw
 | [] => []
 | x :: l => if x.1 ≤ low then dropW low l else x :: l
/-- the slot of a number turned -/
def setW (q : Int) (s : Slt) (l : Lw) : Lw := l.map (fun x => if x.1 = q then (q, s) else x)
def seqW (l : Lw) : List Int := l.map Prod.fst
def RisW (l : Lw) : Prop := l.Pairwise (fun a b => a.1 < b.1)
theorem dropW_sub (low : Int) : ∀ l : Lw, (dropW low l).Sublist l
 | [] => List.Sublist.refl _
 | x :: l => by
  unfold dropW
  split
  ·exact (dropW_sub low l).cons x
  ·exact List.Sublist.refl _
theorem dropW_ris {low : Int} {l : Lw} (h : RisW l) : RisW (dropW low l) := h.sublist (dropW_sub low l)
theorem setW_seq (q : Int) (s : Slt) (l : Lw) : seqW (setW q s l) = seqW l := by
 unfold seqW setW
 rw [List.map_map]
 refine List.map_congr_left fun x _ => ?_
 show (if x.1 = q then (q, s) else x).1 = x.1
 split
 ·rename_i h; exact h.symm
 ·rfl
theorem setW_ris {q : Int} {s : Slt} {l : Lw} (h : RisW l) : RisW (setW q s l) := by
 have h1 : (seqW l).Pairwise (· < ·) := by
  unfold seqW
  rw [List.pairwise_map]
  exact h
 rw [← setW_seq q s l] at h1
 unfold seqW at h1
 rw [List.pairwise_map] at h1
 exact h1
/-- no more than eight whole numbers above the mark -/
theorem ris_few {low : Int} : ∀ {l : Lw} (k : Nat) (hi : Int), RisW l → (∀ x ∈ l, hi - k < x.1 ∧ x.1 ≤ hi) → l.length ≤ k
 | [], _, _, _, _ => Nat.zero_le _
 | x :: l, k, hi, h, hb => by
  have h1 := (List.pairwise_cons.1 h).1
  have h2 := (List.pairwise_cons.1 h).2
  have hx := hb x (List.mem_cons_self ..)
  cases k with
  | zero => have h3 := hx.1; have h4 := hx.2; simp at h3; omega
  | succ k =>
   have := ris_few (low := low) k hi h2 (fun y hy => by
    have h5 := h1 y hy
    have h6 := hb y (List.mem_cons_of_mem _ hy)
    refine ⟨?_, h6.2⟩
    have h7 := hx.1
    push_cast at h7
    omega)
   simp; omega

end Go.Proofs.Ytponmfkddglopaa
