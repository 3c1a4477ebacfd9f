/-
  Joined: WlP.
-/
import Derived.Test.YtponmfkddglopaaWU41
import Derived.Test.YtponmfkddglopaaWU43
namespace Go.Proofs.Ytponmfkddglopaa
open Go.RowKit

theorem dropW_filter {q : Int} : ∀ {l : Lw}, RisW l → dropW q l = l.filter fun x => decide (q < x.1)
 | [], _ => rfl
 | x :: l, hr => by
  have h1 := (List.pairwise_cons.1 hr).1
  have h2 := (List.pairwise_cons.1 hr).2
  unfold dropW
  rw [List.filter_cons]
  by_cases hx : x.1 ≤ q
  ·rw [if_pos hx, dropW_filter h2, decide_eq_false (by omega)]
   rfl
  ·rw [if_neg hx, decide_eq_true (by omega), if_pos rfl, List.filter_eq_self.2 (fun y hy => by have := h1 y hy; simp; omega)]
/-- what is known of a log's slots after k acts -/
structure WkOk (n low : Int) (l : Lw) (k : Nat) : Prop where
 ris : RisW l
 bd : ∀ x ∈ l, low < x.1 ∧ x.1 ≤ low + 8
 sl : ∀ x ∈ l, x.2.n = n ∧ x.2.pr.length ≤ k ∧ x.2.cm.length = 0 ∧ x.2.es.length = 0
section
variable {n low : Int} {l : Lw} {k : Nat}
theorem WkOk.nil (n low : Int) (k : Nat) : WkOk n low [] k := ⟨List.Pairwise.nil, (fun _ h => nomatch h), (fun _ h => nomatch h)⟩
theorem WkOk.len (h : WkOk n low l k) : l.length ≤ 8 := ris_few (low := low) 8 (low + 8) h.ris (fun x hx => by have := h.bd x hx; omega)
theorem voteW_len (n : Int) (l : Wl) (who : Int) (d : List UInt8) : (voteW n l who d).length ≤ l.length + 1 := by
 unfold voteW
 split <;> simp
theorem WkOk.mono {k' : Nat} (h : WkOk n low l k) (hk : k ≤ k') : WkOk n low l k' := ⟨h.ris, h.bd, fun x hx => by obtain ⟨a, b, c, d⟩ := h.sl x hx; exact ⟨a, Nat.le_trans b hk, c, d⟩⟩
theorem WkOk.set {q : Int} {s : Slt} (h : WkOk n low l k) (hs : (q, s) ∈ l) (who : Int) (d : List UInt8) : WkOk n low (setW q (prepS s who d).1 l) (k + 1) := by
 refine ⟨setW_ris h.ris, fun x hx => ?_, fun x hx => ?_⟩
 ·obtain ⟨y, hy, rfl⟩ := List.mem_map.1 hx
  split
  ·exact h.bd (q, s) hs
  ·exact h.bd y hy
 ·obtain ⟨y, hy, rfl⟩ := List.mem_map.1 hx
  split
  ·obtain ⟨a, b, c, e⟩ := h.sl _ hs
   exact ⟨a, Nat.le_trans (voteW_len ..) (Nat.succ_le_succ b), c, e⟩
  ·obtain ⟨a, b, c, e⟩ := h.sl y hy
   exact ⟨a, Nat.le_succ_of_le b, c, e⟩
theorem WkOk.drop {q : Int} (h : WkOk n low l k) (hq : low ≤ q) : WkOk n q (dropW q l) k := by
 have hs := dropW_sub q l
 refine ⟨dropW_ris h.ris, fun x hx => ⟨?_, ?_⟩, fun x hx => h.sl x (hs.subset hx)⟩
 ·rw [dropW_filter h.ris] at hx
  simpa using (List.mem_filter.1 hx).2
 ·have := (h.bd x (hs.subset hx)).2
  omega
end

end Go.Proofs.Ytponmfkddglopaa
