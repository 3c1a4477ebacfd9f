/-
  Joined: TpP.
-/
import Derived.Test.YtkpgjcahmpekbaaTU25
import Derived.Test.YtkpgjcahmpekbaaTU20
namespace Go.Proofs.Ytkpgjcahmpekbaa
open Go.RowKit

def insS (who : Int) (v : Vo) : Tl → Tl
 | [] => [(who, v)]
 | x :: l => if who < x.1 then (who, v) :: x :: l else if x.1 = who then (who, v) :: l else x :: insS who v l
def Ris (l : Tl) : Prop := l.Pairwise (fun a b => a.1 < b.1)
theorem chGo_true {who : Int} {v : Vo} : ∀ {l : Tl} {out : Tl}, (∀ x ∈ l, x.1 ≠ who) → chGo who v l true out = out ++ l
 | [], out, _ => by simp [chGo]
 | x :: l, out, h => by
  unfold chGo
  rw [if_neg (fun h9 => by cases h9.1), if_neg (h x (List.mem_cons_self ..)), chGo_true (fun y hy => h y (List.mem_cons_of_mem _ hy))]
  simp
theorem chGo_false {who : Int} {v : Vo} : ∀ {l : Tl} {out : Tl}, Ris l → chGo who v l false out = out ++ insS who v l
 | [], out, _ => by simp [chGo, insS]
 | x :: l, out, h => by
  have h1 := (List.pairwise_cons.1 h).1
  have h2 := (List.pairwise_cons.1 h).2
  unfold chGo insS
  by_cases hx : who ≤ x.1
  ·rw [if_pos ⟨rfl, hx⟩]
   by_cases he : x.1 = who
   ·rw [if_pos he, if_neg (by omega), if_pos he, chGo_true (fun y hy => by have := h1 y hy; omega)]
    simp
   ·rw [if_neg he, if_pos (by omega), chGo_true (fun y hy => by have := h1 y hy; omega)]
    simp
  ·rw [if_neg (fun h9 => hx h9.2), if_neg (by omega), if_neg (by omega), if_neg (by omega), chGo_false h2]
   simp
theorem chL_ins {who : Int} {v : Vo} {l : Tl} (h : Ris l) : chL l who v = insS who v l := by
 unfold chL
 rw [chGo_false h]
 rfl
theorem ins_mem {who : Int} {v : Vo} {y : Int × Vo} : ∀ {l : Tl}, y ∈ insS who v l → y = (who, v) ∨ y ∈ l
 | [], h => .inl (List.mem_singleton.1 h)
 | x :: l, h => by
  unfold insS at h
  split at h
  ·exact List.mem_cons.1 h
  ·split at h
   ·rcases List.mem_cons.1 h with h | h
    ·exact .inl h
    ·exact .inr (List.mem_cons_of_mem _ h)
   ·rcases List.mem_cons.1 h with h | h
    ·exact .inr (by rw [h]; exact List.mem_cons_self ..)
    ·exact (ins_mem h).imp id (List.mem_cons_of_mem _)
theorem ins_ris {who : Int} {v : Vo} : ∀ {l : Tl}, Ris l → Ris (insS who v l)
 | [], _ => List.pairwise_singleton ..
 | x :: l, h => by
  have h1 := (List.pairwise_cons.1 h).1
  have h2 := (List.pairwise_cons.1 h).2
  unfold insS
  split
  ·rename_i hlt
   refine List.pairwise_cons.2 ⟨fun y hy => ?_, h⟩
   rcases List.mem_cons.1 hy with rfl | hy
   ·exact hlt
   ·have := h1 y hy; simp only; omega
  ·split
   ·rename_i _ he
    exact List.pairwise_cons.2 ⟨fun y hy => by have := h1 y hy; simp only; omega, h2⟩
   ·refine List.pairwise_cons.2 ⟨fun y hy => ?_, ins_ris h2⟩
    rcases ins_mem hy with rfl | hy
    ·simp only; omega
    ·exact h1 y hy
theorem of_ins {who q : Int} {v : Vo} : ∀ {l : Tl}, Ris l → ofL (insS who v l) q = if q = who then some v else ofL l q
 | [], _ => by
  unfold insS ofL ofL
  by_cases h : q = who
  ·rw [if_pos h, if_pos h.symm]
  ·rw [if_neg h, if_neg (fun e => h e.symm)]
 | x :: l, h => by
  have h1 := (List.pairwise_cons.1 h).1
  have h2 := (List.pairwise_cons.1 h).2
  unfold insS
  split
  ·rename_i hlt
   show (if who = q then some v else ofL (x :: l) q) = _
   by_cases hq : q = who
   ·rw [if_pos hq, if_pos hq.symm]
   ·rw [if_neg hq, if_neg (fun e => hq e.symm)]
  ·split
   ·rename_i _ he
    show (if who = q then some v else ofL l q) = _
    by_cases hq : q = who
    ·rw [if_pos hq, if_pos hq.symm]
    ·rw [if_neg hq, if_neg (fun e => hq e.symm)]
     unfold ofL
     rw [if_neg (by omega)]
     cases l <;> rfl
   ·rename_i _ hne
    show (if x.1 = q then some x.2 else ofL (insS who v l) q) = _
    by_cases hx : x.1 = q
    ·rw [if_pos hx, if_neg (by omega)]
     unfold ofL
     rw [if_pos hx]
    ·rw [if_neg hx, of_ins h2]
     split
     ·rfl
     ·conv => rhs; unfold ofL
      rw [if_neg hx]
/-- the document's votes are the same as these -/
structure Rep (R : Tl) (M : List (Int × Vo)) : Prop where
 ris : Ris R
 eq : ∀ q, ofL R q = getM q M
 nd : (M.map Prod.fst).Nodup
theorem Rep.nil : Rep [] [] := ⟨List.Pairwise.nil, fun _ => rfl, List.nodup_nil⟩
theorem Rep.put {R : Tl} {M : List (Int × Vo)} (h : Rep R M) (who : Int) (v : Vo) : Rep (chL R who v) (putM who v M) := by
 rw [chL_ins h.ris]
 exact ⟨ins_ris h.ris, fun q => by rw [of_ins h.ris, get_putM, h.eq], nodup_putM h.nd⟩
theorem getM_none_iff {κ : Type} {q : Int} : ∀ {M : List (Int × κ)}, getM q M = none ↔ q ∉ M.map Prod.fst
 | [] => by simp [getM]
 | p :: l => by
  unfold getM
  rw [List.map_cons, List.mem_cons]
  by_cases h : q = p.1
  ·simp [h]
  ·rw [if_neg h, getM_none_iff]
   simp [h]
theorem ofL_none_iff {q : Int} : ∀ {R : Tl}, ofL R q = none ↔ q ∉ R.map Prod.fst
 | [] => by simp [ofL]
 | p :: l => by
  unfold ofL
  rw [List.map_cons, List.mem_cons]
  by_cases h : p.1 = q
  ·simp [h]
  ·rw [if_neg h, ofL_none_iff]
   have : ¬ q = p.1 := fun e => h e.symm
   simp [this]
theorem Ris.nd {R : Tl} (h : Ris R) : (R.map Prod.fst).Nodup := by
 rw [List.nodup_iff_pairwise_ne, List.pairwise_map]
 exact h.imp (fun h9 => by omega)
theorem Rep.perm {R : Tl} {M : List (Int × Vo)} (h : Rep R M) : (R.map Prod.fst).Perm (M.map Prod.fst) := by
 refine (List.perm_ext_iff_of_nodup h.ris.nd h.nd).2 fun q => ?_
 have h1 := ofL_none_iff (q := q) (R := R)
 have h2 := getM_none_iff (q := q) (M := M)
 rw [h.eq q] at h1
 exact Decidable.not_iff_not.1 (h1.symm.trans h2)
theorem Rep.keys {R : Tl} {M : List (Int × Vo)} (h : Rep R M) : R.map Prod.fst = sKeys M := by
 unfold sKeys
 rw [← mergeSort_of_perm_i h.perm]
 symm
 refine List.mergeSort_of_pairwise (le := leI) ?_
 rw [List.pairwise_map]
 exact h.ris.imp (fun h9 => by simp only [leI, decide_eq_true_eq]; omega)
theorem Rep.len {R : Tl} {M : List (Int × Vo)} (h : Rep R M) : R.length = M.length := by
 have := h.perm.length_eq
 simpa using this
theorem of_self : ∀ {R : Tl}, Ris R → ∀ x ∈ R, ofL R x.1 = some x.2
 | y :: l, h, x, hx => by
  have h1 := (List.pairwise_cons.1 h).1
  unfold ofL
  rcases List.mem_cons.1 hx with rfl | hx
  ·rw [if_pos rfl]
  ·rw [if_neg (by have := h1 x hx; omega)]
   exact of_self (List.pairwise_cons.1 h).2 x hx
/-- those of these who vote so, as the program goes by them -/
def whoG {κ : Type} [DecidableEq κ] (M : List (Int × κ)) (z k : κ) : List Int → List Int
 | [] => []
 | a :: r => if (getM a M).getD z = k then a :: whoG M z k r else whoG M z k r
/-- the first of these whose vote enough share -/
def leastM {κ : Type} [DecidableEq κ] (M : List (Int × κ)) (z : κ) (at_ : Int) : List Int → Option κ
 | [] => none
 | a :: r => if at_ ≤ (cntM ((getM a M).getD z) M : Int) then some ((getM a M).getD z) else leastM M z at_ r
theorem who_go {M : List (Int × Vo)} (k : Vo) : ∀ (R : Tl), (∀ x ∈ R, getM x.1 M = some x.2) → whoL R k = whoG M voZ k (R.map Prod.fst)
 | [], _ => rfl
 | x :: R, h => by
  have h1 := h x (List.mem_cons_self ..)
  have ih := who_go k R (fun y hy => h y (List.mem_cons_of_mem _ hy))
  unfold whoL at ih ⊢
  rw [List.map_cons]
  unfold whoG
  rw [List.filter_cons, h1, Option.getD_some]
  by_cases he : x.2 = k
  ·rw [if_pos (Vo.eqb_iff.2 he), if_pos he, List.map_cons, ih]
  ·rw [if_neg (fun e => he (Vo.eqb_iff.1 e)), if_neg he, ih]
theorem Rep.mem {R : Tl} {M : List (Int × Vo)} (h : Rep R M) : ∀ x ∈ R, getM x.1 M = some x.2 := fun x hx => by rw [← h.eq]; exact of_self h.ris x hx
theorem Rep.who {R : Tl} {M : List (Int × Vo)} (h : Rep R M) (k : Vo) : whoL R k = whoG M voZ k (sKeys M) := by
 rw [who_go k R h.mem, h.keys]
/-- what enough vote for -/
def leastT {κ : Type} [DecidableEq κ] (M : List (Int × κ)) (z : κ) (at_ : Int) : Option κ := if at_ < 1 then none else leastM M z at_ (sKeys M)
end Go.Proofs.Ytkpgjcahmpekbaa
