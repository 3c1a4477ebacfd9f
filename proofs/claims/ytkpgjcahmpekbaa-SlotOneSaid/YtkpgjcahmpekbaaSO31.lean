/-
  Joined: SoP.
-/
import Derived.Test.YtkpgjcahmpekbaaSO21
namespace Go.Proofs.Ytkpgjcahmpekbaa
open Go.RowKit

/-- how many of the first n are so -/
def cntN (p : Nat → Bool) : Nat → Nat
 | 0 => 0
 | n + 1 => cntN p n + (if p n = true then 1 else 0)
theorem cntN_two (a b l : Nat → Bool) (h : ∀ w, a w = true → b w = true → l w = true) : ∀ n, cntN a n + cntN b n ≤ n + cntN l n
 | 0 => Nat.le_refl _
 | n + 1 => by
  have h1 := cntN_two a b l h n
  have h2 := h n
  unfold cntN
  cases ha : a n <;> cases hb : b n <;> cases hl : l n <;> simp_all <;> omega
theorem cntN_or (p q : Nat → Bool) : ∀ n, cntN (fun w => p w || q w) n ≤ cntN p n + cntN q n
 | 0 => Nat.le_refl _
 | n + 1 => by
  have h1 := cntN_or p q n
  unfold cntN
  cases hp : p n <;> cases hq : q n <;> simp_all <;> omega
theorem cntN_one (c : Nat) : ∀ n, cntN (fun w => c == w) n ≤ (if c < n then 1 else 0)
 | 0 => by simp [cntN]
 | n + 1 => by
  have h1 := cntN_one c n
  unfold cntN
  by_cases h : c = n
  ·subst h; simp at h1; simp [h1]
  ·have hb : (c == n) = false := by simpa using h
   rw [hb]
   simp only [Bool.false_eq_true, if_false, Nat.add_zero]
   by_cases h2 : c < n
   ·rw [if_pos h2] at h1; rw [if_pos (by omega)]; exact h1
   ·rw [if_neg h2] at h1; omega
theorem cntN_any (n : Nat) : ∀ l : List Nat, cntN (fun w => l.any (fun x => x == w)) n ≤ l.length
 | [] => by
  have : ∀ n, cntN (fun w => ([] : List Nat).any (fun x => x == w)) n = 0 := fun n => by
   induction n with
   | zero => rfl
   | succ n ih => unfold cntN; rw [ih]; rfl
  rw [this]; exact Nat.zero_le _
 | x :: l => by
  have h1 := cntN_or (fun w => x == w) (fun w => l.any (fun x => x == w)) n
  have h2 := cntN_one x n
  have h3 := cntN_any n l
  simp only [List.any_cons, List.length_cons]
  split at h2 <;> omega
/-- two sets of more than 2k of 3k + 1 share one who doesn't lie, where at most k lie -/
theorem quorums_meet {k : Nat} (a b : Nat → Bool) (liars : List Nat) (hk : liars.length ≤ k) (h : ∀ w, a w = true → b w = true → liars.any (fun x => x == w) = true) : ¬ (2 * k < cntN a (3 * k + 1) ∧ 2 * k < cntN b (3 * k + 1)) := by
 rintro ⟨h1, h2⟩
 have h3 := cntN_two a b (fun w => liars.any (fun x => x == w)) h (3 * k + 1)
 have h4 := cntN_any (3 * k + 1) liars
 omega

end Go.Proofs.Ytkpgjcahmpekbaa
