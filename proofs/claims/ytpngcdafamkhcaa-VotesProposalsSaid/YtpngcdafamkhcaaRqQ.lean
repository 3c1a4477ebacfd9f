/-
  A row's bound doesn't matter where no more is left. No walk here.
-/
import Derived.Test.YtpngcdafamkhcaaRqR
namespace Go.Proofs.Ytpngcdafamkhcaa
open Go.RowKit

theorem rnext_stL (m : Nat) (st : Option (List UInt8)) : stL (rnext m st) ≤ stL st := by
  unfold rnext
  split
  · exact Nat.le_trans (nnext_stL _ _) (nnext_stL _ _)
  · exact Nat.zero_le _
theorem nnext_more {k : Nat} {st : Option (List UInt8)} (h : stL st < k) : nnext k st = none ∧ tval k st = [] := by
  cases st with
  | none => exact ⟨rfl, rfl⟩
  | some r =>
    have h' : ¬ k ≤ r.length := by simpa [stL] using h
    rw [nnext_some, tval_some, if_neg h', if_neg h']
    exact ⟨rfl, rfl⟩
/-- A row's bound doesn't matter where no more is left. -/
theorem row_free {m m' : Nat} {st : Option (List UInt8)} (h : stL st ≤ m) (h' : stL st ≤ m') : rval m st = rval m' st ∧ rnext m st = rnext m' st := by
  have key : ∀ k : Nat, stL st ≤ k → rval k st = tval (nval 4 st) (nnext 4 st) ∧ rnext k st = nnext (nval 4 st) (nnext 4 st) := by
    intro k hk
    unfold rval rnext
    by_cases hl : nval 4 st ≤ k
    · rw [if_pos hl, if_pos hl]; exact ⟨rfl, rfl⟩
    · rw [if_neg hl, if_neg hl]
      obtain ⟨h1, h2⟩ := nnext_more (k := nval 4 st) (st := nnext 4 st) (Nat.lt_of_le_of_lt (nnext_stL _ _) (by omega))
      exact ⟨h2.symm, h1.symm⟩
  exact ⟨(key m h).1.trans (key m' h').1.symm, (key m h).2.trans (key m' h').2.symm⟩
theorem rdCr_free {m m' : Nat} {st : Option (List UInt8)} (h : stL st ≤ m) (h' : stL st ≤ m') : rdCr m st = rdCr m' st := by
  have l1 : stL (nnext 1 (nnext 8 (nnext 1 st))) ≤ stL st := Nat.le_trans (nnext_stL _ _) (Nat.le_trans (nnext_stL _ _) (nnext_stL _ _))
  obtain ⟨a1, a2⟩ := row_free (m := m) (m' := m') (st := nnext 1 (nnext 8 (nnext 1 st))) (by omega) (by omega)
  have l2 : stL (nnext 8 (nnext 8 (rnext m' (nnext 1 (nnext 8 (nnext 1 st)))))) ≤ stL st := Nat.le_trans (nnext_stL _ _) (Nat.le_trans (nnext_stL _ _) (Nat.le_trans (rnext_stL _ _) l1))
  obtain ⟨b1, b2⟩ := row_free (m := m) (m' := m') (st := nnext 8 (nnext 8 (rnext m' (nnext 1 (nnext 8 (nnext 1 st)))))) (by omega) (by omega)
  unfold rdCr
  rw [a1, a2, b1, b2]
theorem parseCr_free {m m' : Nat} {xs : List UInt8} (N : Int) (h : xs.length ≤ m) (h' : xs.length ≤ m') : parseCr m xs N = parseCr m' xs N := by
  unfold parseCr
  rw [rdCr_free (m := m) (m' := m') (st := some xs) h h']

end Go.Proofs.Ytpngcdafamkhcaa
