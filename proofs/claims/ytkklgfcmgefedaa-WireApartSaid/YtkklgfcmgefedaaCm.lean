/-
  Lists, there and back: what is read one behind the other, as long as nothing failed. No walk here.
-/
import Derived.Test.YtkklgfcmgefedaaCo
namespace Go.Proofs.Ytkklgfcmgefedaa
open Go.RowKit

/-- Each one's bytes, one behind the other. -/
def encAll {α : Type} (f : α → List UInt8) : List α → List UInt8
  | [] => []
  | x :: xs => f x ++ encAll f xs
theorem encAll_append {α : Type} (f : α → List UInt8) : ∀ (xs ys : List α), encAll f (xs ++ ys) = encAll f xs ++ encAll f ys
  | [], _ => rfl
  | x :: xs, ys => by simp [encAll, encAll_append f xs ys]
theorem encAll_snoc {α : Type} (f : α → List UInt8) (xs : List α) (x : α) : encAll f (xs ++ [x]) = encAll f xs ++ f x := by rw [encAll_append]; simp [encAll]
/-- So many are read, as long as nothing failed. -/
def rdMany {α : Type} (rd : Option (List UInt8) → α × Option (List UInt8)) : Nat → Option (List UInt8) → List α × Option (List UInt8)
  | 0, st => ([], st)
  | _ + 1, none => ([], none)
  | n + 1, some xs => ((rd (some xs)).1 :: (rdMany rd n (rd (some xs)).2).1, (rdMany rd n (rd (some xs)).2).2)
theorem rdMany_zero {α : Type} (rd : Option (List UInt8) → α × Option (List UInt8)) (st : Option (List UInt8)) : rdMany rd 0 st = ([], st) := rfl
theorem rdMany_none {α : Type} (rd : Option (List UInt8) → α × Option (List UInt8)) (n : Nat) : rdMany rd n none = ([], none) := by cases n <;> rfl
theorem rdMany_some {α : Type} (rd : Option (List UInt8) → α × Option (List UInt8)) (n : Nat) (xs : List UInt8) : rdMany rd (n + 1) (some xs) = ((rd (some xs)).1 :: (rdMany rd n (rd (some xs)).2).1, (rdMany rd n (rd (some xs)).2).2) := rfl
/-- So many are read, whatever fails. -/
def rdAll {α : Type} (rd : Option (List UInt8) → α × Option (List UInt8)) : Nat → Option (List UInt8) → List α × Option (List UInt8)
  | 0, st => ([], st)
  | n + 1, st => ((rd st).1 :: (rdAll rd n (rd st).2).1, (rdAll rd n (rd st).2).2)
section
variable {α : Type} {f : α → List UInt8} {rd : Option (List UInt8) → α × Option (List UInt8)}
theorem rdMany_len : ∀ (n : Nat) (st : Option (List UInt8)), (rdMany rd n st).1.length ≤ n
  | 0, _ => Nat.le_refl _
  | n + 1, none => by rw [rdMany_none]; simp
  | n + 1, some xs => by
    rw [rdMany_some]
    have := rdMany_len n (rd (some xs)).2
    simp
    omega
theorem rdMany_back (hb : ∀ st r, (rd st).2 = some r → st = some (f (rd st).1 ++ r)) : ∀ (n : Nat) (st : Option (List UInt8)) (r : List UInt8), (rdMany rd n st).2 = some r → st = some (encAll f (rdMany rd n st).1 ++ r) ∧ (rdMany rd n st).1.length = n
  | 0, st, r, h => ⟨h, rfl⟩
  | n + 1, none, r, h => by rw [rdMany_none] at h; cases h
  | n + 1, some xs, r, h => by
    rw [rdMany_some] at h ⊢
    simp only at h ⊢
    obtain ⟨h1, h2⟩ := rdMany_back hb n _ r h
    have h3 := hb _ _ h1
    refine ⟨?_, by simp [h2]⟩
    simp only [encAll, List.append_assoc]
    exact h3
theorem rdAll_back (hb : ∀ st r, (rd st).2 = some r → st = some (f (rd st).1 ++ r)) : ∀ (n : Nat) (st : Option (List UInt8)) (r : List UInt8), (rdAll rd n st).2 = some r → st = some (encAll f (rdAll rd n st).1 ++ r) ∧ (rdAll rd n st).1.length = n
  | 0, st, r, h => ⟨h, rfl⟩
  | n + 1, st, r, h => by
    simp only [rdAll] at h ⊢
    obtain ⟨h1, h2⟩ := rdAll_back hb n _ r h
    have h3 := hb _ _ h1
    refine ⟨?_, by simp [h2]⟩
    simp only [encAll, List.append_assoc]
    exact h3
theorem rdMany_front {ok : α → Prop} (hf : ∀ a ys, ok a → rd (some (f a ++ ys)) = (a, some ys)) : ∀ (l : List α) (ys : List UInt8), (∀ a ∈ l, ok a) → rdMany rd l.length (some (encAll f l ++ ys)) = (l, some ys)
  | [], ys, _ => rfl
  | a :: l, ys, h => by
    have h1 := hf a (encAll f l ++ ys) (h a (List.mem_cons_self ..))
    have h2 := rdMany_front hf l ys (fun b hb => h b (List.mem_cons_of_mem _ hb))
    simp only [encAll, List.append_assoc, List.length_cons]
    rw [rdMany_some, h1]
    simp only
    rw [h2]
theorem rdAll_front {ok : α → Prop} (hf : ∀ a ys, ok a → rd (some (f a ++ ys)) = (a, some ys)) : ∀ (l : List α) (ys : List UInt8), (∀ a ∈ l, ok a) → rdAll rd l.length (some (encAll f l ++ ys)) = (l, some ys)
  | [], ys, _ => rfl
  | a :: l, ys, h => by
    have h1 := hf a (encAll f l ++ ys) (h a (List.mem_cons_self ..))
    have h2 := rdAll_front hf l ys (fun b hb => h b (List.mem_cons_of_mem _ hb))
    simp only [encAll, List.append_assoc, List.length_cons, rdAll]
    rw [h1]
    simp only
    rw [h2]
end

end Go.Proofs.Ytkklgfcmgefedaa
