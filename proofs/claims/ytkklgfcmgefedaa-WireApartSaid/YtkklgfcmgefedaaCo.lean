/-
  A reader's state as 'what is left, or it failed': what Number, Row, Count, Range give and leave; there and back, by plain functions. No walk here.
-/
import Derived.Test.YtkklgfcmgefedaaOP
namespace Go.Proofs.Ytkklgfcmgefedaa
open Go.RowKit

theorem beB_beN : ∀ (k : Nat) (xs : List UInt8), xs.length = k → beB (beN xs) k = xs := by
  intro k
  induction k with
  | zero => intro xs h; rw [List.eq_nil_of_length_eq_zero h]; rfl
  | succ k ih =>
    intro xs h
    have hne : xs ≠ [] := by rintro rfl; simp at h
    obtain ⟨ys, b, rfl⟩ : ∃ ys b, xs = ys ++ [b] := ⟨xs.dropLast, xs.getLast hne, (List.dropLast_concat_getLast hne).symm⟩
    have hl : ys.length = k := by simpa using h
    rw [beN_snoc, beB]
    have e1 : (beN ys * 256 + b.toNat) / 256 = beN ys := by have := b.toNat_lt; omega
    have e2 : UInt8.ofNat (beN ys * 256 + b.toNat) = b := by
      apply UInt8.toNat_inj.1
      rw [UInt8.toNat_ofNat']
      have := b.toNat_lt
      omega
    rw [e1, e2, ih ys hl]
theorem beN_lt' (xs : List UInt8) : beN xs < 256 ^ xs.length := by
  have := beN_lt xs xs.length
  rwa [List.take_length] at this

def nval (k : Nat) : Option (List UInt8) → Nat
  | some xs => if k ≤ xs.length then beN (xs.take k) else 0
  | none => 0
def nnext (k : Nat) : Option (List UInt8) → Option (List UInt8)
  | some xs => if k ≤ xs.length then some (xs.drop k) else none
  | none => none
def tval (k : Nat) : Option (List UInt8) → List UInt8
  | some xs => if k ≤ xs.length then xs.take k else []
  | none => []
def rval (most : Nat) (st : Option (List UInt8)) : List UInt8 := if nval 4 st ≤ most then tval (nval 4 st) (nnext 4 st) else []
def rnext (most : Nat) (st : Option (List UInt8)) : Option (List UInt8) := if nval 4 st ≤ most then nnext (nval 4 st) (nnext 4 st) else none
def cval (most : Nat) (st : Option (List UInt8)) : Nat := if nval 2 st ≤ most then nval 2 st else 0
def cnext (most : Nat) (st : Option (List UInt8)) : Option (List UInt8) := if nval 2 st ≤ most then nnext 2 st else none
/-- a number of eight bytes with its sign, within bounds -/
def gval (lo hi : Int) (st : Option (List UInt8)) : Int := if nnext 8 st ≠ none ∧ lo ≤ sx 8 (nval 8 st) ∧ sx 8 (nval 8 st) ≤ hi then sx 8 (nval 8 st) else 0
def gnext (lo hi : Int) (st : Option (List UInt8)) : Option (List UInt8) := if lo ≤ sx 8 (nval 8 st) ∧ sx 8 (nval 8 st) ≤ hi then nnext 8 st else none

theorem nval_some (k : Nat) (xs : List UInt8) : nval k (some xs) = if k ≤ xs.length then beN (xs.take k) else 0 := rfl
theorem nnext_some (k : Nat) (xs : List UInt8) : nnext k (some xs) = if k ≤ xs.length then some (xs.drop k) else none := rfl
theorem tval_some (k : Nat) (xs : List UInt8) : tval k (some xs) = if k ≤ xs.length then xs.take k else [] := rfl
theorem nval_none (k : Nat) : nval k none = 0 := rfl
theorem nnext_none (k : Nat) : nnext k none = none := rfl
theorem tval_none (k : Nat) : tval k none = [] := rfl
theorem nval_lt (k : Nat) (st : Option (List UInt8)) : nval k st < 256 ^ k := by
  have h0 : 0 < 256 ^ k := Nat.pow_pos (by decide)
  cases st with
  | none => exact h0
  | some xs =>
    rw [nval_some]
    split
    · rename_i hk
      have := beN_lt' (xs.take k)
      rwa [List.length_take, Nat.min_eq_left hk] at this
    · exact h0
theorem n_front {v k : Nat} (h : v < 256 ^ k) (ys : List UInt8) : nval k (some (beB v k ++ ys)) = v ∧ nnext k (some (beB v k ++ ys)) = some ys := by
  have hl := beB_length v k
  have hle : k ≤ (beB v k ++ ys).length := by simp [hl]
  rw [nval_some, nnext_some, if_pos hle, if_pos hle]
  have e1 : (beB v k ++ ys).take k = beB v k := by rw [List.take_append_of_le_length (by omega), List.take_of_length_le (by omega)]
  have e2 : (beB v k ++ ys).drop k = ys := by rw [List.drop_append_of_le_length (by omega), List.drop_of_length_le (by omega)]; rfl
  rw [e1, e2, beN_beB, Nat.mod_eq_of_lt h]
  exact ⟨rfl, rfl⟩
theorem n_back {k : Nat} {st : Option (List UInt8)} {r : List UInt8} (h : nnext k st = some r) : st = some (beB (nval k st) k ++ r) := by
  cases st with
  | none => cases h
  | some xs =>
    rw [nnext_some] at h
    rw [nval_some]
    split at h
    · rename_i hk
      rw [if_pos hk, beB_beN k _ (by simp; omega)]
      injection h with h
      rw [← h, List.take_append_drop]
    · cases h
theorem t_front (xs ys : List UInt8) : tval xs.length (some (xs ++ ys)) = xs ∧ nnext xs.length (some (xs ++ ys)) = some ys := by
  rw [tval_some, nnext_some, if_pos (by simp), if_pos (by simp)]
  simp
theorem t_back {k : Nat} {st : Option (List UInt8)} {r : List UInt8} (h : nnext k st = some r) : st = some (tval k st ++ r) ∧ (tval k st).length = k := by
  cases st with
  | none => cases h
  | some xs =>
    rw [nnext_some] at h
    rw [tval_some]
    split at h
    · rename_i hk
      rw [if_pos hk]
      injection h with h
      rw [← h, List.take_append_drop]
      exact ⟨rfl, by simp; omega⟩
    · cases h
/-- A row's bytes. -/
def rowB (xs : List UInt8) : List UInt8 := beB xs.length 4 ++ xs
theorem r_front {most : Nat} {row : List UInt8} (h : row.length ≤ most) (hm : most < 4294967296) (ys : List UInt8) : rval most (some (rowB row ++ ys)) = row ∧ rnext most (some (rowB row ++ ys)) = some ys := by
  have e : (256 : Nat) ^ 4 = 4294967296 := by decide
  obtain ⟨h1, h2⟩ := n_front (v := row.length) (k := 4) (by omega) (row ++ ys)
  obtain ⟨h3, h4⟩ := t_front row ys
  unfold rval rnext rowB
  rw [List.append_assoc, h1, h2, if_pos h, if_pos h, h3, h4]
  exact ⟨rfl, rfl⟩
theorem r_back {most : Nat} {st : Option (List UInt8)} {r : List UInt8} (h : rnext most st = some r) : st = some (rowB (rval most st) ++ r) ∧ (rval most st).length ≤ most := by
  unfold rnext at h
  unfold rval
  split at h
  · rename_i hle
    rw [if_pos hle]
    obtain ⟨h1, h2⟩ := t_back h
    refine ⟨?_, by rw [h2]; exact hle⟩
    have h3 := n_back h1
    unfold rowB
    rw [h2, List.append_assoc]
    exact h3
  · cases h
theorem c_front {most n : Nat} (h : n ≤ most) (hm : most < 65536) (ys : List UInt8) : cval most (some (beB n 2 ++ ys)) = n ∧ cnext most (some (beB n 2 ++ ys)) = some ys := by
  have e : (256 : Nat) ^ 2 = 65536 := by decide
  obtain ⟨h1, h2⟩ := n_front (v := n) (k := 2) (by omega) ys
  unfold cval cnext
  rw [h1, h2, if_pos h, if_pos h]
  exact ⟨rfl, rfl⟩
theorem c_back {most : Nat} {st : Option (List UInt8)} {r : List UInt8} (h : cnext most st = some r) : st = some (beB (cval most st) 2 ++ r) ∧ cval most st ≤ most := by
  unfold cnext at h
  unfold cval
  split at h
  · rename_i hle
    rw [if_pos hle]
    exact ⟨n_back h, hle⟩
  · cases h
/-- A number of 64 bits without its sign, of one with it. -/
def u64N (v : Int) : Nat := (v % 18446744073709551616).toNat
theorem sx_u64N {v : Int} (h0 : -9223372036854775808 ≤ v) (h1 : v ≤ 9223372036854775807) : sx 8 (u64N v) = v := by
  have e : ∀ V, sx 8 V = if V < 9223372036854775808 then (V : Int) else V - 18446744073709551616 := fun V => by simp [sx]
  rw [e]
  unfold u64N
  split <;> omega
theorem u64N_sx {n : Nat} (h : n < 18446744073709551616) : u64N (sx 8 n) = n := by
  have e : ∀ V, sx 8 V = if V < 9223372036854775808 then (V : Int) else V - 18446744073709551616 := fun V => by simp [sx]
  rw [e]
  unfold u64N
  split <;> omega
theorem u64N_lt (v : Int) : u64N v < 256 ^ 8 := by
  have e : (256 : Nat) ^ 8 = 18446744073709551616 := by decide
  unfold u64N
  omega
theorem u64N_pos {v : Int} (h : 0 ≤ v) (h1 : v < 18446744073709551616) : u64N v = v.toNat := by
  unfold u64N
  omega
theorem sx_rng (n : Nat) (h : n < 18446744073709551616) : -9223372036854775808 ≤ sx 8 n ∧ sx 8 n ≤ 9223372036854775807 := by
  have e : ∀ V, sx 8 V = if V < 9223372036854775808 then (V : Int) else V - 18446744073709551616 := fun V => by simp [sx]
  rw [e]
  split <;> omega
theorem g_front {lo hi v : Int} (h : lo ≤ v) (h2 : v ≤ hi) (h0 : -9223372036854775808 ≤ v) (h1 : v ≤ 9223372036854775807) (ys : List UInt8) : gval lo hi (some (beB (u64N v) 8 ++ ys)) = v ∧ gnext lo hi (some (beB (u64N v) 8 ++ ys)) = some ys := by
  obtain ⟨e1, e2⟩ := n_front (u64N_lt v) ys
  unfold gval gnext
  rw [e1, e2, sx_u64N h0 h1, if_pos ⟨by simp, h, h2⟩, if_pos ⟨h, h2⟩]
  exact ⟨rfl, rfl⟩
theorem g_back {lo hi : Int} {st : Option (List UInt8)} {r : List UInt8} (h : gnext lo hi st = some r) : st = some (beB (u64N (gval lo hi st)) 8 ++ r) ∧ lo ≤ gval lo hi st ∧ gval lo hi st ≤ hi := by
  unfold gnext at h
  split at h
  · rename_i hle
    unfold gval
    rw [if_pos ⟨by rw [h]; simp, hle⟩]
    have hv := nval_lt 8 st
    have e : (256 : Nat) ^ 8 = 18446744073709551616 := by decide
    rw [u64N_sx (by omega)]
    exact ⟨n_back h, hle⟩
  · cases h

end Go.Proofs.Ytkklgfcmgefedaa
