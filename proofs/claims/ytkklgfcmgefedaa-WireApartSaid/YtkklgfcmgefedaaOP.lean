/-
  Octets by plain functions: what a reader gives, leaves, fails with; numbers' bytes. No walk here.
-/
import Derived.Test.YtkklgfcmgefedaaMem
namespace Go.Proofs.Ytkklgfcmgefedaa
open Go.RowKit

/-- May a number have k bytes? -/
def wid (k : Int) : Bool := k == 1 || k == 2 || k == 4 || k == 8

theorem wid_iff {k : Int} : wid k = true ↔ k = 1 ∨ k = 2 ∨ k = 4 ∨ k = 8 := by simp [wid, or_assoc]

/-- What failing leaves. -/
def failX (xs : List UInt8) (er : Int) : List UInt8 := if er = 0 then [] else xs

def failE (er k : Int) : Int := if er = 0 then k else er

/-- Taking k bytes: what is given, what is left, the failure. -/
def takeY (xs : List UInt8) (er k : Int) : List UInt8 := if er = 0 ∧ 0 ≤ k ∧ k ≤ xs.length then xs.take k.toNat else []

def takeX (xs : List UInt8) (er k : Int) : List UInt8 := if er = 0 then (if 0 ≤ k ∧ k ≤ xs.length then xs.drop k.toNat else []) else xs

def takeE (xs : List UInt8) (er k : Int) : Int := if er = 0 then (if 0 ≤ k ∧ k ≤ xs.length then 0 else 2) else er

def bad (er : Int) : Bool := er != 0

/-- The number of which these are the bytes, the highest first. -/
def beN (xs : List UInt8) : Nat := xs.foldl (fun v x => v * 256 + x.toNat) 0

theorem beN_snoc (xs : List UInt8) (b : UInt8) : beN (xs ++ [b]) = beN xs * 256 + b.toNat := by simp [beN]

theorem beN_take (xs : List UInt8) (j : Nat) (h : j < xs.length) : beN (xs.take (j + 1)) = beN (xs.take j) * 256 + xs[j].toNat := by
  rw [List.take_succ_eq_append_getElem h, beN_snoc]

theorem beN_lt (xs : List UInt8) (j : Nat) : beN (xs.take j) < 256 ^ (xs.take j).length := by
  induction j with
  | zero => simp [beN]
  | succ j ih =>
    rcases Nat.lt_or_ge j xs.length with h | h
    · rw [beN_take xs j h]
      have e : (xs.take (j + 1)).length = (xs.take j).length + 1 := by simp; omega
      rw [e, Nat.pow_succ]
      have hb := xs[j].toNat_lt
      omega
    · rw [List.take_of_length_le (by omega)]
      rw [List.take_of_length_le h] at ih
      exact ih

theorem beN_small (xs : List UInt8) (j m : Nat) (hj : j ≤ m) : beN (xs.take j) < 256 ^ m := by
  have h := beN_lt xs j
  have hl : (xs.take j).length ≤ m := by simp; omega
  exact Nat.lt_of_lt_of_le h (Nat.pow_le_pow_right (by decide) hl)

/-- What Number answers, leaves, and fails with. -/
def numV (xs : List UInt8) (er k : Int) : Nat := if wid k then beN (takeY xs er k) else 0

def numX (xs : List UInt8) (er k : Int) : List UInt8 := if wid k then takeX xs er k else failX xs er

def numE (xs : List UInt8) (er k : Int) : Int := if wid k then takeE xs er k else failE er 2

theorem numV_lt (xs : List UInt8) (er k : Int) : numV xs er k < 256 ^ k.toNat ∨ numV xs er k = 0 := by
  unfold numV
  split
  · left
    have h := beN_small (takeY xs er k) (takeY xs er k).length k.toNat
    rw [List.take_length] at h
    refine h ?_
    unfold takeY
    split <;> simp
    omega
  · right; rfl

def upV (V : Nat) (most : Int) : Int := if most < V then 0 else V

def upX (X : List UInt8) (E : Int) (V : Nat) (most : Int) : List UInt8 := if most < V then failX X E else X

def upE (E : Int) (V : Nat) (most b : Int) : Int := if most < V then failE E b else E

/-- What Row gives, leaves, and fails with. -/
def rowY (xs : List UInt8) (er most : Int) : List UInt8 := takeY (upX (numX xs er 4) (numE xs er 4) (numV xs er 4) most) (upE (numE xs er 4) (numV xs er 4) most 3) (upV (numV xs er 4) most)

def rowX (xs : List UInt8) (er most : Int) : List UInt8 := takeX (upX (numX xs er 4) (numE xs er 4) (numV xs er 4) most) (upE (numE xs er 4) (numV xs er 4) most 3) (upV (numV xs er 4) most)

def rowE (xs : List UInt8) (er most : Int) : Int := takeE (upX (numX xs er 4) (numE xs er 4) (numV xs er 4) most) (upE (numE xs er 4) (numV xs er 4) most 3) (upV (numV xs er 4) most)

theorem takeY_le (xs : List UInt8) (er k : Int) : (takeY xs er k).length ≤ xs.length := by unfold takeY; split <;> simp; omega

theorem takeX_le (xs : List UInt8) (er k : Int) : (takeX xs er k).length ≤ xs.length := by 
  unfold takeX
  split
  · split <;> simp
  · simp

theorem failX_le (xs : List UInt8) (er : Int) : (failX xs er).length ≤ xs.length := by unfold failX; split <;> simp

theorem numX_le (xs : List UInt8) (er k : Int) : (numX xs er k).length ≤ xs.length := by
  unfold numX; split
  · exact takeX_le _ _ _
  · exact failX_le _ _

theorem upX_le (X : List UInt8) (E : Int) (V : Nat) (most : Int) : (upX X E V most).length ≤ X.length := by
  unfold upX; split
  · exact failX_le _ _
  · exact Nat.le_refl _

/-- What End answers. -/
def endV (xs : List UInt8) (er : Int) : Int := if er = 0 then (if xs = [] then 0 else 2) else er

/-- A number of k bytes, with its sign. -/
def sx (k : Int) (V : Nat) : Int := if k = 1 then (if V < 128 then V else V - 256) else if k = 2 then (if V < 32768 then V else V - 65536) else if k = 4 then (if V < 2147483648 then V else V - 4294967296) else if V < 9223372036854775808 then V else V - 18446744073709551616

/-- What Range answers, leaves, and fails with. -/
def rngV (xs : List UInt8) (er k lo hi : Int) : Int := if numE xs er k = 0 ∧ lo ≤ sx k (numV xs er k) ∧ sx k (numV xs er k) ≤ hi then sx k (numV xs er k) else 0

def rngX (xs : List UInt8) (er k lo hi : Int) : List UInt8 := if numE xs er k = 0 then (if lo ≤ sx k (numV xs er k) ∧ sx k (numV xs er k) ≤ hi then numX xs er k else []) else numX xs er k

def rngE (xs : List UInt8) (er k lo hi : Int) : Int := if numE xs er k = 0 then (if lo ≤ sx k (numV xs er k) ∧ sx k (numV xs er k) ≤ hi then 0 else 5) else numE xs er k

theorem wid_of_ok {xs : List UInt8} {er k : Int} (h : numE xs er k = 0) : wid k = true := by
  cases hk : wid k with
  | true => rfl
  | false =>
    unfold numE at h
    rw [hk] at h
    simp [failE] at h
    split at h
    · cases h
    · contradiction

theorem numV_of_bad {xs : List UInt8} {er k : Int} (h : numE xs er k ≠ 0) : numV xs er k = 0 := by
  unfold numE at h
  unfold numV
  cases hk : wid k with
  | false => rfl
  | true =>
    rw [hk] at h
    simp only [if_true] at h ⊢
    have : takeY xs er k = [] := by
      unfold takeE at h
      unfold takeY
      split at h
      · split at h
        · exact absurd rfl h
        · rw [if_neg (by simp_all)]
      · rw [if_neg (by simp_all)]
    rw [this]
    rfl

theorem numV_lt4 (xs : List UInt8) (er : Int) : numV xs er 4 < 4294967296 := by
  rcases numV_lt xs er 4 with h | h
  · have e : (256 : Nat) ^ ((4 : Int)).toNat = 4294967296 := by decide
    rw [e] at h
    exact h
  · omega

theorem beN_append_one (xs : List UInt8) (b : UInt8) : beN (xs ++ [b]) = beN xs * 256 + b.toNat := beN_snoc xs b

theorem beN_beB (u k : Nat) : beN (beB u k) = u % 256 ^ k := by
  induction k generalizing u with
  | zero => simp [beB, beN, Nat.mod_one]
  | succ k ih =>
    have e1 : (UInt8.ofNat u).toNat = u % 256 := by simp
    rw [beB, beN_snoc, ih, e1]
    have h1 := Nat.div_add_mod u 256
    have h2 : u % 256 ^ (k + 1) = 256 * (u / 256 % 256 ^ k) + u % 256 := by
      rw [Nat.pow_succ, Nat.mul_comm (256 ^ k) 256, Nat.mod_mul]
      omega
    omega

theorem takeY_front (xs ys : List UInt8) (k : Nat) (h : xs.length = k) : takeY (xs ++ ys) 0 k = xs := by
  unfold takeY
  rw [if_pos ⟨rfl, by omega, by simp; omega⟩]
  simp [← h]

theorem takeX_front (xs ys : List UInt8) (k : Nat) (h : xs.length = k) : takeX (xs ++ ys) 0 k = ys := by
  unfold takeX
  rw [if_pos rfl, if_pos ⟨by omega, by simp; omega⟩]
  simp [← h]

theorem takeE_front (xs ys : List UInt8) (k : Nat) (h : xs.length = k) : takeE (xs ++ ys) 0 k = 0 := by
  unfold takeE
  rw [if_pos rfl, if_pos ⟨by omega, by simp; omega⟩]

theorem num_front (u k : Nat) (ys : List UInt8) (hk : wid k = true) : numV (beB u k ++ ys) 0 k = u % 256 ^ k ∧ numX (beB u k ++ ys) 0 k = ys ∧ numE (beB u k ++ ys) 0 k = 0 := by
  unfold numV numX numE
  rw [hk]
  simp only [if_true]
  rw [takeY_front _ _ k (beB_length u k), takeX_front _ _ k (beB_length u k), takeE_front _ _ k (beB_length u k), beN_beB]
  exact ⟨rfl, rfl, rfl⟩

end Go.Proofs.Ytkklgfcmgefedaa
