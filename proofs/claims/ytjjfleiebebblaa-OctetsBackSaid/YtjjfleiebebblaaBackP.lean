/-
  What is put is read as it was: plain lemmas on bytes and numbers.
-/
import Derived.Test.YtjjfleiebebblaaNil
namespace Go.Proofs.Ytjjfleiebebblaa
open Go.RowKit

theorem beN_append_one (xs : List UInt8) (b : UInt8) : beN (xs ++ [b]) = beN xs * 256 + b.toNat := beN_snoc xs b
theorem beN_beB (u k : Nat) : beN (beB u k) = u % 256 ^ k := by
  induction k generalizing u with
  | zero => simp [beB, beN, Nat.mod_one]
  | succ k ih =>
    have e1 : (UInt8.ofNat u).toNat = u % 256 := by simp
    rw [beB, beN_snoc, ih, e1]
    have h1 := Nat.div_add_mod u 256
    have h2 : u % 256 ^ (k + 1) = 256 * (u / 256 % 256 ^ k) + u % 256 := by
      rw [Nat.pow_succ, Nat.mul_comm (256 ^ k) 256, Nat.mod_mul]
      omega
    omega

theorem takeY_front (xs ys : List UInt8) (k : Nat) (h : xs.length = k) : takeY (xs ++ ys) 0 k = xs := by
  unfold takeY
  rw [if_pos ⟨rfl, by omega, by simp; omega⟩]
  simp [← h]
theorem takeX_front (xs ys : List UInt8) (k : Nat) (h : xs.length = k) : takeX (xs ++ ys) 0 k = ys := by
  unfold takeX
  rw [if_pos rfl, if_pos ⟨by omega, by simp; omega⟩]
  simp [← h]
theorem takeE_front (xs ys : List UInt8) (k : Nat) (h : xs.length = k) : takeE (xs ++ ys) 0 k = 0 := by
  unfold takeE
  rw [if_pos rfl, if_pos ⟨by omega, by simp; omega⟩]

theorem num_front (u k : Nat) (ys : List UInt8) (hk : wid k = true) : numV (beB u k ++ ys) 0 k = u % 256 ^ k ∧ numX (beB u k ++ ys) 0 k = ys ∧ numE (beB u k ++ ys) 0 k = 0 := by
  unfold numV numX numE
  rw [hk]
  simp only [if_true]
  rw [takeY_front _ _ k (beB_length u k), takeX_front _ _ k (beB_length u k), takeE_front _ _ k (beB_length u k), beN_beB]
  exact ⟨rfl, rfl, rfl⟩

/-- A row is read as it was. -/
theorem row_front (ys : List UInt8) (m : Nat) (hm : ys.length = m) (h : m ≤ 500) : rowY (beB m 4 ++ ys) 0 m = ys ∧ rowX (beB m 4 ++ ys) 0 m = [] ∧ rowE (beB m 4 ++ ys) 0 m = 0 := by
  obtain ⟨e1, e2, e3⟩ := num_front m 4 ys rfl
  have e4 : m % 256 ^ 4 = m := Nat.mod_eq_of_lt (by omega)
  have eV : numV (beB m 4 ++ ys) 0 4 = m := e1.trans e4
  have eX : numX (beB m 4 ++ ys) 0 4 = ys := e2
  have eE : numE (beB m 4 ++ ys) 0 4 = 0 := e3
  unfold rowY rowX rowE
  rw [eV, eX, eE]
  have h0 : ¬ ((m : Int) < (m : Nat)) := by omega
  simp only [upX, upE, upV, if_neg h0]
  have := takeY_front ys [] m hm
  have := takeX_front ys [] m hm
  have := takeE_front ys [] m hm
  simp only [List.append_nil] at *
  exact ⟨by assumption, by assumption, by assumption⟩

/-- A number is read as it was, within the bounds of just itself. -/
theorem range_front (u k : Nat) (S : Int) (ys : List UInt8) (hk : wid k = true) (hS : sx k (u % 256 ^ k) = S) :
    rngV (beB u k ++ ys) 0 k S S = S ∧ rngX (beB u k ++ ys) 0 k S S = ys ∧ rngE (beB u k ++ ys) 0 k S S = 0 := by
  obtain ⟨e1, e2, e3⟩ := num_front u k ys hk
  unfold rngV rngX rngE
  rw [e1, e2, e3, hS]
  simp

theorem sx1_low (v : Int) : sx 1 ((v % 18446744073709551616).toNat % 256 ^ 1) = wrap64 (v * 72057594037927936) / 72057594037927936 := by
  have e : ∀ V, sx 1 V = if V < 128 then (V : Int) else V - 256 := fun V => by simp [sx]
  rw [e]
  unfold wrap64
  split <;> omega
theorem sx2_low (v : Int) : sx 2 ((v % 18446744073709551616).toNat % 256 ^ 2) = wrap64 (v * 281474976710656) / 281474976710656 := by
  have e : ∀ V, sx 2 V = if V < 32768 then (V : Int) else V - 65536 := fun V => by simp [sx]
  rw [e]
  unfold wrap64
  split <;> omega
theorem sx4_low (v : Int) : sx 4 ((v % 18446744073709551616).toNat % 256 ^ 4) = wrap64 (v * 4294967296) / 4294967296 := by
  have e : ∀ V, sx 4 V = if V < 2147483648 then (V : Int) else V - 4294967296 := fun V => by simp [sx]
  rw [e]
  unfold wrap64
  split <;> omega
theorem sx8_low (v : Int) (h0 : -9223372036854775808 ≤ v) (h1 : v ≤ 9223372036854775807) : sx 8 ((v % 18446744073709551616).toNat % 256 ^ 8) = v := by
  have e : ∀ V, sx 8 V = if V < 9223372036854775808 then (V : Int) else V - 18446744073709551616 := fun V => by simp [sx]
  rw [e]
  split <;> omega

end Go.Proofs.Ytjjfleiebebblaa
