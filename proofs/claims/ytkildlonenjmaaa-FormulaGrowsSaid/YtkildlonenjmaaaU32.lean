/-
  Words of 32 bits as plain numbers. No walk here.
-/
import Derived.Test.YtkildlonenjmaaaF1
namespace Go.Proofs.Ytkildlonenjmaaa
open Go.RowKit

theorem ofInt_u32 (a : Nat) (h : a < 4294967296) : (BitVec.ofInt 32 (a : Int)).toNat = a := by
  rw [BitVec.toNat_ofInt]
  omega
theorem u32_and (a b : Nat) (ha : a < 4294967296) (hb : b < 4294967296) : bits .and .u32 (a : Int) (b : Int) = ((a &&& b : Nat) : Int) := by
  have hx : a &&& b < 2 ^ 32 := Nat.lt_of_le_of_lt Nat.and_le_left (by omega)
  show IntKind.u32.wrap ((BitVec.ofInt 32 (a : Int) &&& BitVec.ofInt 32 (b : Int)).toNat : Int) = _
  rw [BitVec.toNat_and, ofInt_u32 a ha, ofInt_u32 b hb]
  exact IntWalk.u32_in _ (by omega)
theorem u32_or (a b : Nat) (ha : a < 4294967296) (hb : b < 4294967296) : bits .or .u32 (a : Int) (b : Int) = ((a ||| b : Nat) : Int) := by
  have hx : a ||| b < 2 ^ 32 := Nat.or_lt_two_pow (by omega) (by omega)
  show IntKind.u32.wrap ((BitVec.ofInt 32 (a : Int) ||| BitVec.ofInt 32 (b : Int)).toNat : Int) = _
  rw [BitVec.toNat_or, ofInt_u32 a ha, ofInt_u32 b hb]
  exact IntWalk.u32_in _ (by omega)
/-- All that are not in a set. -/
def cpl (s : Nat) : Nat := 4294967295 - s
theorem cpl_lt (s : Nat) : cpl s < 4294967296 := by unfold cpl; omega
theorem cpl_bit (s i : Nat) (hs : s < 4294967296) : (cpl s).testBit i = (decide (i < 32) && !s.testBit i) := by
  have h := Nat.testBit_two_pow_sub_succ (x := s) (n := 32) (by omega) i
  rw [← h]
  unfold cpl
  rw [show 4294967295 - s = 2 ^ 32 - (s + 1) by omega]
theorem cpl_cpl (s : Nat) (hs : s < 4294967296) : cpl (cpl s) = s := by unfold cpl; omega
theorem high_bit (s i : Nat) (hs : s < 4294967296) (hi : 32 ≤ i) : s.testBit i = false :=
  Nat.testBit_lt_two_pow (Nat.lt_of_lt_of_le (show s < 2 ^ 32 by omega) (Nat.pow_le_pow_right (by omega) hi))
theorem xor_cpl (s : Nat) (hs : s < 4294967296) : 4294967295 ^^^ s = cpl s := by
  apply Nat.eq_of_testBit_eq
  intro i
  rw [Nat.testBit_xor, cpl_bit s i hs, show (4294967295 : Nat) = 2 ^ 32 - 1 from rfl, Nat.testBit_two_pow_sub_one]
  by_cases hi : i < 32
  · simp [hi]
  · simp [hi, high_bit s i hs (by omega)]
theorem u32_not (s : Nat) (hs : s < 4294967296) : bits .xor .u32 IntKind.u32.max (s : Int) = ((cpl s : Nat) : Int) := by
  have hm : IntKind.u32.max = ((4294967295 : Nat) : Int) := by decide
  have hx : 4294967295 ^^^ s < 2 ^ 32 := Nat.xor_lt_two_pow (by omega) (by omega)
  rw [hm]
  show IntKind.u32.wrap ((BitVec.ofInt 32 ((4294967295 : Nat) : Int) ^^^ BitVec.ofInt 32 (s : Int)).toNat : Int) = _
  rw [BitVec.toNat_xor, ofInt_u32 _ (by omega), ofInt_u32 s hs, xor_cpl s hs]
  have := cpl_lt s
  exact IntWalk.u32_in _ (by omega)
theorem u32_not' (s : Nat) (hs : s < 4294967296) : bits .xor .u32 (if IntKind.u32.signed = true then -1 else IntKind.u32.max) (s : Int) = ((cpl s : Nat) : Int) := by
  rw [← u32_not s hs, if_neg (by decide)]
theorem u32_andNot (a b : Nat) (ha : a < 4294967296) (hb : b < 4294967296) : bits .andNot .u32 (a : Int) (b : Int) = ((a &&& cpl b : Nat) : Int) := by
  have hx : a &&& cpl b < 2 ^ 32 := Nat.lt_of_le_of_lt Nat.and_le_left (by omega)
  show IntKind.u32.wrap ((BitVec.ofInt 32 (a : Int) &&& ~~~ BitVec.ofInt 32 (b : Int)).toNat : Int) = _
  rw [BitVec.toNat_and, BitVec.toNat_not, ofInt_u32 a ha, ofInt_u32 b hb]
  show IntKind.u32.wrap ((a &&& cpl b : Nat) : Int) = _
  exact IntWalk.u32_in _ (by omega)
theorem shr_u32 (s : Nat) (o : Int) (ho : 0 ≤ o ∧ o < 7) (w : World) : (Op.shift .shr .u32 (s : Int) .i64 o).run Try.prog w = .ok (.int .u32 ((s / 2 ^ o.toNat : Nat) : Int)) w := by
  rw [shift_shr_any _ _ _ _ ho.1]
  have hm : min o.toNat IntKind.u32.bits = o.toNat := by
    have : IntKind.u32.bits = 32 := rfl
    omega
  rw [hm]
  show Result.ok _ w = _
  congr 2
theorem shl_u32 (o : Int) (ho : 0 ≤ o ∧ o < 7) (w : World) : (Op.shift .shl .u32 1 .i64 o).run Try.prog w = .ok (.int .u32 ((2 ^ o.toNat : Nat) : Int)) w := by
  rw [shift_shl_any _ _ _ _ ho.1]
  have hm : min o.toNat IntKind.u32.bits = o.toNat := by
    have : IntKind.u32.bits = 32 := rfl
    omega
  rw [hm]
  have hp : 2 ^ o.toNat < 2 ^ 32 := Nat.pow_lt_pow_right (by omega) (by omega)
  have he : ((2 : Int) ^ o.toNat) = ((2 ^ o.toNat : Nat) : Int) := by simp
  show Result.ok _ w = _
  congr 2
  rw [Int.one_mul, he]
  generalize 2 ^ o.toNat = y at *
  exact IntWalk.u32_in _ (by omega)
theorem bit_shr (s j : Nat) (hs : s < 4294967296) : bits .and .u32 ((s / 2 ^ j : Nat) : Int) 1 = if s.testBit j then 1 else 0 := by
  have h := u32_and (s / 2 ^ j) 1 (Nat.lt_of_le_of_lt (Nat.div_le_self _ _) hs) (by omega)
  rw [show ((1 : Nat) : Int) = 1 from rfl] at h
  rw [h, Nat.and_one_is_mod, Nat.testBit_eq_decide_div_mod_eq]
  by_cases hb : s / 2 ^ j % 2 = 1
  · rw [hb]; simp
  · have : s / 2 ^ j % 2 = 0 := by omega
    rw [this]; simp

end Go.Proofs.Ytkildlonenjmaaa
