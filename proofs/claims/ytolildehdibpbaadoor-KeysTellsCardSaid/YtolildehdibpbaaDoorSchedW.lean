/-
  THE WORDS OF A BLOCK, CELL BY CELL: what the program's schedule has made behind each round of its two loops. No walk here.
-/
import Derived.Test.YtolildehdibpbaaDoorRowW
namespace Go.Proofs.YtolildehdibpbaaDoor
open Go.RowKit

theorem beW_snoc (l : List UInt8) (x : UInt8) : beW (l ++ [x]) = (beW l <<< 8) ||| x.toUInt32 := by simp [beW]
theorem w32_pack (y : UInt32) (x : UInt8) : bits .or .u32 (n32 y * 256 % 4294967296) (x.toNat : Int) = n32 ((y <<< 8) ||| x.toUInt32) := by
  have e1 : n32 y * (256 : Int) % (4294967296 : Int) = n32 (y <<< 8) := by
    unfold n32
    rw [UInt32.toNat_shiftLeft]
    simp [Nat.shiftLeft_eq]
  have e2 : (x.toNat : Int) = n32 x.toUInt32 := by unfold n32; simp
  rw [e1, e2, w32_or]

/-- The word j when k bytes have been read. -/
def pw (b : List UInt8) (k j : Nat) : UInt32 := beW (((b.take k).drop (4 * j)).take 4)
theorem pw_step (b : List UInt8) (k : Nat) (hk : k < b.length) : pw b (k + 1) (k / 4) = (pw b k (k / 4) <<< 8) ||| b[k].toUInt32 := by
  unfold pw
  rw [← beW_snoc, List.take_succ_eq_append_getElem hk, List.drop_append_of_le_length (by rw [List.length_take]; omega)]
  congr 1
  have hl : ((b.take k).drop (4 * (k / 4))).length ≤ 3 := by rw [List.length_drop, List.length_take]; omega
  rw [List.take_of_length_le (l := (b.take k).drop (4 * (k / 4)) ++ [b[k]]) (by simp only [List.length_append, List.length_singleton]; omega), List.take_of_length_le (l := (b.take k).drop (4 * (k / 4))) (by omega)]
theorem pw_other (b : List UInt8) (k j : Nat) (hk : k < b.length) (hj : j ≠ k / 4) : pw b (k + 1) j = pw b k j := by
  unfold pw
  rw [List.take_succ_eq_append_getElem hk]
  rcases (by omega : j < k / 4 ∨ k / 4 < j) with h | h
  · rw [List.drop_append_of_le_length (by rw [List.length_take]; omega), List.take_append_of_le_length (by simp; omega)]
  · rw [List.drop_eq_nil_of_le (by simp; omega), List.drop_eq_nil_of_le (by simp; omega)]

def pcs (b : List UInt8) (k : Nat) : List Value := (List.range 64).map fun j => c32 (pw b k j)
theorem pcs_get (b : List UInt8) (k j : Nat) (hj : j < 64) : (pcs b k)[j]? = some (c32 (pw b k j)) := by simp [pcs, hj]
theorem pcs_0 (b : List UInt8) : pcs b 0 = List.replicate 64 (c32 0) := by
  apply List.ext_getElem?
  intro j
  simp only [pcs, List.getElem?_map, List.getElem?_replicate]
  by_cases hj : j < 64
  · simp [hj, pw, beW]
  · simp [hj]
theorem pcs_set (b : List UInt8) (k : Nat) (hb : b.length = 64) (hk : k < 64) : (pcs b k).set (k / 4) (c32 ((pw b k (k / 4) <<< 8) ||| (b.getD k 0).toUInt32)) = pcs b (k + 1) := by
  have hk' : k < b.length := by omega
  have e0 : b.getD k 0 = b[k] := by simp [List.getD, hk']
  rw [e0]
  apply List.ext_getElem?
  intro j
  rw [List.getElem?_set]
  by_cases hj : k / 4 = j
  · subst hj
    rw [if_pos rfl, if_pos (by simp [pcs]; omega), pcs_get b (k + 1) _ (by omega), pw_step b k (by omega)]
  · rw [if_neg hj]
    by_cases h64 : j < 64
    · rw [pcs_get b k j h64, pcs_get b (k + 1) j h64, pw_other b k j (by omega) (fun e => hj e.symm)]
    · simp [pcs, h64]

/-- The cells when i words are there. -/
def scs (b : List UInt8) (i : Nat) : List Value := (wds b i).map c32 ++ List.replicate (64 - i) (c32 0)
theorem scs_get (b : List UInt8) (i j : Nat) (hj : j < i) : (scs b i)[j]? = some (c32 ((wds b i).getD j 0)) := by
  have hl := wds_length b i
  unfold scs
  rw [List.getElem?_append_left (by simp; omega), List.getElem?_map, List.getElem?_eq_getElem (by omega)]
  simp [List.getD, hl, hj]
theorem scs_zero (b : List UInt8) (i : Nat) (hi : i < 64) : (scs b i)[i]? = some (c32 0) := by
  have hl := wds_length b i
  unfold scs
  rw [List.getElem?_append_right (by simp; omega), List.getElem?_replicate, if_pos (by simp; omega)]
theorem scs_set (b : List UInt8) (i : Nat) (hi : i < 64) : (scs b i).set i (c32 (nextW (wds b i) b i)) = scs b (i + 1) := by
  have hl := wds_length b i
  unfold scs
  rw [wds, List.map_append, List.set_append_right _ _ (by simp; omega)]
  have e : 64 - i = (64 - (i + 1)) + 1 := by omega
  rw [e, List.replicate_succ]
  simp [hl]
theorem scs_64 (b : List UInt8) : scs b 64 = (wds b 64).map c32 := by simp [scs]
theorem pcs_64 (b : List UInt8) (hb : b.length = 64) : pcs b 64 = scs b 16 := by
  apply List.ext_getElem?
  intro j
  by_cases h64 : j < 64
  · rw [pcs_get b 64 j h64]
    have ht : b.take 64 = b := List.take_of_length_le (by omega)
    by_cases hj : j < 16
    · rw [scs_get b 16 j hj, wds_at b 16 j hj, nextW, if_pos hj, pw, ht, wordAt]
    · have hl := wds_length b 16
      unfold scs
      rw [List.getElem?_append_right (by simp; omega), List.getElem?_replicate, if_pos (by simp; omega), pw, List.drop_eq_nil_of_le (by simp; omega)]
      simp [beW]
  · have hl := wds_length b 16
    rw [List.getElem?_eq_none (by simp [pcs]; omega), List.getElem?_eq_none (by simp [scs]; omega)]

end Go.Proofs.YtolildehdibpbaaDoor
