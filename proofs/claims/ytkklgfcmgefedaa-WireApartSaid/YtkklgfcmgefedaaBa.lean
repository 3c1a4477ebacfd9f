/-
  Strings as lists of bytes: how long, the byte at a place, a part, the same; an iterator. No walk here.
-/
import Derived.Test.YtkklgfcmgefedaaFBase
import Derived.Laws.RangeAny
import Derived.Laws.Strings3
import Derived.Laws.Concat
namespace Go.Proofs.Ytkklgfcmgefedaa
open Go.RowKit

/-- the string of these bytes -/
def ba (l : List UInt8) : ByteArray := ⟨l.toArray⟩
theorem ba_size (l : List UInt8) : (ba l).size = l.length := by simp [ba, ByteArray.size]
theorem ba_list (l : List UInt8) : (ba l).toList = l := ByteArray.toList_mk l
theorem ba_of (b : ByteArray) : b = ba b.data.toList := by cases b; simp [ba]
theorem ba_get (l : List UInt8) (i : Nat) (h : i < (ba l).size) : (ba l)[i]'h = l[i]'(by rw [ba_size] at h; exact h) := by
  show ((ba l).data)[i] = _
  simp [ba]

section
variable {P : Program} {t : TypeId}
theorem run_index_ba (ht : P.underlying t = some .string) (l : List UInt8) (k : IntKind) (i : Int) (n : Nat) (hi : i = n) (x : UInt8) (hx : l[n]? = some x) (w : World) : (Instr.index t (.string (ba l)) (.int k i)).run P w = .ok (.int .u8 x.toNat) w := by
  subst hi
  have hn : n < l.length := (List.getElem?_eq_some_iff.1 hx).1
  rw [run_index_string w t (ba l) k n ht, dif_pos ⟨by omega, by rw [ba_size]; omega⟩]
  have := ba_get l n (by rw [ba_size]; exact hn)
  have h2 : l[n] = x := (List.getElem?_eq_some_iff.1 hx).2
  simp only [Int.toNat_natCast]
  rw [this, h2]
theorem ba_extract (l : List UInt8) (i j : Nat) : (ba l).extract i j = ba ((l.take j).drop i) := by
  apply ByteArray.ext
  simp [ba, ByteArray.data_extract, List.drop_take]
theorem run_from_ba (ht : P.underlying t = some .string) (l : List UInt8) (k : IntKind) (i : Int) (n : Nat) (hi : i = n) (hn : n ≤ l.length) (w : World) : (Instr.slice t (.string (ba l)) (some (.int k i)) none none).run P w = .ok (.string (ba (l.drop n))) w := by
  subst hi
  rw [run_slice_string_from_if w t (ba l) k n ht, if_pos ⟨by omega, by rw [ba_size]; omega⟩, ba_size, Int.toNat_natCast, ba_extract, List.take_of_length_le (Nat.le_refl _)]
theorem run_to_ba (ht : P.underlying t = some .string) (l : List UInt8) (k : IntKind) (i : Int) (n : Nat) (hi : i = n) (hn : n ≤ l.length) (w : World) : (Instr.slice t (.string (ba l)) none (some (.int k i)) none).run P w = .ok (.string (ba (l.take n))) w := by
  subst hi
  rw [run_slice_string_to_if w t (ba l) k n ht, if_pos ⟨by omega, by rw [ba_size]; omega⟩, Int.toNat_natCast, ba_extract, List.drop_zero]
end

theorem ret_str {a b : ByteArray} (h : a = b) : Ending.returned (Value.string a) = Ending.returned (.string b) := by rw [h]

end Go.Proofs.Ytkklgfcmgefedaa
