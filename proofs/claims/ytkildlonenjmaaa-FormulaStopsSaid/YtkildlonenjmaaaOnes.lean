/-
  math/bits.OnesCount32, of a number below 128.
-/
import Derived.Test.YtkildlonenjmaaaU32
namespace Go.Proofs.Ytkildlonenjmaaa
open Go.RowKit

/-- how many of the first i are in a set -/
def cntTo (s : Nat) : Nat → Nat | 0 => 0 | i + 1 => cntTo s i + if s.testBit i then 1 else 0
def cnt (s : Nat) : Nat := cntTo s 7
theorem ret_int {k : IntKind} {a b : Int} (h : a = b) : Ending.returned (Value.int k a) = Ending.returned (.int k b) := by rw [h]

set_option maxHeartbeats 4000000 in
set_option maxRecDepth 100000 in
theorem ones_any (s : Nat) (hs : s < 128) (w : World) :
    Calls Try.prog 47 #[.int .u32 (s : Int)] w fun e w' => e = .returned (.int .i64 (cnt s : Int)) ∧ Below w.heap.size w w' := by
  have hd8 : (s : Int) / 256 = 0 := by omega
  have hd16 : (s : Int) / 65536 = 0 := by omega
  have hd24 : (s : Int) / 16777216 = 0 := by omega
  have ha0 : bits .and .u32 0 255 = 0 := by decide
  have ha1 : bits .and .u32 (s : Int) 255 = s := by
    rw [show (255 : Int) = ((255 : Nat) : Int) from rfl, u32_and s 255 (by omega) (by omega)]
    congr 1
    exact Nat.and_two_pow_sub_one_of_lt_two_pow (n := 8) (by omega)
  have hb : (0 : Int) ≤ (s : Int) ∧ (s : Int) < 256 := by omega
  have hb2 : ((0 : Int) ≤ (s : Int)) = True := by simp
  have hb3 : ((s : Int) < 256) = True := by simp; omega
  go_enter Try.func47, Try.ntmps47
  go_wp2
  go_region
  go_wp2
  go_ret
  refine ⟨ret_int ?_, (Below.refl _ w).drew⟩
  simp only [← getElem!_pos]
  clear hd8 hd16 hd24 ha0 ha1 hb hb2 hb3 w
  obtain ⟨t, rfl⟩ : ∃ t : Fin 128, t.val = s := ⟨⟨s, hs⟩, rfl⟩
  clear hs
  revert t
  decide +kernel

end Go.Proofs.Ytkildlonenjmaaa
