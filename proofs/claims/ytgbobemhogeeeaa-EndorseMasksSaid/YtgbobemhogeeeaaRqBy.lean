/-
  The program's Bytes of a request, walked.
-/
import Derived.Test.YtgbobemhogeeeaaRqS
import Derived.Test.YtgbobemhogeeeaaRqT
import Derived.Test.YtgbobemhogeeeaaRqA
namespace Go.Proofs.Ytgbobemhogeeeaa
open Go.RowKit

theorem range_through {w w' : World} {g o : Nat} {cs : List Value} (h : w.rangeAt g o cs) (hb : Below w.heap.size w w') : w'.rangeAt g o cs := fun j v hv =>
  (hb.cell (p := ⟨g, o + j, none⟩) (World.block_lt_of_cell? w _ (h j v hv))).trans (h j v hv)
theorem own_through {w w' : World} {base sz n : Nat} {e : TypeId} {v : Value} {xs : List Value} (h : w.ownsRow base e sz v n xs) (hb : Below w.heap.size w w') : w'.ownsRow base e sz v n xs :=
  h.kept (only_below (g := w.heap.size) hb) (.inr (fun e => by have := h.lt _ e; omega))
theorem conv_by (y : Int) (w : World) : (convert 3 5 (.int .i64 y)).run Try.prog w = .ok (.int .u8 (((u64N y : Nat) : Int) % 256)) w := by
  have e : IntKind.u8.wrap y = ((u64N y : Nat) : Int) % 256 := by
    simp [IntKind.wrap, IntKind.signed, IntKind.bits, u64N]
    omega
  simp [convert, run_underlying Try.underlying3, run_underlying Try.underlying5, Conv.intToInt, e]
theorem u8_by (y : Int) : u8 (UInt8.ofNat (u64N y)) = .int .u8 (((u64N y : Nat) : Int) % 256) := by
  simp [u8]

end Go.Proofs.Ytgbobemhogeeeaa
