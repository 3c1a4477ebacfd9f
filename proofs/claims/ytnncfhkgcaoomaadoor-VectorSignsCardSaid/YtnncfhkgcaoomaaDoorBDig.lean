/-
  A kind, as a byte.
-/
import Derived.Test.YtnncfhkgcaoomaaDoorBTag
namespace Go.Proofs.YtnncfhkgcaoomaaDoor
open Go.RowKit

/-- a kind, as a byte -/
def kb (k : Int) : UInt8 := UInt8.ofNat (k % 256).toNat
theorem kb_wrap (k : Int) : IntKind.u8.wrap k = ((kb k).toNat : Int) := by
  simp only [IntKind.wrap, IntKind.bits, IntKind.signed]
  unfold kb
  rw [UInt8.toNat_ofNat']
  simp
  omega
theorem kb_mod (k : Int) : k % 256 = ((kb k).toNat : Int) := by
  unfold kb
  rw [UInt8.toNat_ofNat']
  omega

end Go.Proofs.YtnncfhkgcaoomaaDoor
