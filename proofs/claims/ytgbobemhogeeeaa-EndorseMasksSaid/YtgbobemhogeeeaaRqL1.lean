/-
  The law's own calls: fixed (calls whose answers the document fixes).
-/
import Derived.Test.YtgbobemhogeeeaaRqV
import Derived.Test.YtgbobemhogeeeaaRqPp
namespace Go.Proofs.Ytgbobemhogeeeaa
open Go.RowKit

def fixC : Cr := ⟨4, 1, 2, [97], 0, 0, []⟩
theorem fixc_len : (encCr fixC).length = 35 := by kernel_rfl
theorem fixc_chk : chkC fixC 4 = 0 := by kernel_rfl
theorem fixc_p4 : parseCr 35 (encCr fixC) 4 = (fixC, 0) := by kernel_rfl
theorem fixc_p5 : parseCr 35 (encCr fixC) 5 = (Cr.no, 17) := by kernel_rfl
theorem fixc_nil : parseP [] 4 = (Rq.no, 2) := by kernel_rfl
theorem Try.build_c4 (a : ByteArray) (i j k : Int) (w : World) : (Instr.build 23 #[(0, .int .i64 i), (1, .int .i64 j), (2, .int .i64 k), (3, .string a)]).run Try.prog w = .ok (.agg #[.int .i64 i, .int .i64 j, .int .i64 k, .string a, .int .i64 0, .int .i64 0, .string (ba [])]) w := by kernel_rfl

end Go.Proofs.Ytgbobemhogeeeaa
