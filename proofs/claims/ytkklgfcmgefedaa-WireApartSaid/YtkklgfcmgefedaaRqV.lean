/-
  Two cores, two tags, compared. No walk here.
-/
import Derived.Test.YtkklgfcmgefedaaRqT
namespace Go.Proofs.Ytkklgfcmgefedaa
open Go.RowKit

theorem Blk.whole {w : World} {g : Nat} {t : TypeId} {cs : List Value} (h : Blk w g t cs) : w.rangeAt g 0 cs := Blk.range (pre := []) (post := []) (by simpa using h)
theorem eqb_ba (a b : List UInt8) : ((ba a).toList == (ba b).toList) = (a == b) := by rw [ba_list, ba_list]
theorem tag_eq (xs ys : List UInt8) (hx : xs.length = 32) (hy : ys.length = 32) (w : World) : (binOp .eql 40 (.agg (vs xs).toArray) (.agg (vs ys).toArray)).run Try.prog w = .ok (.bool (xs == ys)) w :=
  run_eql_bytes w 40 5 32 Try.underlying40 Try.underlying5 (by kernel_rfl) (by kernel_rfl) xs ys hx hy
theorem tag_ne (xs ys : List UInt8) (hx : xs.length = 32) (hy : ys.length = 32) (w : World) : (binOp .neq 40 (.agg (vs xs).toArray) (.agg (vs ys).toArray)).run Try.prog w = .ok (.bool (!(xs == ys))) w := arr_neq (fun w => tag_eq xs ys hx hy w) w

end Go.Proofs.Ytkklgfcmgefedaa
