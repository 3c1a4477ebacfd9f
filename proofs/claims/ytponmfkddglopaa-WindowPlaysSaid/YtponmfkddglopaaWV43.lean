/-
  Joined: WnO.
-/
import Derived.Test.YtponmfkddglopaaWV42
namespace Go.Proofs.Ytponmfkddglopaa
open Go.RowKit

set_option maxHeartbeats 16000000 in
set_option maxRecDepth 100000 in
theorem rat_out (L : Nat) (n low q : Int) (sv tv : Value) (w : World) (h : Blk w L 38 (lgC n low sv tv)) (h0 : 0 ≤ low) (h1 : low ≤ 1048576)
  (hin : (decide (low < q) && decide (q ≤ low + 8) && decide (q ≤ 1048576)) = false) :
  Calls Try.prog 13 #[(.pointer (some ⟨L, 0, none⟩)), .int .i64 q] w fun e w' => e = .returned (.pointer none) ∧ w' = w := by
 have HB := Lib.hid h
 have HL0 := Lib.hid h0
 have HL1 := Lib.hid h1
 have HIn := Lib.hid hin
 clear h h0 h1 hin
 go_enter Try.func13, Try.ntmps13
 go_wp2_with (first
  | (go_at_call 18; (with_reducible refine (rin_any L n low q _ _ w HB.out HL0.out HL1.out).mono ?_); rintro e w9 ⟨rfl, hw9⟩; have hw8 := hw9.symm; clear hw9; subst hw8; rw [HIn.out]))
 go_ret
 exact ⟨rfl, rfl⟩

end Go.Proofs.Ytponmfkddglopaa
