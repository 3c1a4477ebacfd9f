/-
  Joined: SwD.
-/
import Derived.Deep.RegionHeld
import Derived.Deep.CutBlock
import Derived.Test.YtponmfkddglopaaWU30
import Derived.Test.YtponmfkddglopaaWU22
import Derived.Test.YtponmfkddglopaaWU11
namespace Go.Proofs.Ytponmfkddglopaa
open Go.RowKit

theorem Try.bld_slot (n : Int) (a b : Option Addr) (w : World) : (Instr.build 61 #[(0, .int .i64 n), (4, .pointer a), (5, .pointer b)]).run Try.prog w = .ok (.agg (slC (Slt.no n) (.slice none 0 0) (.pointer a) (.pointer b)).toArray) w := by kernel_rfl
set_option maxHeartbeats 16000000 in
set_option maxRecDepth 100000 in
theorem new_sw (n : Int) (w : World) (h1 : 1 ≤ n) (h7 : n ≤ 7) :
  Calls Try.prog 21 #[.int .i64 n] w fun e w' => ∃ R gp pv pc gm mv mc, e = .returned (.pointer (some ⟨R, 0, none⟩)) ∧ SwR w' R gp pv pc gm mv mc (.slice none 0 0) (Slt.no n) ∧ Below w.heap.size w w' ∧ ∀ q, DS R gp pv pc gm mv mc (.slice none 0 0) q → w.heap.size ≤ q := by
 go_enter Try.func21, Try.ntmps21
 go_wp2_with (first
  | (go_at_call 26; (with_reducible refine (new_D w).mono ?_); rintro e w1 ⟨gp, pv, pc, rfl, h9, hb9, hq9⟩; have HP1 := Lib.hid h9; have HX1 := Lib.hid hb9; have HQ1 := Lib.hid hq9; clear h9 hb9 hq9)
  | (go_at_call 26; (with_reducible refine (new_D w1).mono ?_); rintro e w2 ⟨gm, mv, mc, rfl, h9, hb9, hq9⟩; have HM2 := Lib.hid h9; have HX2 := Lib.hid hb9; have HQ2 := Lib.hid hq9; have HP2 := Lib.hid (HP1.out.through hb9); clear h9 hb9 hq9)
  | (refine wpList_build_to rfl 61 _ rfl [(0, .int .i64 n), (4, .pointer (some ⟨gp, 0, none⟩)), (5, .pointer (some ⟨gm, 0, none⟩))] rfl (.agg (slC (Slt.no n) (.slice none 0 0) (.pointer (some ⟨gp, 0, none⟩)) (.pointer (some ⟨gm, 0, none⟩))).toArray) (Try.bld_slot n _ _ _) ?_))
 go_ret
 have x3 := below1_ w2 (.cells (slC (Slt.no n) (.slice none 0 0) (.pointer (some ⟨gp, 0, none⟩)) (.pointer (some ⟨gm, 0, none⟩))).toArray 61)
 have s1 := HX1.out.size
 have s2 := HX2.out.size
 refine ⟨w2.heap.size, gp, pv, pc, gm, mv, mc, rfl, ⟨Blk.fresh rfl rfl, HP2.out.through x3, HM2.out.through x3, OEy.nil _ _, rfl, fun q ha hb => ?_, fun q hq => by simp [Value.ownBlock] at hq⟩, below_step (below_step HX1.out HX2.out) x3, ?_⟩
 ·have := HP1.out.lt q ha
  have := HQ2.out q hb
  omega
 ·rintro q (rfl | hq | hq | hq)
  ·omega
  ·exact HQ1.out q hq
  ·have := HQ2.out q hq; omega
  ·simp [Value.ownBlock] at hq
end Go.Proofs.Ytponmfkddglopaa
