/-
  The law's fixed calls.
-/
import Derived.Test.YtkildlonenjmaaaF15
namespace Go.Proofs.Ytkildlonenjmaaa
open Go.RowKit

set_option maxHeartbeats 8000000 in
set_option maxRecDepth 100000 in
theorem ffixed_any (w : World) : Calls Try.prog 20 #[] w fun e w' => e = .returned (.bool true) ∧ Below w.heap.size w w' := by
  have Hhc1 := Lib.hid (T3_hc1 w.heap.size)
  have Hhc2 := Lib.hid (T3_hc2 w.heap.size)
  have Hhc3 := Lib.hid (T3_hc3 w.heap.size)
  have Hhc4 := Lib.hid (T3_hc4 w.heap.size)
  have Hhc5 := Lib.hid (T3_hc5 w.heap.size)
  have Hhc6 := Lib.hid (T3_hc6 w.heap.size)
  have Hhc7 := Lib.hid (T3_hc7 w.heap.size)
  have Hhc8 := Lib.hid (T3_hc8 w.heap.size)
  have Hhc9 := Lib.hid (T3_hc9 w.heap.size)
  have hN0 : Blk ((w.alloc (.cells #[.int .i64 0, .int .i64 0, .slice none 0 0, .int .i64 1, .int .i64 0, .slice none 0 0, .int .i64 2, .int .i64 0, .slice none 0 0] 33)).alloc (.cells #[.int .i64 0, .int .i64 2, .slice (some ⟨w.heap.size, 0, none⟩) 3 3] 33)) w.heap.size 33 [.int .i64 0, .int .i64 0, .slice none 0 0, .int .i64 1, .int .i64 0, .slice none 0 0, .int .i64 2, .int .i64 0, .slice none 0 0] := (Blk.fresh rfl rfl).alloc _
  have hB0 : Blk ((w.alloc (.cells #[.int .i64 0, .int .i64 0, .slice none 0 0, .int .i64 1, .int .i64 0, .slice none 0 0, .int .i64 2, .int .i64 0, .slice none 0 0] 33)).alloc (.cells #[.int .i64 0, .int .i64 2, .slice (some ⟨w.heap.size, 0, none⟩) 3 3] 33)) (w.heap.size + 1) 33 [.int .i64 0, .int .i64 2, .slice (some ⟨w.heap.size, 0, none⟩) 3 3] := Blk.fresh (by simp) rfl
  have hX0 : Below w.heap.size w ((w.alloc (.cells #[.int .i64 0, .int .i64 0, .slice none 0 0, .int .i64 1, .int .i64 0, .slice none 0 0, .int .i64 2, .int .i64 0, .slice none 0 0] 33)).alloc (.cells #[.int .i64 0, .int .i64 2, .slice (some ⟨w.heap.size, 0, none⟩) 3 3] 33)) := ((Below.refl _ w).alloc (Nat.le_refl _) _).alloc (by simp) _
  have HN0 := Lib.hid hN0
  have HB0 := Lib.hid hB0
  have HX0 := Lib.hid hX0
  clear hN0 hB0 hX0
  go_enter Try.func20, Try.ntmps20
  go_wp2_with (first
    | (go_at_call 34; (with_reducible refine (Hhc9.out _ (T3_in HNw8.out)).mono ?_); rintro e w9 ⟨rfl, hb⟩; have HXw9 := Lib.hid (HXw8.out.trans (hb.mono HXw8.out.size)); have HNw9 := Lib.hid (HNw8.out.through hb); have HBw9 := Lib.hid (HBw8.out.through hb); clear hb)
    | (refine wpList_load_blk_g 33 (.tmp 1) rfl (by kernel_rfl) (w.heap.size + 1) rfl 33 [.int .i64 0, .int .i64 2, .slice (some ⟨w.heap.size, 0, none⟩) 3 3] _ HBw8.out Try.underlying33 rfl (by kernel_rfl) ?_)
    | (go_at_call 28; (with_reducible refine (Hhc8.out _ (T3_in HNw7.out)).mono ?_); rintro e w8 ⟨rfl, hb⟩; have HXw8 := Lib.hid (HXw7.out.trans (hb.mono HXw7.out.size)); have HNw8 := Lib.hid (HNw7.out.through hb); have HBw8 := Lib.hid (HBw7.out.through hb); clear hb)
    | (refine wpList_load_blk_g 33 (.tmp 1) rfl (by kernel_rfl) (w.heap.size + 1) rfl 33 [.int .i64 0, .int .i64 2, .slice (some ⟨w.heap.size, 0, none⟩) 3 3] _ HBw7.out Try.underlying33 rfl (by kernel_rfl) ?_)
    | (go_at_call 28; (with_reducible refine (Hhc7.out _ (T3_in HNw6.out)).mono ?_); rintro e w7 ⟨rfl, hb⟩; have HXw7 := Lib.hid (HXw6.out.trans (hb.mono HXw6.out.size)); have HNw7 := Lib.hid (HNw6.out.through hb); have HBw7 := Lib.hid (HBw6.out.through hb); clear hb)
    | (refine wpList_load_blk_g 33 (.tmp 1) rfl (by kernel_rfl) (w.heap.size + 1) rfl 33 [.int .i64 0, .int .i64 2, .slice (some ⟨w.heap.size, 0, none⟩) 3 3] _ HBw6.out Try.underlying33 rfl (by kernel_rfl) ?_)
    | (go_at_call 27; (with_reducible refine (Hhc6.out _ (T3_in HNw5.out)).mono ?_); rintro e w6 ⟨rfl, hb⟩; have HXw6 := Lib.hid (HXw5.out.trans (hb.mono HXw5.out.size)); have HNw6 := Lib.hid (HNw5.out.through hb); have HBw6 := Lib.hid (HBw5.out.through hb); clear hb)
    | (refine wpList_load_blk_g 33 (.tmp 1) rfl (by kernel_rfl) (w.heap.size + 1) rfl 33 [.int .i64 0, .int .i64 2, .slice (some ⟨w.heap.size, 0, none⟩) 3 3] _ HBw5.out Try.underlying33 rfl (by kernel_rfl) ?_)
    | (go_at_call 26; (with_reducible refine (Hhc5.out _ (T3_in HNw4.out)).mono ?_); rintro e w5 ⟨rfl, hb⟩; have HXw5 := Lib.hid (HXw4.out.trans (hb.mono HXw4.out.size)); have HNw5 := Lib.hid (HNw4.out.through hb); have HBw5 := Lib.hid (HBw4.out.through hb); clear hb)
    | (refine wpList_load_blk_g 33 (.tmp 1) rfl (by kernel_rfl) (w.heap.size + 1) rfl 33 [.int .i64 0, .int .i64 2, .slice (some ⟨w.heap.size, 0, none⟩) 3 3] _ HBw4.out Try.underlying33 rfl (by kernel_rfl) ?_)
    | (go_at_call 25; (with_reducible refine (Hhc4.out _ (T3_in HNw3.out)).mono ?_); rintro e w4 ⟨rfl, hb⟩; have HXw4 := Lib.hid (HXw3.out.trans (hb.mono HXw3.out.size)); have HNw4 := Lib.hid (HNw3.out.through hb); have HBw4 := Lib.hid (HBw3.out.through hb); clear hb)
    | (refine wpList_load_blk_g 33 (.tmp 1) rfl (by kernel_rfl) (w.heap.size + 1) rfl 33 [.int .i64 0, .int .i64 2, .slice (some ⟨w.heap.size, 0, none⟩) 3 3] _ HBw3.out Try.underlying33 rfl (by kernel_rfl) ?_)
    | (go_at_call 25; (with_reducible refine (Hhc3.out _ (T3_in HNw2.out)).mono ?_); rintro e w3 ⟨rfl, hb⟩; have HXw3 := Lib.hid (HXw2.out.trans (hb.mono HXw2.out.size)); have HNw3 := Lib.hid (HNw2.out.through hb); have HBw3 := Lib.hid (HBw2.out.through hb); clear hb)
    | (refine wpList_load_blk_g 33 (.tmp 1) rfl (by kernel_rfl) (w.heap.size + 1) rfl 33 [.int .i64 0, .int .i64 2, .slice (some ⟨w.heap.size, 0, none⟩) 3 3] _ HBw2.out Try.underlying33 rfl (by kernel_rfl) ?_)
    | (go_at_call 22; (with_reducible refine (Hhc2.out _ (T3_in HNw1.out)).mono ?_); rintro e w2 ⟨rfl, hb⟩; have HXw2 := Lib.hid (HXw1.out.trans (hb.mono HXw1.out.size)); have HNw2 := Lib.hid (HNw1.out.through hb); have HBw2 := Lib.hid (HBw1.out.through hb); clear hb)
    | (refine wpList_load_blk_g 33 (.tmp 1) rfl (by kernel_rfl) (w.heap.size + 1) rfl 33 [.int .i64 0, .int .i64 2, .slice (some ⟨w.heap.size, 0, none⟩) 3 3] _ HBw1.out Try.underlying33 rfl (by kernel_rfl) ?_)
    | (go_at_call 22; (with_reducible refine (Hhc1.out _ (T3_in HN0.out)).mono ?_); rintro e w1 ⟨rfl, hb⟩; have HXw1 := Lib.hid (HX0.out.trans (hb.mono HX0.out.size)); have HNw1 := Lib.hid (HN0.out.through hb); have HBw1 := Lib.hid (HB0.out.through hb); clear hb)
    | (refine wpList_load_blk_g 33 (.tmp 1) rfl (by kernel_rfl) (w.heap.size + 1) rfl 33 [.int .i64 0, .int .i64 2, .slice (some ⟨w.heap.size, 0, none⟩) 3 3] _ HB0.out Try.underlying33 rfl (by kernel_rfl) ?_))
  go_ret
  exact ⟨rfl, HXw9.out⟩

end Go.Proofs.Ytkildlonenjmaaa
