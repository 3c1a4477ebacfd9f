/-
  The law's calls whose answers the document fixes.
-/
import Derived.Test.YtjdglfjbfejcdaaDoorLS
import Derived.Test.YtjdglfjbfejcdaaDoorLO
namespace Go.Proofs.YtjdglfjbfejcdaaDoor
open Go.RowKit

theorem fix1 : stepL ⟨[120], 0, 0, 0, [], []⟩ 1 5 9 [48] = (⟨[120], 1, 5, 9, [48], []⟩, 0) := by kernel_rfl
theorem fix2 : stepL ⟨[120], 1, 5, 9, [48], []⟩ 7 0 0 [] = (Lt.no, 8) := by kernel_rfl
theorem fix3 : stepL ⟨[120], 1, 5, 9, [48], []⟩ 2 0 0 [] = (⟨[120], 2, 5, 9, [48], []⟩, 0) := by kernel_rfl
theorem Tryd.build_x (nm : ByteArray) (w : World) : (Instr.build 23 #[(0, .string nm)]).run Tryd.prog w = .ok (.agg #[.string nm, .int .i64 0, .int .i64 0, .int .i64 0, .string (ba []), .string (ba [])]) w := by kernel_rfl
theorem Tryd.build_5 (nm po : ByteArray) (st am du : Int) (w : World) : (Instr.build 23 #[(0, .string nm), (1, .int .i64 st), (2, .int .i64 am), (3, .int .i64 du), (4, .string po)]).run Tryd.prog w = .ok (.agg #[.string nm, .int .i64 st, .int .i64 am, .int .i64 du, .string po, .string (ba [])]) w := by kernel_rfl

set_option maxHeartbeats 4000000 in
set_option maxRecDepth 100000 in
theorem fixed_any (w : World) (hl : Led w) : Calls Tryd.prog 5 #[] w fun e w' => e = .returned (.bool true) ∧ Below w.heap.size w w' := by
  have hbx := Tryd.build_x
  have hb5 := Tryd.build_5
  have hz := Tryd.zero_lt
  have h1 : ∀ W, Led W → Calls Tryd.prog 6 #[.agg #[.string ⟨#[120]⟩, .int .i64 0, .int .i64 0, .int .i64 0, .string (ba []), .string (ba [])], .int .i64 1, .int .i64 5, .int .i64 9, .string ⟨#[48]⟩] W fun e w' => e = .returned (.tuple #[.agg #[.string (ba [120]), .int .i64 1, .int .i64 5, .int .i64 9, .string (ba [48]), .string (ba [])], .int .i64 0]) ∧ Below W.heap.size W w' := fun W h => by
    have := step_any ⟨[120], 0, 0, 0, [], []⟩ 1 5 9 [48] W h
    rw [fix1] at this
    exact this
  have h2 : ∀ W, Led W → Calls Tryd.prog 6 #[.agg #[.string (ba [120]), .int .i64 1, .int .i64 5, .int .i64 9, .string (ba [48]), .string (ba [])], .int .i64 7, .int .i64 0, .int .i64 0, .string ⟨#[]⟩] W fun e w' => e = .returned (.tuple #[.agg #[.string (ba []), .int .i64 0, .int .i64 0, .int .i64 0, .string (ba []), .string (ba [])], .int .i64 8]) ∧ Below W.heap.size W w' := fun W h => by
    have := step_any ⟨[120], 1, 5, 9, [48], []⟩ 7 0 0 [] W h
    rw [fix2] at this
    exact this
  have h3 : ∀ W, Led W → Calls Tryd.prog 6 #[.agg #[.string (ba [120]), .int .i64 1, .int .i64 5, .int .i64 9, .string (ba [48]), .string (ba [])], .int .i64 2, .int .i64 0, .int .i64 0, .string ⟨#[]⟩] W fun e w' => e = .returned (.tuple #[.agg #[.string (ba [120]), .int .i64 2, .int .i64 5, .int .i64 9, .string (ba [48]), .string (ba [])], .int .i64 0]) ∧ Below W.heap.size W w' := fun W h => by
    have := step_any ⟨[120], 1, 5, 9, [48], []⟩ 2 0 0 [] W h
    rw [fix3] at this
    exact this
  have ho : ∀ W, Led W → Calls Tryd.prog 11 #[.int .i64 5] W fun e w' => e = .returned (.bool true) ∧ w' = W := fun W h => over_any 5 W h
  have hc : ∀ W, Led W → Calls Tryd.prog 10 #[.int .i64 5, .int .i64 7] W fun e w' => e = .returned (.bool false) ∧ w' = W := fun W h => can_any 5 7 W h
  have hli := ba_list
  have H1 := Lib.hid h1
  have H2 := Lib.hid h2
  have H3 := Lib.hid h3
  have HO := Lib.hid ho
  have HC := Lib.hid hc
  have HL := Lib.hid hl
  have hcx : (⟨#[120]⟩ : ByteArray).toList = [120] := ba_list _
  have hc0 : (⟨#[48]⟩ : ByteArray).toList = [48] := ba_list _
  clear h1 h2 h3 ho hc hl
  go_enter Tryd.func5, Tryd.ntmps5
  go_wp2_with (first
    | (go_at_call 6; (with_reducible refine (H1.out _ HL.out).mono ?_); rintro e w1 ⟨rfl, hb⟩; have HX1 := Lib.hid (hb.alloc hb.size (.cells #[.string (ba [120]), .int .i64 1, .int .i64 5, .int .i64 9, .string (ba [48]), .string (ba [])] 23)); have HL1 := Lib.hid ((HL.out.through hb).alloc (.cells #[.string (ba [120]), .int .i64 1, .int .i64 5, .int .i64 9, .string (ba [48]), .string (ba [])] 23)); have HB1 : Hid (Blk (w1.alloc (.cells #[.string (ba [120]), .int .i64 1, .int .i64 5, .int .i64 9, .string (ba [48]), .string (ba [])] 23)) w1.heap.size 23 [.string (ba [120]), .int .i64 1, .int .i64 5, .int .i64 9, .string (ba [48]), .string (ba [])]) := Lib.hid (Blk.fresh rfl rfl); clear hb)
    | (go_at_call 6; (with_reducible refine (H2.out _ HL1.out).mono ?_); rintro e w2 ⟨rfl, hb⟩; have HX2 := Lib.hid ((below_step HX1.out hb).alloc (below_step HX1.out hb).size (.cells #[.string (ba []), .int .i64 0, .int .i64 0, .int .i64 0, .string (ba []), .string (ba [])] 23)); have HL2 := Lib.hid ((HL1.out.through hb).alloc (.cells #[.string (ba []), .int .i64 0, .int .i64 0, .int .i64 0, .string (ba []), .string (ba [])] 23)); have HB2 := Lib.hid ((HB1.out.through hb).alloc (.cells #[.string (ba []), .int .i64 0, .int .i64 0, .int .i64 0, .string (ba []), .string (ba [])] 23)); clear hb)
    | (refine wpList_load_blk rfl 23 (.tmp 1) rfl w1.heap.size rfl 23 [.string (ba [120]), .int .i64 1, .int .i64 5, .int .i64 9, .string (ba [48]), .string (ba [])] _ HB2.out Tryd.underlying23 rfl (by kernel_rfl) ?_)
    | (go_at_call 6; (with_reducible refine (H3.out _ HL2.out).mono ?_); rintro e w3 ⟨rfl, hb⟩; have HX3 := Lib.hid ((below_step HX2.out hb).alloc (below_step HX2.out hb).size (.cells #[.string (ba [120]), .int .i64 2, .int .i64 5, .int .i64 9, .string (ba [48]), .string (ba [])] 23)); have HL3 := Lib.hid ((HL2.out.through hb).alloc (.cells #[.string (ba [120]), .int .i64 2, .int .i64 5, .int .i64 9, .string (ba [48]), .string (ba [])] 23)); have HB3 := Lib.hid ((HB2.out.through hb).alloc (.cells #[.string (ba [120]), .int .i64 2, .int .i64 5, .int .i64 9, .string (ba [48]), .string (ba [])] 23)); clear hb)
    | (refine wpList_load_blk_g 23 (.tmp 1) rfl (by kernel_rfl) w1.heap.size rfl 23 [.string (ba [120]), .int .i64 1, .int .i64 5, .int .i64 9, .string (ba [48]), .string (ba [])] _ HB3.out Tryd.underlying23 rfl (by kernel_rfl) ?_)
    | (go_at_call 11; (with_reducible refine (HO.out _ HL3.out).mono ?_); rintro e w4 ⟨rfl, rfl⟩)
    | (go_at_call 10; (with_reducible refine (HC.out _ HL3.out).mono ?_); rintro e w4 ⟨rfl, rfl⟩))
  go_ret
  exact ⟨rfl, HX3.out⟩

end Go.Proofs.YtjdglfjbfejcdaaDoor
