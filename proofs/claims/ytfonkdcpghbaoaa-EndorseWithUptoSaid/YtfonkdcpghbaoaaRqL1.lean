/-
  The law's own calls: fixed (calls whose answers the document fixes).
-/
import Derived.Test.YtfonkdcpghbaoaaRqV
import Derived.Test.YtfonkdcpghbaoaaRqPp
namespace Go.Proofs.Ytfonkdcpghbaoaa
open Go.RowKit

def fixC : Cr := ⟨4, 1, 2, [97], 0, 0, []⟩
theorem fixc_len : (encCr fixC).length = 35 := by kernel_rfl
theorem fixc_chk : chkC fixC 4 = 0 := by kernel_rfl
theorem fixc_p4 : parseCr 35 (encCr fixC) 4 = (fixC, 0) := by kernel_rfl
theorem fixc_p5 : parseCr 35 (encCr fixC) 5 = (Cr.no, 17) := by kernel_rfl
theorem fixc_nil : parseP [] 4 = (Rq.no, 2) := by kernel_rfl
theorem Try.build_c4 (a : ByteArray) (i j k : Int) (w : World) : (Instr.build 23 #[(0, .int .i64 i), (1, .int .i64 j), (2, .int .i64 k), (3, .string a)]).run Try.prog w = .ok (.agg #[.int .i64 i, .int .i64 j, .int .i64 k, .string a, .int .i64 0, .int .i64 0, .string (ba [])]) w := by kernel_rfl

set_option maxHeartbeats 8000000 in
set_option maxRecDepth 100000 in
theorem fixed12_any (w : World) : Calls Try.prog 8 #[] w fun e w' => e = .returned (.bool true) ∧ Below w.heap.size w w' := by
  have hb4 := Try.build_c4
  have hby : ∀ W, Calls Try.prog 9 #[.agg #[.int .i64 4, .int .i64 1, .int .i64 2, .string (ba [97]), .int .i64 0, .int .i64 0, .string (ba [])]] W (Byt W (encCr fixC)) := fun W => coreB_any fixC W (by decide) (by decide)
  have hp4 : ∀ (W : World) (A : Option Addr) (c : Nat), By W (fun _ => True) A 35 (encCr fixC) → Calls Try.prog 13 #[.slice A 35 c, .int .i64 4] W fun e w' => e = .returned (.tuple #[.agg #[.int .i64 4, .int .i64 1, .int .i64 2, .string (ba [97]), .int .i64 0, .int .i64 0, .string (ba [])], .int .i64 0]) ∧ Below W.heap.size W w' := fun W A c hY => by
    have h9 := parseCr_any (encCr fixC) 4 A 35 c W hY (by omega)
    rw [fixc_p4] at h9
    exact h9
  have hp5 : ∀ (W : World) (A : Option Addr) (c : Nat), By W (fun _ => True) A 35 (encCr fixC) → Calls Try.prog 13 #[.slice A 35 c, .int .i64 5] W fun e w' => e = .returned (.tuple #[.agg #[.int .i64 0, .int .i64 0, .int .i64 0, .string (ba []), .int .i64 0, .int .i64 0, .string (ba [])], .int .i64 17]) ∧ Below W.heap.size W w' := fun W A c hY => by
    have h9 := parseCr_any (encCr fixC) 5 A 35 c W hY (by omega)
    rw [fixc_p5] at h9
    exact h9
  have hpa : ∀ W : World, Calls Try.prog 15 #[.slice none 0 0, .int .i64 4] W fun e w' => ∃ (A : Option Addr) (m c : Nat), e = .returned (.tuple #[.agg #[.int .i64 0, .int .i64 0, .int .i64 0, .string (ba []), .int .i64 0, .int .i64 0, .string (ba []), .slice A m c], .int .i64 2]) ∧ Below W.heap.size W w' := fun W => by
    have h9 := parsereq_any [] 4 none 0 0 W By.none_ (by omega)
    rw [fixc_nil] at h9
    exact h9.mono fun e w' ⟨A, m, c, he, _, _, _, hb⟩ => ⟨A, m, c, he, hb⟩
  have hck : ∀ W : World, Calls Try.prog 10 #[.agg #[.int .i64 4, .int .i64 1, .int .i64 2, .string (ba [97]), .int .i64 0, .int .i64 0, .string (ba [])], .int .i64 4] W fun e w' => e = .returned (.int .i64 0) ∧ Below W.heap.size W w' := fun W => by
    have h9 := chkC_any fixC 4 W (by decide)
    rw [fixc_chk] at h9
    exact h9
  have heq : ∀ W, (binOp .eql 23 (.agg #[.int .i64 4, .int .i64 1, .int .i64 2, .string (ba [97]), .int .i64 0, .int .i64 0, .string (ba [])]) (.agg #[.int .i64 4, .int .i64 1, .int .i64 2, .string (ba [97]), .int .i64 0, .int .i64 0, .string (ba [])])).run Try.prog W = .ok (.bool true) W := fun W => by
    have h9 := eq_cr fixC fixC W
    rw [Cr.eqb_iff.2 rfl] at h9
    exact h9
  have HBy := Lib.hid hby
  have HP4 := Lib.hid hp4
  have HP5 := Lib.hid hp5
  have HPa := Lib.hid hpa
  have HCk := Lib.hid hck
  clear hby hp4 hp5 hpa hck
  go_enter Try.func8, Try.ntmps8
  go_wp2_with (first
    | (refine wpList_load_blk rfl 23 (.tmp 1) rfl w.heap.size rfl 23 [.int .i64 4, .int .i64 1, .int .i64 2, .string (ba [97]), .int .i64 0, .int .i64 0, .string (ba [])] _ (Blk.fresh rfl rfl) Try.underlying23 rfl (by kernel_rfl) ?_)
    | (go_at_call 9; (with_reducible refine (HBy.out _).mono ?_); rintro e w1 ⟨A1, n1, c1, rfl, hy1, hc1, hm1, hb1⟩; obtain rfl : 35 = n1 := fixc_len.symm.trans hy1.len; have HY1 := Lib.hid hy1; have HX1 : Hid (Below w.heap.size w w1) := Lib.hid (below_step (below1_ w (.cells #[.int .i64 4, .int .i64 1, .int .i64 2, .string (ba [97]), .int .i64 0, .int .i64 0, .string (ba [])] 23)) hb1); have HB1 := Lib.hid ((Blk.fresh rfl rfl : Blk (w.alloc (.cells #[.int .i64 4, .int .i64 1, .int .i64 2, .string (ba [97]), .int .i64 0, .int .i64 0, .string (ba [])] 23)) w.heap.size 23 [.int .i64 4, .int .i64 1, .int .i64 2, .string (ba [97]), .int .i64 0, .int .i64 0, .string (ba [])]).through hb1); clear hy1 hb1 hc1 hm1)
    | (go_at_call 13; (with_reducible refine (HP4.out _ _ _ HY1.out).mono ?_); rintro e w2 ⟨rfl, hb2⟩; have HX2 : Hid (Below w.heap.size w (w2.alloc (.cells #[.int .i64 4, .int .i64 1, .int .i64 2, .string (ba [97]), .int .i64 0, .int .i64 0, .string (ba [])] 23))) := Lib.hid ((below_step HX1.out hb2).alloc (below_step HX1.out hb2).size (.cells #[.int .i64 4, .int .i64 1, .int .i64 2, .string (ba [97]), .int .i64 0, .int .i64 0, .string (ba [])] 23)); have HB2 := Lib.hid ((HB1.out.through hb2).alloc (.cells #[.int .i64 4, .int .i64 1, .int .i64 2, .string (ba [97]), .int .i64 0, .int .i64 0, .string (ba [])] 23)); have HD2 : Hid (Blk (w2.alloc (.cells #[.int .i64 4, .int .i64 1, .int .i64 2, .string (ba [97]), .int .i64 0, .int .i64 0, .string (ba [])] 23)) w2.heap.size 23 [.int .i64 4, .int .i64 1, .int .i64 2, .string (ba [97]), .int .i64 0, .int .i64 0, .string (ba [])]) := Lib.hid (Blk.fresh rfl rfl); have HY2 := Lib.hid ((HY1.out.through hb2).alloc (.cells #[.int .i64 4, .int .i64 1, .int .i64 2, .string (ba [97]), .int .i64 0, .int .i64 0, .string (ba [])] 23)); clear hb2)
    | (go_at_call 13; (with_reducible refine (HP5.out _ _ _ HY2.out).mono ?_); rintro e w3 ⟨rfl, hb3⟩; have HX3 : Hid (Below w.heap.size w (w3.alloc (.cells #[.int .i64 0, .int .i64 0, .int .i64 0, .string (ba []), .int .i64 0, .int .i64 0, .string (ba [])] 23))) := Lib.hid ((below_step HX2.out hb3).alloc (below_step HX2.out hb3).size (.cells #[.int .i64 0, .int .i64 0, .int .i64 0, .string (ba []), .int .i64 0, .int .i64 0, .string (ba [])] 23)); have HB3 := Lib.hid ((HB2.out.through hb3).alloc (.cells #[.int .i64 0, .int .i64 0, .int .i64 0, .string (ba []), .int .i64 0, .int .i64 0, .string (ba [])] 23)); have HD3 := Lib.hid ((HD2.out.through hb3).alloc (.cells #[.int .i64 0, .int .i64 0, .int .i64 0, .string (ba []), .int .i64 0, .int .i64 0, .string (ba [])] 23)); clear hb3)
    | (go_at_call 15; (with_reducible refine (HPa.out _).mono ?_); rintro e w4 ⟨A4, m4, c4, rfl, hb4⟩; have HX4 : Hid (Below w.heap.size w (w4.alloc (.cells #[.int .i64 0, .int .i64 0, .int .i64 0, .string (ba []), .int .i64 0, .int .i64 0, .string (ba []), .slice A4 m4 c4] 34))) := Lib.hid ((below_step HX3.out hb4).alloc (below_step HX3.out hb4).size (.cells #[.int .i64 0, .int .i64 0, .int .i64 0, .string (ba []), .int .i64 0, .int .i64 0, .string (ba []), .slice A4 m4 c4] 34)); have HB4 := Lib.hid ((HB3.out.through hb4).alloc (.cells #[.int .i64 0, .int .i64 0, .int .i64 0, .string (ba []), .int .i64 0, .int .i64 0, .string (ba []), .slice A4 m4 c4] 34)); have HD4 := Lib.hid ((HD3.out.through hb4).alloc (.cells #[.int .i64 0, .int .i64 0, .int .i64 0, .string (ba []), .int .i64 0, .int .i64 0, .string (ba []), .slice A4 m4 c4] 34)); clear hb4)
    | (refine wpList_load_blk_g 23 (.tmp 3) rfl (by kernel_rfl) w2.heap.size rfl 23 [.int .i64 4, .int .i64 1, .int .i64 2, .string (ba [97]), .int .i64 0, .int .i64 0, .string (ba [])] _ HD4.out Try.underlying23 rfl (by kernel_rfl) ?_)
    | (refine wpList_load_blk_g 23 (.tmp 1) rfl (by kernel_rfl) w.heap.size rfl 23 [.int .i64 4, .int .i64 1, .int .i64 2, .string (ba [97]), .int .i64 0, .int .i64 0, .string (ba [])] _ HB4.out Try.underlying23 rfl (by kernel_rfl) ?_)
    | (go_at_call 10; (with_reducible refine (HCk.out _).mono ?_); rintro e w5 ⟨rfl, hb5⟩; have HX5 := Lib.hid (below_step HX4.out hb5); clear hb5))
  go_ret
  exact ⟨rfl, HX5.out⟩

end Go.Proofs.Ytfonkdcpghbaoaa
