/-
  RequestReads.
-/
import Derived.Test.YtfonkdcpghbaoaaRqL1
import Derived.Test.YtfonkdcpghbaoaaRqDp
namespace Go.Proofs.Ytfonkdcpghbaoaa
open Go.RowKit

theorem parseRq_es (m : Nat) (xs : List UInt8) (N : Int) : (parseRq m xs N).1.es.length ≤ 7 := by
  unfold parseRq
  split
  · exact Nat.zero_le _
  · split
    · split
      · simp only [rdRq]
        exact Nat.le_trans (rdMany_length _ _ _) (Nat.le_trans (cval_le_ _ _) (by omega))
      · exact Nat.zero_le _
    · exact Nat.zero_le _

set_option maxHeartbeats 16000000 in
set_option maxRecDepth 100000 in
theorem requestreads_any (xs : List UInt8) (N : Int) (A : Option Addr) (m d : Nat) (w : World) (h : By w (fun _ => True) A m xs) (hmd : m ≤ d) (hd : d ≤ maxLen) :
    Calls Try.prog 4 #[.slice A m d, .int .i64 N] w fun e w' => e = .returned (.bool true) ∧ Below w.heap.size w w' := by
  have HY := Lib.hid h
  by_cases h1 : 3000 < m
  · have d1 : decide ((3000 : Int) < (m : Int)) = true := by simp; omega
    clear h1 h
    go_enter Try.func4, Try.ntmps4
    go_wp2_with (first
      | (go_at_call 8; (with_reducible refine (fixed12_any _).mono ?_); rintro e w1 ⟨rfl, hb1⟩; have HX1 := Lib.hid hb1; have HY1 := Lib.hid (HY.out.through hb1); clear hb1))
    go_ret
    exact ⟨rfl, HX1.out⟩
  have d1 : decide ((3000 : Int) < (m : Int)) = false := by simp; omega
  have hxm : xs.length = m := h.len
  obtain ⟨c1, er1, hP⟩ : ∃ c1 er1, parseCr 1048576 xs N = (c1, er1) := ⟨_, _, rfl⟩
  obtain ⟨q, er2, hQ⟩ : ∃ q er2, parseRq 1048576 xs N = (q, er2) := ⟨_, _, rfl⟩
  have hql : q.es.length ≤ 7 := by have h9 := parseRq_es 1048576 xs N; rw [hQ] at h9; exact h9
  obtain ⟨co, es⟩ := q
  simp only at hql
  have HP1 : Hid (∀ W : World, By W (fun _ => True) A m xs → Calls Try.prog 13 #[.slice A m d, .int .i64 N] W fun e w' => e = .returned (.tuple #[.agg #[.int .i64 c1.cl, .int .i64 c1.sp, .int .i64 c1.op, .string (ba c1.lt), .int .i64 c1.a, .int .i64 c1.b, .string (ba c1.tx)], .int .i64 er1]) ∧ Below W.heap.size W w') := Lib.hid (fun W hY => by
    have h9 := parseCr_any xs N A m d W hY (by omega)
    rw [parseCr_free (m := m) (m' := 1048576) N (by omega) (by omega), hP] at h9
    exact h9)
  have HP2 : Hid (∀ W : World, By W (fun _ => True) A m xs → Calls Try.prog 14 #[.slice A m d, .int .i64 N] W fun e w' => e = .returned (.tuple #[.agg #[.int .i64 c1.cl, .int .i64 c1.sp, .int .i64 c1.op, .string (ba c1.lt), .int .i64 c1.a, .int .i64 c1.b, .string (ba c1.tx)], .int .i64 er1]) ∧ Below W.heap.size W w') := Lib.hid (fun W hY => by
    have h9 := rparseCr_any xs N A m d W hY hmd hd (by omega)
    rw [hP] at h9
    exact h9)
  have HQ1 : Hid (∀ W : World, By W (fun _ => True) A m xs → Calls Try.prog 15 #[.slice A m d, .int .i64 N] W (RqOut W ⟨co, es⟩ er2)) := Lib.hid (fun W hY => by
    have h9 := parsereq_any xs N A m d W hY (by omega)
    rw [parseP_eq (m := 1048576) N (by omega), hQ] at h9
    exact h9)
  have HQ2 : Hid (∀ W : World, By W (fun _ => True) A m xs → Calls Try.prog 16 #[.slice A m d, .int .i64 N] W (RqOut W ⟨co, es⟩ er2)) := Lib.hid (fun W hY => by
    have h9 := rparserq_any xs N A m d W hY hmd hd (by omega)
    rw [hQ] at h9
    exact h9)
  have HSm : Hid (∀ (W : World) (A1 : Option Addr) (n1 c1 : Nat) (A2 : Option Addr) (n2 c2 : Nat), EsIn W A1 n1 es → EsIn W A2 n2 es → Calls Try.prog 17 #[.agg #[.int .i64 co.cl, .int .i64 co.sp, .int .i64 co.op, .string (ba co.lt), .int .i64 co.a, .int .i64 co.b, .string (ba co.tx), .slice A1 n1 c1], .agg #[.int .i64 co.cl, .int .i64 co.sp, .int .i64 co.op, .string (ba co.lt), .int .i64 co.a, .int .i64 co.b, .string (ba co.tx), .slice A2 n2 c2]] W fun e w' => e = .returned (.bool true) ∧ Below W.heap.size W w') := Lib.hid (fun W A1 n1 c1 A2 n2 c2 hE1 hE2 => by
    have h9 := rsame_any co co es es A1 n1 c1 A2 n2 c2 W hE1 hE2 (by have := hE1.len; omega) (by have := hE2.len; omega)
    rw [Rq.same_self] at h9
    exact h9)
  have heq : ∀ W, (binOp .eql 23 (.agg #[.int .i64 c1.cl, .int .i64 c1.sp, .int .i64 c1.op, .string (ba c1.lt), .int .i64 c1.a, .int .i64 c1.b, .string (ba c1.tx)]) (.agg #[.int .i64 c1.cl, .int .i64 c1.sp, .int .i64 c1.op, .string (ba c1.lt), .int .i64 c1.a, .int .i64 c1.b, .string (ba c1.tx)])).run Try.prog W = .ok (.bool true) W := fun W => by
    have h9 := eq_cr c1 c1 W
    rw [Cr.eqb_iff.2 rfl] at h9
    exact h9
  clear h1 h hxm hP hQ hql
  go_enter Try.func4, Try.ntmps4
  go_wp2_with (first
    | (go_at_call 8; (with_reducible refine (fixed12_any _).mono ?_); rintro e w1 ⟨rfl, hb1⟩; have HX1 := Lib.hid hb1; have HY1 := Lib.hid (HY.out.through hb1); clear hb1)
    | (go_at_call 13; (with_reducible refine (HP1.out _ HY1.out).mono ?_); rintro e w2 ⟨rfl, hb2⟩; have HX2 : Hid (Below w.heap.size w (w2.alloc (.cells #[.int .i64 c1.cl, .int .i64 c1.sp, .int .i64 c1.op, .string (ba c1.lt), .int .i64 c1.a, .int .i64 c1.b, .string (ba c1.tx)] 23))) := Lib.hid ((below_step HX1.out hb2).alloc (below_step HX1.out hb2).size (.cells #[.int .i64 c1.cl, .int .i64 c1.sp, .int .i64 c1.op, .string (ba c1.lt), .int .i64 c1.a, .int .i64 c1.b, .string (ba c1.tx)] 23)); have HY2 := Lib.hid ((HY1.out.through hb2).alloc (.cells #[.int .i64 c1.cl, .int .i64 c1.sp, .int .i64 c1.op, .string (ba c1.lt), .int .i64 c1.a, .int .i64 c1.b, .string (ba c1.tx)] 23)); have HB22 : Hid (Blk (w2.alloc (.cells #[.int .i64 c1.cl, .int .i64 c1.sp, .int .i64 c1.op, .string (ba c1.lt), .int .i64 c1.a, .int .i64 c1.b, .string (ba c1.tx)] 23)) w2.heap.size 23 [.int .i64 c1.cl, .int .i64 c1.sp, .int .i64 c1.op, .string (ba c1.lt), .int .i64 c1.a, .int .i64 c1.b, .string (ba c1.tx)]) := Lib.hid (Blk.fresh rfl rfl); clear hb2)
    | (go_at_call 14; (with_reducible refine (HP2.out _ HY2.out).mono ?_); rintro e w3 ⟨rfl, hb3⟩; have HX3 : Hid (Below w.heap.size w (w3.alloc (.cells #[.int .i64 c1.cl, .int .i64 c1.sp, .int .i64 c1.op, .string (ba c1.lt), .int .i64 c1.a, .int .i64 c1.b, .string (ba c1.tx)] 23))) := Lib.hid ((below_step HX2.out hb3).alloc (below_step HX2.out hb3).size (.cells #[.int .i64 c1.cl, .int .i64 c1.sp, .int .i64 c1.op, .string (ba c1.lt), .int .i64 c1.a, .int .i64 c1.b, .string (ba c1.tx)] 23)); have HY3 := Lib.hid ((HY2.out.through hb3).alloc (.cells #[.int .i64 c1.cl, .int .i64 c1.sp, .int .i64 c1.op, .string (ba c1.lt), .int .i64 c1.a, .int .i64 c1.b, .string (ba c1.tx)] 23)); have HB33 : Hid (Blk (w3.alloc (.cells #[.int .i64 c1.cl, .int .i64 c1.sp, .int .i64 c1.op, .string (ba c1.lt), .int .i64 c1.a, .int .i64 c1.b, .string (ba c1.tx)] 23)) w3.heap.size 23 [.int .i64 c1.cl, .int .i64 c1.sp, .int .i64 c1.op, .string (ba c1.lt), .int .i64 c1.a, .int .i64 c1.b, .string (ba c1.tx)]) := Lib.hid (Blk.fresh rfl rfl); have HB23 := Lib.hid ((HB22.out.through hb3).alloc (.cells #[.int .i64 c1.cl, .int .i64 c1.sp, .int .i64 c1.op, .string (ba c1.lt), .int .i64 c1.a, .int .i64 c1.b, .string (ba c1.tx)] 23)); clear hb3)
    | (go_at_call 15; (with_reducible refine (HQ1.out _ HY3.out).mono ?_); rintro e w4 ⟨A4, m4, d4, rfl, hes4, _, _, hb4⟩; have HX4 : Hid (Below w.heap.size w (w4.alloc (.cells #[.int .i64 co.cl, .int .i64 co.sp, .int .i64 co.op, .string (ba co.lt), .int .i64 co.a, .int .i64 co.b, .string (ba co.tx), .slice A4 m4 d4] 34))) := Lib.hid ((below_step HX3.out hb4).alloc (below_step HX3.out hb4).size (.cells #[.int .i64 co.cl, .int .i64 co.sp, .int .i64 co.op, .string (ba co.lt), .int .i64 co.a, .int .i64 co.b, .string (ba co.tx), .slice A4 m4 d4] 34)); have HY4 := Lib.hid ((HY3.out.through hb4).alloc (.cells #[.int .i64 co.cl, .int .i64 co.sp, .int .i64 co.op, .string (ba co.lt), .int .i64 co.a, .int .i64 co.b, .string (ba co.tx), .slice A4 m4 d4] 34)); have HB24 := Lib.hid ((HB23.out.through hb4).alloc (.cells #[.int .i64 co.cl, .int .i64 co.sp, .int .i64 co.op, .string (ba co.lt), .int .i64 co.a, .int .i64 co.b, .string (ba co.tx), .slice A4 m4 d4] 34)); have HB34 := Lib.hid ((HB33.out.through hb4).alloc (.cells #[.int .i64 co.cl, .int .i64 co.sp, .int .i64 co.op, .string (ba co.lt), .int .i64 co.a, .int .i64 co.b, .string (ba co.tx), .slice A4 m4 d4] 34)); have HE44 := Lib.hid (hes4.alloc (.cells #[.int .i64 co.cl, .int .i64 co.sp, .int .i64 co.op, .string (ba co.lt), .int .i64 co.a, .int .i64 co.b, .string (ba co.tx), .slice A4 m4 d4] 34)); have HB44 : Hid (Blk (w4.alloc (.cells #[.int .i64 co.cl, .int .i64 co.sp, .int .i64 co.op, .string (ba co.lt), .int .i64 co.a, .int .i64 co.b, .string (ba co.tx), .slice A4 m4 d4] 34)) w4.heap.size 34 [.int .i64 co.cl, .int .i64 co.sp, .int .i64 co.op, .string (ba co.lt), .int .i64 co.a, .int .i64 co.b, .string (ba co.tx), .slice A4 m4 d4]) := Lib.hid (Blk.fresh rfl rfl); clear hb4 hes4)
    | (go_at_call 16; (with_reducible refine (HQ2.out _ HY4.out).mono ?_); rintro e w5 ⟨A5, m5, d5, rfl, hes5, _, _, hb5⟩; have HX5 : Hid (Below w.heap.size w (w5.alloc (.cells #[.int .i64 co.cl, .int .i64 co.sp, .int .i64 co.op, .string (ba co.lt), .int .i64 co.a, .int .i64 co.b, .string (ba co.tx), .slice A5 m5 d5] 34))) := Lib.hid ((below_step HX4.out hb5).alloc (below_step HX4.out hb5).size (.cells #[.int .i64 co.cl, .int .i64 co.sp, .int .i64 co.op, .string (ba co.lt), .int .i64 co.a, .int .i64 co.b, .string (ba co.tx), .slice A5 m5 d5] 34)); have HY5 := Lib.hid ((HY4.out.through hb5).alloc (.cells #[.int .i64 co.cl, .int .i64 co.sp, .int .i64 co.op, .string (ba co.lt), .int .i64 co.a, .int .i64 co.b, .string (ba co.tx), .slice A5 m5 d5] 34)); have HB25 := Lib.hid ((HB24.out.through hb5).alloc (.cells #[.int .i64 co.cl, .int .i64 co.sp, .int .i64 co.op, .string (ba co.lt), .int .i64 co.a, .int .i64 co.b, .string (ba co.tx), .slice A5 m5 d5] 34)); have HB35 := Lib.hid ((HB34.out.through hb5).alloc (.cells #[.int .i64 co.cl, .int .i64 co.sp, .int .i64 co.op, .string (ba co.lt), .int .i64 co.a, .int .i64 co.b, .string (ba co.tx), .slice A5 m5 d5] 34)); have HB45 := Lib.hid ((HB44.out.through hb5).alloc (.cells #[.int .i64 co.cl, .int .i64 co.sp, .int .i64 co.op, .string (ba co.lt), .int .i64 co.a, .int .i64 co.b, .string (ba co.tx), .slice A5 m5 d5] 34)); have HE45 := Lib.hid ((HE44.out.through hb5).alloc (.cells #[.int .i64 co.cl, .int .i64 co.sp, .int .i64 co.op, .string (ba co.lt), .int .i64 co.a, .int .i64 co.b, .string (ba co.tx), .slice A5 m5 d5] 34)); have HE55 := Lib.hid (hes5.alloc (.cells #[.int .i64 co.cl, .int .i64 co.sp, .int .i64 co.op, .string (ba co.lt), .int .i64 co.a, .int .i64 co.b, .string (ba co.tx), .slice A5 m5 d5] 34)); have HB55 : Hid (Blk (w5.alloc (.cells #[.int .i64 co.cl, .int .i64 co.sp, .int .i64 co.op, .string (ba co.lt), .int .i64 co.a, .int .i64 co.b, .string (ba co.tx), .slice A5 m5 d5] 34)) w5.heap.size 34 [.int .i64 co.cl, .int .i64 co.sp, .int .i64 co.op, .string (ba co.lt), .int .i64 co.a, .int .i64 co.b, .string (ba co.tx), .slice A5 m5 d5]) := Lib.hid (Blk.fresh rfl rfl); clear hb5 hes5)
    | (refine wpList_load_blk rfl 23 (.tmp 5) rfl w2.heap.size rfl 23 [.int .i64 c1.cl, .int .i64 c1.sp, .int .i64 c1.op, .string (ba c1.lt), .int .i64 c1.a, .int .i64 c1.b, .string (ba c1.tx)] _ HB25.out Try.underlying23 rfl (by kernel_rfl) ?_)
    | (refine wpList_load_blk rfl 23 (.tmp 7) rfl w3.heap.size rfl 23 [.int .i64 c1.cl, .int .i64 c1.sp, .int .i64 c1.op, .string (ba c1.lt), .int .i64 c1.a, .int .i64 c1.b, .string (ba c1.tx)] _ HB35.out Try.underlying23 rfl (by kernel_rfl) ?_)
    | (refine wpList_load_blk_g 34 (.tmp 9) rfl (by kernel_rfl) w4.heap.size rfl 34 [.int .i64 co.cl, .int .i64 co.sp, .int .i64 co.op, .string (ba co.lt), .int .i64 co.a, .int .i64 co.b, .string (ba co.tx), .slice A4 m4 d4] _ HB45.out Try.underlying34 rfl (by kernel_rfl) ?_)
    | (refine wpList_load_blk_g 34 (.tmp 11) rfl (by kernel_rfl) w5.heap.size rfl 34 [.int .i64 co.cl, .int .i64 co.sp, .int .i64 co.op, .string (ba co.lt), .int .i64 co.a, .int .i64 co.b, .string (ba co.tx), .slice A5 m5 d5] _ HB55.out Try.underlying34 rfl (by kernel_rfl) ?_)
    | (go_at_call 17; (with_reducible refine (HSm.out _ _ _ _ _ _ _ HE45.out HE55.out).mono ?_); rintro e w6 ⟨rfl, hb6⟩; have HX6 := Lib.hid (below_step HX5.out hb6); clear hb6))
  go_ret
  exact ⟨rfl, HX6.out⟩

end Go.Proofs.Ytfonkdcpghbaoaa
