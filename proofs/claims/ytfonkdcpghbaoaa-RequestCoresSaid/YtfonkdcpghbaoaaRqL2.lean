/-
  RequestCores.
-/
import Derived.Test.YtfonkdcpghbaoaaRqL1
namespace Go.Proofs.Ytfonkdcpghbaoaa
open Go.RowKit

set_option maxHeartbeats 16000000 in
set_option maxRecDepth 100000 in
theorem requestcores_any (c : Cr) (n : Int) (w : World) (ha : -9223372036854775808 ≤ c.a ∧ c.a ≤ 9223372036854775807) (hb : -9223372036854775808 ≤ c.b ∧ c.b ≤ 9223372036854775807) :
    Calls Try.prog 3 #[.agg #[.int .i64 c.cl, .int .i64 c.sp, .int .i64 c.op, .string (ba c.lt), .int .i64 c.a, .int .i64 c.b, .string (ba c.tx)], .int .i64 n] w fun e w' => e = .returned (.bool true) ∧ Below w.heap.size w w' := by
  have hsz := ba_size
  have HB0 : Hid (Blk (w.alloc (.cells #[.int .i64 c.cl, .int .i64 c.sp, .int .i64 c.op, .string (ba c.lt), .int .i64 c.a, .int .i64 c.b, .string (ba c.tx)] 23)) w.heap.size 23 [.int .i64 c.cl, .int .i64 c.sp, .int .i64 c.op, .string (ba c.lt), .int .i64 c.a, .int .i64 c.b, .string (ba c.tx)]) := Lib.hid (Blk.fresh rfl rfl)
  by_cases h1 : 300 < c.lt.length
  · have d1 : decide ((300 : Int) < (c.lt.length : Int)) = true := by simp; omega
    clear h1
    go_enter Try.func3, Try.ntmps3
    go_wp2_with (first
      | (go_at_call 8; (with_reducible refine (fixed12_any _).mono ?_); rintro e w1 ⟨rfl, hb1⟩; have HX1 : Hid (Below w.heap.size w w1) := Lib.hid (below_step (below1_ w (.cells #[.int .i64 c.cl, .int .i64 c.sp, .int .i64 c.op, .string (ba c.lt), .int .i64 c.a, .int .i64 c.b, .string (ba c.tx)] 23)) hb1); have HB1 := Lib.hid (HB0.out.through hb1); have c3 := HB1.out.cellAt (i := 3) rfl; have c6 := HB1.out.cellAt (i := 6) rfl; clear hb1))
    go_ret
    exact ⟨rfl, HX1.out⟩
  have d1 : decide ((300 : Int) < (c.lt.length : Int)) = false := by simp; omega
  by_cases h2 : 300 < c.tx.length
  · have d2 : decide ((300 : Int) < (c.tx.length : Int)) = true := by simp; omega
    clear h1 h2
    go_enter Try.func3, Try.ntmps3
    go_wp2_with (first
      | (go_at_call 8; (with_reducible refine (fixed12_any _).mono ?_); rintro e w1 ⟨rfl, hb1⟩; have HX1 : Hid (Below w.heap.size w w1) := Lib.hid (below_step (below1_ w (.cells #[.int .i64 c.cl, .int .i64 c.sp, .int .i64 c.op, .string (ba c.lt), .int .i64 c.a, .int .i64 c.b, .string (ba c.tx)] 23)) hb1); have HB1 := Lib.hid (HB0.out.through hb1); have c3 := HB1.out.cellAt (i := 3) rfl; have c6 := HB1.out.cellAt (i := 6) rfl; clear hb1))
    go_ret
    exact ⟨rfl, HX1.out⟩
  have d2 : decide ((300 : Int) < (c.tx.length : Int)) = false := by simp; omega
  have HCb : Hid (∀ W, Calls Try.prog 9 #[.agg #[.int .i64 c.cl, .int .i64 c.sp, .int .i64 c.op, .string (ba c.lt), .int .i64 c.a, .int .i64 c.b, .string (ba c.tx)]] W (Byt W (encCr c))) := Lib.hid (fun W => coreB_any c W (by omega) (by omega))
  have HRb : Hid (∀ W, Calls Try.prog 12 #[.agg #[.int .i64 c.cl, .int .i64 c.sp, .int .i64 c.op, .string (ba c.lt), .int .i64 c.a, .int .i64 c.b, .string (ba c.tx)]] W (Byt W (encCr c))) := Lib.hid (fun W => rcoreB_any c W (by omega) (by omega))
  have HCk : Hid (∀ W : World, Calls Try.prog 10 #[.agg #[.int .i64 c.cl, .int .i64 c.sp, .int .i64 c.op, .string (ba c.lt), .int .i64 c.a, .int .i64 c.b, .string (ba c.tx)], .int .i64 n] W fun e w' => e = .returned (.int .i64 (chkC c n)) ∧ Below W.heap.size W w') := Lib.hid (fun W => chkC_any c n W (by omega))
  have HRk : Hid (∀ W : World, Calls Try.prog 11 #[.agg #[.int .i64 c.cl, .int .i64 c.sp, .int .i64 c.op, .string (ba c.lt), .int .i64 c.a, .int .i64 c.b, .string (ba c.tx)], .int .i64 n] W fun e w' => e = .returned (.int .i64 (chkC c n)) ∧ Below W.heap.size W w') := Lib.hid (fun W => rchkC_any c n W (by omega))
  have hel : (encCr c).length ≤ 1000000 := by rw [encCr_len]; omega
  have HPl : Hid (∀ (A : Option Addr) (m d : Nat) (W : World), By W (fun _ => True) A m (encCr c) → chkC c n = 0 → Calls Try.prog 13 #[.slice A m d, .int .i64 n] W fun e w' => e = .returned (.tuple #[.agg #[.int .i64 c.cl, .int .i64 c.sp, .int .i64 c.op, .string (ba c.lt), .int .i64 c.a, .int .i64 c.b, .string (ba c.tx)], .int .i64 0]) ∧ Below W.heap.size W w') := Lib.hid (fun A m d W hY hk => by
    have h9 := parseCr_any (encCr c) n A m d W hY (by rw [← hY.len]; exact hel)
    rw [parseCr_free (m := m) (m' := 1048576) n (by rw [hY.len]; exact Nat.le_refl _) (by omega), parseCr_back (by omega) (by omega) hk ha hb] at h9
    exact h9)
  have heq : ∀ W, (binOp .eql 23 (.agg #[.int .i64 c.cl, .int .i64 c.sp, .int .i64 c.op, .string (ba c.lt), .int .i64 c.a, .int .i64 c.b, .string (ba c.tx)]) (.agg #[.int .i64 c.cl, .int .i64 c.sp, .int .i64 c.op, .string (ba c.lt), .int .i64 c.a, .int .i64 c.b, .string (ba c.tx)])).run Try.prog W = .ok (.bool true) W := fun W => by
    have h9 := eq_cr c c W
    rw [Cr.eqb_iff.2 rfl] at h9
    exact h9
  clear h1 h2 hel ha hb
  go_enter Try.func3, Try.ntmps3
  go_wp2_with (first
    | (go_at_call 8; (with_reducible refine (fixed12_any _).mono ?_); rintro e w1 ⟨rfl, hb1⟩; have HX1 : Hid (Below w.heap.size w w1) := Lib.hid (below_step (below1_ w (.cells #[.int .i64 c.cl, .int .i64 c.sp, .int .i64 c.op, .string (ba c.lt), .int .i64 c.a, .int .i64 c.b, .string (ba c.tx)] 23)) hb1); have HB1 := Lib.hid (HB0.out.through hb1); have c3 := HB1.out.cellAt (i := 3) rfl; have c6 := HB1.out.cellAt (i := 6) rfl; clear hb1)
    | (refine wpList_load_blk rfl 23 (.tmp 2) rfl w.heap.size rfl 23 [.int .i64 c.cl, .int .i64 c.sp, .int .i64 c.op, .string (ba c.lt), .int .i64 c.a, .int .i64 c.b, .string (ba c.tx)] _ HB1.out Try.underlying23 rfl (by kernel_rfl) ?_)
    | (go_at_call 9; (with_reducible refine (HCb.out _).mono ?_); rintro e w2 ⟨A2, n2, d2, rfl, hy2, hn2, hm2, hb2⟩; have HY2 := Lib.hid hy2; have HX2 : Hid (Below w.heap.size w w2) := Lib.hid (below_step HX1.out hb2); have HB2 := Lib.hid (HB1.out.through hb2); clear hy2 hn2 hm2 hb2))
  refine wp_region_held_drew (S := fun W => Below w2.heap.size w2 W) (by kernel_rfl) (Below.refl _ _).drew (fun hHeld => ?_)
  change wpAnyH _ _ _ _ _ _ #[false, false, false, false, false, false, false, false, false, false, false, false, false, false, false] _ _
  refine wpAnyH_take (i := 0) (v := (.agg #[.int .i64 c.cl, .int .i64 c.sp, .int .i64 c.op, .string (ba c.lt), .int .i64 c.a, .int .i64 c.b, .string (ba c.tx)])) rfl (by kernel_rfl) (by kernel_rfl) (by kernel_rfl) (fun _ _ _ h => h) (yieldsIf_load_mid (by kernel_rfl) 23 (.tmp 2) rfl w.heap.size 0 (by simp [Act.eval]) [.int .i64 c.cl, .int .i64 c.sp, .int .i64 c.op, .string (ba c.lt), .int .i64 c.a, .int .i64 c.b, .string (ba c.tx)] _ (fun W hW => (HB2.out.through hW).whole) Try.underlying23 rfl (by kernel_rfl)) (by assumption) ?_
  change wpAnyH _ _ _ _ _ _ _ (Act.put _ (some (22 : Nat)) (.agg #[.int .i64 c.cl, .int .i64 c.sp, .int .i64 c.op, .string (ba c.lt), .int .i64 c.a, .int .i64 c.b, .string (ba c.tx)])) _
  simp only [Act.put, List.setIfInBounds_toArray, List.set_cons_zero, List.set_cons_succ]
  refine wpAnyH_take (i := 1) (v := (.int .i64 n)) rfl (by kernel_rfl) (by kernel_rfl) (by kernel_rfl) (fun _ _ _ h => h) (Or.inl ⟨by kernel_rfl, fun w hSw => ?_⟩) (by assumption) ?_
  · (try dsimp only at hSw); go_simp <;> (try rfl)
  change wpAnyH _ _ _ _ _ _ _ (Act.put _ (some (23 : Nat)) (.int .i64 n)) _
  simp only [Act.put, List.setIfInBounds_toArray, List.set_cons_zero, List.set_cons_succ]
  refine wpAnyH_take (i := 3) (v := (.agg #[.int .i64 c.cl, .int .i64 c.sp, .int .i64 c.op, .string (ba c.lt), .int .i64 c.a, .int .i64 c.b, .string (ba c.tx)])) rfl (by kernel_rfl) (by kernel_rfl) (by kernel_rfl) (fun _ _ _ h => h) (yieldsIf_load_mid (by kernel_rfl) 23 (.tmp 2) rfl w.heap.size 0 (by simp [Act.eval]) [.int .i64 c.cl, .int .i64 c.sp, .int .i64 c.op, .string (ba c.lt), .int .i64 c.a, .int .i64 c.b, .string (ba c.tx)] _ (fun W hW => (HB2.out.through hW).whole) Try.underlying23 rfl (by kernel_rfl)) (by assumption) ?_
  change wpAnyH _ _ _ _ _ _ _ (Act.put _ (some (25 : Nat)) (.agg #[.int .i64 c.cl, .int .i64 c.sp, .int .i64 c.op, .string (ba c.lt), .int .i64 c.a, .int .i64 c.b, .string (ba c.tx)])) _
  simp only [Act.put, List.setIfInBounds_toArray, List.set_cons_zero, List.set_cons_succ]
  refine wpAnyH_take (i := 4) (v := (.int .i64 n)) rfl (by kernel_rfl) (by kernel_rfl) (by kernel_rfl) (fun _ _ _ h => h) (Or.inl ⟨by kernel_rfl, fun w hSw => ?_⟩) (by assumption) ?_
  · (try dsimp only at hSw); go_simp <;> (try rfl)
  change wpAnyH _ _ _ _ _ _ _ (Act.put _ (some (26 : Nat)) (.int .i64 n)) _
  simp only [Act.put, List.setIfInBounds_toArray, List.set_cons_zero, List.set_cons_succ]
  refine wpAnyH_ready (rs := [2]) (by kernel_rfl) (by simp) ?_
  refine AllReadyH.cons rfl (fun K hK => ?_) AllReadyH.nil
  go_simp
  refine (HCk.out _).mono ?_
  rintro e wa ⟨rfl, hba⟩; have HKa := Lib.hid (below_step hHeld hba); clear hba
  go_wp2_with fail
  refine hK.out _ _ HKa.out (fun hHeld1 => ?_)
  clear hHeld hK K
  have hHeld := hHeld1
  clear hHeld1
  refine wpAnyH_ready (rs := [5]) (by kernel_rfl) (by simp) ?_
  refine AllReadyH.cons rfl (fun K hK => ?_) AllReadyH.nil
  go_simp
  refine (HRk.out _).mono ?_
  rintro e wb ⟨rfl, hbb⟩; have HKb := Lib.hid (below_step hHeld hbb); clear hbb
  go_wp2_with fail
  refine hK.out _ _ HKb.out (fun hHeld1 => ?_)
  clear hHeld hK K
  have hHeld := hHeld1
  clear hHeld1
  refine wpAnyH_take (i := 6) (v := (.bool false)) rfl (by kernel_rfl) (by kernel_rfl) (by kernel_rfl) (fun _ _ _ h => h) (Or.inl ⟨by kernel_rfl, fun w hSw => ?_⟩) (by assumption) ?_
  · (try dsimp only at hSw); go_simp <;> (try rfl)
  change wpAnyH _ _ _ _ _ _ _ (Act.put _ (some (28 : Nat)) (.bool false)) _
  simp only [Act.put, List.setIfInBounds_toArray, List.set_cons_zero, List.set_cons_succ]
  refine wpAnyH_take (i := 7) (v := (.bool false)) rfl (by kernel_rfl) (by kernel_rfl) (by kernel_rfl) (fun _ _ _ h => h) (Or.inl ⟨by kernel_rfl, fun w hSw => ?_⟩) (by assumption) ?_
  · (try dsimp only at hSw); go_simp <;> (try rfl)
  change wpAnyH _ _ _ _ _ _ _ (Act.put _ (some (29 : Nat)) (.bool false)) _
  simp only [Act.put, List.setIfInBounds_toArray, List.set_cons_zero, List.set_cons_succ]
  refine wpAnyH_take (i := 8) (v := (.slice A2 n2 d2)) rfl (by kernel_rfl) (by kernel_rfl) (by kernel_rfl) (fun _ _ _ h => h) (Or.inl ⟨by kernel_rfl, fun w hSw => ?_⟩) (by assumption) ?_
  · (try dsimp only at hSw); go_simp <;> (try rfl)
  change wpAnyH _ _ _ _ _ _ _ (Act.put _ (some (30 : Nat)) (.slice A2 n2 d2)) _
  simp only [Act.put, List.setIfInBounds_toArray, List.set_cons_zero, List.set_cons_succ]
  refine wpAnyH_take (i := 9) (v := (.string (ba (encCr c)))) rfl (by kernel_rfl) (by kernel_rfl) (by kernel_rfl) (fun _ _ _ h => h) (yields_conv (by kernel_rfl) 25 9 (.tmp 30) rfl (.slice A2 n2 d2) (by simp [Act.eval]) (.string (ba (encCr c))) (fun W hW => run_string_by W 25 9 5 Try.underlying25 Try.underlying5 Try.underlying9 _ _ _ _ _ (HY2.out.through hW))) (by assumption) ?_
  change wpAnyH _ _ _ _ _ _ _ (Act.put _ (some (31 : Nat)) (.string (ba (encCr c)))) _
  simp only [Act.put, List.setIfInBounds_toArray, List.set_cons_zero, List.set_cons_succ]
  refine wpAnyH_take (i := 10) (v := (.agg #[.int .i64 c.cl, .int .i64 c.sp, .int .i64 c.op, .string (ba c.lt), .int .i64 c.a, .int .i64 c.b, .string (ba c.tx)])) rfl (by kernel_rfl) (by kernel_rfl) (by kernel_rfl) (fun _ _ _ h => h) (yieldsIf_load_mid (by kernel_rfl) 23 (.tmp 2) rfl w.heap.size 0 (by simp [Act.eval]) [.int .i64 c.cl, .int .i64 c.sp, .int .i64 c.op, .string (ba c.lt), .int .i64 c.a, .int .i64 c.b, .string (ba c.tx)] _ (fun W hW => (HB2.out.through hW).whole) Try.underlying23 rfl (by kernel_rfl)) (by assumption) ?_
  change wpAnyH _ _ _ _ _ _ _ (Act.put _ (some (32 : Nat)) (.agg #[.int .i64 c.cl, .int .i64 c.sp, .int .i64 c.op, .string (ba c.lt), .int .i64 c.a, .int .i64 c.b, .string (ba c.tx)])) _
  simp only [Act.put, List.setIfInBounds_toArray, List.set_cons_zero, List.set_cons_succ]
  refine wpAnyH_ready (rs := [11]) (by kernel_rfl) (by simp) ?_
  refine AllReadyH.cons rfl (fun K hK => ?_) AllReadyH.nil
  go_simp
  refine (HRb.out _).mono ?_
  rintro e w3 ⟨A3, n3, d3, rfl, hy3, _, _, hb3⟩; have HY3 := Lib.hid hy3; have HK3 := Lib.hid (below_step hHeld hb3); clear hy3 hb3
  go_wp2_with fail
  refine hK.out _ _ HK3.out (fun hHeld1 => ?_)
  clear hHeld hK K
  have hHeld := hHeld1
  clear hHeld1
  refine wpAnyH_weaken (S' := fun W => Below w2.heap.size w2 W ∧ By W (fun _ => True) A3 n3 (encCr c)) (fun W h => h.1) _ _ _ _ ?_
  have hHeld2 := And.intro hHeld HY3.out
  clear hHeld
  have hHeld := hHeld2
  clear hHeld2
  refine wpAnyH_take (i := 12) (v := (.string (ba (encCr c)))) rfl (by kernel_rfl) (by kernel_rfl) (by kernel_rfl) (fun _ _ _ h => h) (yields_conv (by kernel_rfl) 25 9 (.tmp 33) rfl (.slice A3 n3 d3) (by simp [Act.eval]) (.string (ba (encCr c))) (fun W hW => run_string_by W 25 9 5 Try.underlying25 Try.underlying5 Try.underlying9 _ _ _ _ _ hW.2)) (by assumption) ?_
  change wpAnyH _ _ _ _ _ _ _ (Act.put _ (some (34 : Nat)) (.string (ba (encCr c)))) _
  simp only [Act.put, List.setIfInBounds_toArray, List.set_cons_zero, List.set_cons_succ]
  refine wpAnyH_take (i := 13) (v := (.bool false)) rfl (by kernel_rfl) (by kernel_rfl) (by kernel_rfl) (fun _ _ _ h => h) (Or.inl ⟨by kernel_rfl, fun w hSw => ?_⟩) (by assumption) ?_
  · (try dsimp only at hSw); go_simp <;> (try rfl)
  change wpAnyH _ _ _ _ _ _ _ (Act.put _ (some (35 : Nat)) (.bool false)) _
  simp only [Act.put, List.setIfInBounds_toArray, List.set_cons_zero, List.set_cons_succ]
  refine wpAnyH_take (i := 14) (v := (.bool false)) rfl (by kernel_rfl) (by kernel_rfl) (by kernel_rfl) (fun _ _ _ h => h) (Or.inl ⟨by kernel_rfl, fun w hSw => ?_⟩) (by assumption) ?_
  · (try dsimp only at hSw); go_simp <;> (try rfl)
  change wpAnyH _ _ _ _ _ _ _ (Act.put _ (some (36 : Nat)) (.bool false)) _
  simp only [Act.put, List.setIfInBounds_toArray, List.set_cons_zero, List.set_cons_succ]
  refine wpAnyH_done (by kernel_rfl) ?_ _
  have HX3 : Hid (Below w.heap.size w w3) := Lib.hid (below_step HX2.out hHeld.1)
  have HB3 := Lib.hid (HB2.out.through hHeld.1)
  have HY3b := Lib.hid (HY2.out.through hHeld.1)
  clear hHeld HY3
  have HY3 := HY3b
  clear HY3b
  by_cases hk : chkC c n = 0
  · have HKk := Lib.hid hk
    have HPc : Hid (∀ W, By W (fun _ => True) A2 n2 (encCr c) → Calls Try.prog 13 #[.slice A2 n2 d2, .int .i64 n] W fun e w' => e = .returned (.tuple #[.agg #[.int .i64 c.cl, .int .i64 c.sp, .int .i64 c.op, .string (ba c.lt), .int .i64 c.a, .int .i64 c.b, .string (ba c.tx)], .int .i64 0]) ∧ Below W.heap.size W w') := Lib.hid (fun W hY => HPl.out A2 n2 d2 W hY HKk.out)
    rw [hk] at HRk
    clear hk
    go_wp2_with (first
          | (refine wpList_load_blk rfl 23 (.tmp 2) rfl w.heap.size rfl 23 [.int .i64 c.cl, .int .i64 c.sp, .int .i64 c.op, .string (ba c.lt), .int .i64 c.a, .int .i64 c.b, .string (ba c.tx)] _ HB3.out Try.underlying23 rfl (by kernel_rfl) ?_)
          | (go_at_call 11; (with_reducible refine (HRk.out _).mono ?_); rintro e w4 ⟨rfl, hb4⟩; have HX4 := Lib.hid (below_step HX3.out hb4); have HB4 := Lib.hid (HB3.out.through hb4); have HY4 := Lib.hid (HY3.out.through hb4); clear hb4)
          | (go_at_call 13; (with_reducible refine (HPc.out _ HY4.out).mono ?_); rintro e w5 ⟨rfl, hb5⟩; have HX5 : Hid (Below w.heap.size w (w5.alloc (.cells #[.int .i64 c.cl, .int .i64 c.sp, .int .i64 c.op, .string (ba c.lt), .int .i64 c.a, .int .i64 c.b, .string (ba c.tx)] 23))) := Lib.hid ((below_step HX4.out hb5).alloc (below_step HX4.out hb5).size (.cells #[.int .i64 c.cl, .int .i64 c.sp, .int .i64 c.op, .string (ba c.lt), .int .i64 c.a, .int .i64 c.b, .string (ba c.tx)] 23)); have HB5 := Lib.hid ((HB4.out.through hb5).alloc (.cells #[.int .i64 c.cl, .int .i64 c.sp, .int .i64 c.op, .string (ba c.lt), .int .i64 c.a, .int .i64 c.b, .string (ba c.tx)] 23)); have HD5 : Hid (Blk (w5.alloc (.cells #[.int .i64 c.cl, .int .i64 c.sp, .int .i64 c.op, .string (ba c.lt), .int .i64 c.a, .int .i64 c.b, .string (ba c.tx)] 23)) w5.heap.size 23 [.int .i64 c.cl, .int .i64 c.sp, .int .i64 c.op, .string (ba c.lt), .int .i64 c.a, .int .i64 c.b, .string (ba c.tx)]) := Lib.hid (Blk.fresh rfl rfl); clear hb5)
          | (refine wpList_load_blk_g 23 (.tmp 6) rfl (by kernel_rfl) w5.heap.size rfl 23 [.int .i64 c.cl, .int .i64 c.sp, .int .i64 c.op, .string (ba c.lt), .int .i64 c.a, .int .i64 c.b, .string (ba c.tx)] _ HD5.out Try.underlying23 rfl (by kernel_rfl) ?_)
          | (refine wpList_load_blk_g 23 (.tmp 2) rfl (by kernel_rfl) w.heap.size rfl 23 [.int .i64 c.cl, .int .i64 c.sp, .int .i64 c.op, .string (ba c.lt), .int .i64 c.a, .int .i64 c.b, .string (ba c.tx)] _ HB5.out Try.underlying23 rfl (by kernel_rfl) ?_))
    go_ret
    exact ⟨rfl, HX5.out⟩
  · obtain ⟨er, her⟩ : ∃ er, chkC c n = er := ⟨_, rfl⟩
    rw [her] at HRk hk
    have hkb : (er == 0) = false := by simpa using hk
    have hkd : (er != 0) = true := by simpa using hk
    clear hk her
    go_wp2_with (first
          | (refine wpList_load_blk rfl 23 (.tmp 2) rfl w.heap.size rfl 23 [.int .i64 c.cl, .int .i64 c.sp, .int .i64 c.op, .string (ba c.lt), .int .i64 c.a, .int .i64 c.b, .string (ba c.tx)] _ HB3.out Try.underlying23 rfl (by kernel_rfl) ?_)
          | (go_at_call 11; (with_reducible refine (HRk.out _).mono ?_); rintro e w4 ⟨rfl, hb4⟩; have HX4 := Lib.hid (below_step HX3.out hb4); have HB4 := Lib.hid (HB3.out.through hb4); have HY4 := Lib.hid (HY3.out.through hb4); clear hb4))
    go_ret
    exact ⟨rfl, HX4.out⟩

end Go.Proofs.Ytfonkdcpghbaoaa
