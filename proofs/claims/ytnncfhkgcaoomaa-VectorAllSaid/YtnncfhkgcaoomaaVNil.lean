/-
  vector without a Crypto; the document's All.
-/
import Derived.Test.YtnncfhkgcaoomaaVBSign
import Derived.RegionTactic
import Derived.ChangeAlike
import Derived.StillTailTactics
import Derived.Deep.QuietTactic
import Derived.Outline
import Derived.Recover
namespace Go.Proofs.Ytnncfhkgcaoomaa
open Go.RowKit

set_option maxHeartbeats 4000000 in
set_option maxRecDepth 100000 in
theorem sign_nil (Q : Nat → Prop) (k f : Int) (body : List UInt8) (B : Option Addr) (nb cb : Nat) (hnb : nb ≤ 100000) (A : Option Addr) (n c : Nat) (w : World) (hyb : By w Q B nb body) :
    Calls Try.prog 20 #[.nilIface, .int .i64 k, .int .i64 f, .slice B nb cb, .slice A n c] w fun e w' => ∃ B1 c1, e = .returned (.agg #[.int .i64 k, .int .i64 f, .slice B1 nb c1, .slice none 0 0]) ∧ Below w.heap.size w w' := by
  have HB := Lib.hid hyb
  clear hyb
  go_enter Try.func20, Try.ntmps20
  go_wp2_with (first
    | (go_at_call 29; (with_reducible refine (clone_any Q B nb cb body _ (HB.out.alloc _) (by omega)).mono ?_); rintro e w1 ⟨v1, rfl, ho1, hb1⟩; have HX1 : Hid (Below w.heap.size w w1) := Lib.hid (((Below.refl _ w).alloc (Nat.le_refl _) _).trans (hb1.mono (by simp))); have HM1 : Hid (Blk w1 w.heap.size 50 [.int .i64 0, .int .i64 0, .slice none 0 0, .slice none 0 0]) := Lib.hid ((Blk.fresh rfl (by kernel_rfl)).through hb1); obtain ⟨B1, c1, rfl, _⟩ := own_form ho1; clear ho1 hb1)
    | (go_at_call 27; (with_reducible refine (text_any Q k body B nb cb _ (HB.out.through HX1.out) (by omega)).mono ?_); rintro e w2 ⟨T2, c2, rfl, hy2, hb2⟩; have HX2 := Lib.hid (HX1.out.trans (hb2.mono HX1.out.size)); have HM2 := Lib.hid (HM1.out.through hb2); clear hy2 hb2)
    | (go_at_call 30; (with_reducible refine (tags_nil f T2 (1 + nb) c2 A n c _).mono ?_); rintro e w3 ⟨rfl, hb3⟩; have HX3 := Lib.hid (HX2.out.trans (hb3.mono HX2.out.size)); have HM3 := Lib.hid (HM2.out.through hb3); clear hb3)
    | (refine wpList_store_blk rfl 50 (.tmp 10) (.tmp 22) rfl w.heap.size [.int .i64 k, .int .i64 f, .slice B1 nb c1, .slice none 0 0] rfl rfl 50 [.int .i64 0, .int .i64 0, .slice none 0 0, .slice none 0 0] HM3.out (by kernel_rfl) rfl (by simp [Value.oneCell']) ?_; intro w4 hb4 hg4; have HM4 := Lib.hid hb4; have HX4 := Lib.hid (HX3.out.grown hg4 HX3.out.size (fun k hk => Option.some.inj hk ▸ Nat.le_refl _)); clear hb4 hg4))
  exact bodyPost_ret (v := .agg #[.int .i64 k, .int .i64 f, .slice B1 nb c1, .slice none 0 0]) (results_cell_row rfl _ _ w.heap.size 50 _ (0, 0) _ rfl HM4.out Try.underlying50 rfl (by kernel_rfl)) rfl ⟨B1, c1, rfl, HX4.out⟩

set_option maxHeartbeats 4000000 in
set_option maxRecDepth 100000 in
theorem check_nilc (Q : Nat → Prop) (k f who : Int) (body tg : List UInt8) (tgs : List (List UInt8)) (B : Option Addr) (nb cb : Nat) (hnb : nb ≤ 100000) (A : Option Addr) (n c j : Nat) (hj : tgs[j]? = some tg) (w : World) (hyb : By w Q B nb body) (hta : Tg w A n tgs) :
    Calls Try.prog 19 #[.nilIface, .agg #[.int .i64 k, .int .i64 f, .slice B nb cb, .slice A n c], .int .i64 (j : Int), .int .i64 who] w fun e w' => e = .returned (.int .i64 12) ∧ Below w.heap.size w w' := by
  have hjn : j < n := by
    have h1 := (List.getElem?_eq_some_iff.1 hj).1
    have h2 := hta.1
    omega
  obtain ⟨htl, gt, ot, rfl, hrg⟩ := hta.at j tg hj
  have hd1 : decide ((j : Int) < 0) = false := by simp
  have hd2 : decide ((n : Int) ≤ (j : Int)) = false := by simp; omega
  obtain ⟨q, hq⟩ : ∃ q, q = vs tg := ⟨_, rfl⟩
  have hql : q.length = 32 := by rw [hq, vs_length, htl]
  rw [← hq] at hrg
  have hhold : ∀ T tn tc W, Calls Try.prog 28 #[.nilIface, .int .i64 f, .int .i64 who, .slice T tn tc, .agg q.toArray] W fun e w' => e = .returned (.bool false) ∧ Below W.heap.size W w' := fun T tn tc W => by
    rw [hq]
    exact holds_nil f who T tn tc tg W
  have hix := fun W => run_index_tags W gt ot n c j hjn
  have hrb := range_blk hrg (by omega)
  have HHold := Lib.hid hhold
  have HQl := Lib.hid hql
  have hx0 : Below w.heap.size w (w.alloc (.cells #[.int .i64 k, .int .i64 f, .slice B nb cb, .slice (some ⟨gt, ot, none⟩) n c] 50)) := (Below.refl _ w).alloc (Nat.le_refl _) _
  have H50 : Hid (Blk (w.alloc (.cells #[.int .i64 k, .int .i64 f, .slice B nb cb, .slice (some ⟨gt, ot, none⟩) n c] 50)).drew w.heap.size 50 [.int .i64 k, .int .i64 f, .slice B nb cb, .slice (some ⟨gt, ot, none⟩) n c]) := Lib.hid (Blk.drew (Blk.fresh rfl rfl))
  have HR0 : Hid ((w.alloc (.cells #[.int .i64 k, .int .i64 f, .slice B nb cb, .slice (some ⟨gt, ot, none⟩) n c] 50)).drew.rangeAt gt (ot + j * 32) q) := Lib.hid (range_keep hrg (hx0.block gt hrb.1))
  have HB0 := Lib.hid ((hyb.through hx0).drew)
  have HX0 := Lib.hid (hx0.drew)
  clear hyb hta hj htl hq hql hrg hhold hrb hx0
  go_enter Try.func19, Try.ntmps19
  go_wp2
  try dsimp only [Act.put]
  refine wp_region_held_drew (S := fun W => Blk W w.heap.size 50 [.int .i64 k, .int .i64 f, .slice B nb cb, .slice (some ⟨gt, ot, none⟩) n c] ∧ W.rangeAt gt (ot + j * 32) q) (by kernel_rfl) ⟨H50.out, HR0.out⟩ (fun hHeld => ?_)
  change wpAnyH _ _ _ _ _ _ #[false, false, false, false, false, false, false, false, false, false, false, false, false, false, false, false] _ _
  refine wpAnyH_take (i := 0) (v := (.nilIface)) rfl (by kernel_rfl) (by kernel_rfl) (by kernel_rfl) (fun _ _ _ h => h) (Or.inl ⟨by kernel_rfl, fun w hSw => ?_⟩) (by assumption) ?_
  · (try dsimp only at hSw); go_simp <;> (try rfl)
  change wpAnyH _ _ _ _ _ _ _ (Act.put _ (some (18 : Nat)) (.nilIface)) _
  simp only [Act.put, List.setIfInBounds_toArray, List.set_cons_zero, List.set_cons_succ]
  refine wpAnyH_take (i := 1) (v := (.pointer (some ⟨w.heap.size, 1, none⟩))) rfl (by kernel_rfl) (by kernel_rfl) (by kernel_rfl) (fun _ _ _ h => h) (Or.inl ⟨by kernel_rfl, fun w hSw => ?_⟩) (by assumption) ?_
  · (try dsimp only at hSw); go_simp <;> (try rfl)
  change wpAnyH _ _ _ _ _ _ _ (Act.put _ (some (19 : Nat)) (.pointer (some ⟨w.heap.size, 1, none⟩))) _
  simp only [Act.put, List.setIfInBounds_toArray, List.set_cons_zero, List.set_cons_succ]
  refine wpAnyH_take (i := 2) (v := (.int .i64 f)) rfl (by kernel_rfl) (by kernel_rfl) (by kernel_rfl) (fun _ _ _ h => h) (yields_load_at (by kernel_rfl) 3 (.tmp 19) rfl (.pointer (some ⟨w.heap.size, 1, none⟩)) (by simp [Act.eval]) (.int .i64 f) (fun W hW => load_one' (Try.agg_int W) (hW.1.cellAt rfl))) (by assumption) ?_
  change wpAnyH _ _ _ _ _ _ _ (Act.put _ (some (20 : Nat)) (.int .i64 f)) _
  simp only [Act.put, List.setIfInBounds_toArray, List.set_cons_zero, List.set_cons_succ]
  refine wpAnyH_take (i := 3) (v := (.int .i64 who)) rfl (by kernel_rfl) (by kernel_rfl) (by kernel_rfl) (fun _ _ _ h => h) (Or.inl ⟨by kernel_rfl, fun w hSw => ?_⟩) (by assumption) ?_
  · (try dsimp only at hSw); go_simp <;> (try rfl)
  change wpAnyH _ _ _ _ _ _ _ (Act.put _ (some (21 : Nat)) (.int .i64 who)) _
  simp only [Act.put, List.setIfInBounds_toArray, List.set_cons_zero, List.set_cons_succ]
  refine wpAnyH_take (i := 4) (v := (.pointer (some ⟨w.heap.size, 0, none⟩))) rfl (by kernel_rfl) (by kernel_rfl) (by kernel_rfl) (fun _ _ _ h => h) (Or.inl ⟨by kernel_rfl, fun w hSw => ?_⟩) (by assumption) ?_
  · (try dsimp only at hSw); go_simp <;> (try rfl)
  change wpAnyH _ _ _ _ _ _ _ (Act.put _ (some (22 : Nat)) (.pointer (some ⟨w.heap.size, 0, none⟩))) _
  simp only [Act.put, List.setIfInBounds_toArray, List.set_cons_zero, List.set_cons_succ]
  refine wpAnyH_take (i := 5) (v := (.int .i64 k)) rfl (by kernel_rfl) (by kernel_rfl) (by kernel_rfl) (fun _ _ _ h => h) (yields_load_at (by kernel_rfl) 3 (.tmp 22) rfl (.pointer (some ⟨w.heap.size, 0, none⟩)) (by simp [Act.eval]) (.int .i64 k) (fun W hW => load_one' (Try.agg_int W) (hW.1.cellAt rfl))) (by assumption) ?_
  change wpAnyH _ _ _ _ _ _ _ (Act.put _ (some (23 : Nat)) (.int .i64 k)) _
  simp only [Act.put, List.setIfInBounds_toArray, List.set_cons_zero, List.set_cons_succ]
  refine wpAnyH_take (i := 6) (v := (.pointer (some ⟨w.heap.size, 2, none⟩))) rfl (by kernel_rfl) (by kernel_rfl) (by kernel_rfl) (fun _ _ _ h => h) (Or.inl ⟨by kernel_rfl, fun w hSw => ?_⟩) (by assumption) ?_
  · (try dsimp only at hSw); go_simp <;> (try rfl)
  change wpAnyH _ _ _ _ _ _ _ (Act.put _ (some (24 : Nat)) (.pointer (some ⟨w.heap.size, 2, none⟩))) _
  simp only [Act.put, List.setIfInBounds_toArray, List.set_cons_zero, List.set_cons_succ]
  refine wpAnyH_take (i := 7) (v := (.slice B nb cb)) rfl (by kernel_rfl) (by kernel_rfl) (by kernel_rfl) (fun _ _ _ h => h) (yields_load_at (by kernel_rfl) 33 (.tmp 24) rfl (.pointer (some ⟨w.heap.size, 2, none⟩)) (by simp [Act.eval]) (.slice B nb cb) (fun W hW => load_one' (Try.agg_sl W) (hW.1.cellAt rfl))) (by assumption) ?_
  change wpAnyH _ _ _ _ _ _ _ (Act.put _ (some (25 : Nat)) (.slice B nb cb)) _
  simp only [Act.put, List.setIfInBounds_toArray, List.set_cons_zero, List.set_cons_succ]
  refine wpAnyH_take (i := 9) (v := (.pointer (some ⟨w.heap.size, 3, none⟩))) rfl (by kernel_rfl) (by kernel_rfl) (by kernel_rfl) (fun _ _ _ h => h) (Or.inl ⟨by kernel_rfl, fun w hSw => ?_⟩) (by assumption) ?_
  · (try dsimp only at hSw); go_simp <;> (try rfl)
  change wpAnyH _ _ _ _ _ _ _ (Act.put _ (some (27 : Nat)) (.pointer (some ⟨w.heap.size, 3, none⟩))) _
  simp only [Act.put, List.setIfInBounds_toArray, List.set_cons_zero, List.set_cons_succ]
  refine wpAnyH_take (i := 10) (v := (.slice (some ⟨gt, ot, none⟩) n c)) rfl (by kernel_rfl) (by kernel_rfl) (by kernel_rfl) (fun _ _ _ h => h) (yields_load_at (by kernel_rfl) 48 (.tmp 27) rfl (.pointer (some ⟨w.heap.size, 3, none⟩)) (by simp [Act.eval]) (.slice (some ⟨gt, ot, none⟩) n c) (fun W hW => load_one' (Try.agg_tags W) (hW.1.cellAt rfl))) (by assumption) ?_
  change wpAnyH _ _ _ _ _ _ _ (Act.put _ (some (28 : Nat)) (.slice (some ⟨gt, ot, none⟩) n c)) _
  simp only [Act.put, List.setIfInBounds_toArray, List.set_cons_zero, List.set_cons_succ]
  refine wpAnyH_take (i := 11) (v := (.int .i64 (j : Int))) rfl (by kernel_rfl) (by kernel_rfl) (by kernel_rfl) (fun _ _ _ h => h) (Or.inl ⟨by kernel_rfl, fun w hSw => ?_⟩) (by assumption) ?_
  · (try dsimp only at hSw); go_simp <;> (try rfl)
  change wpAnyH _ _ _ _ _ _ _ (Act.put _ (some (29 : Nat)) (.int .i64 (j : Int))) _
  simp only [Act.put, List.setIfInBounds_toArray, List.set_cons_zero, List.set_cons_succ]
  refine wpAnyH_take (i := 12) (v := (.pointer (some ⟨gt, ot + j * 32, none⟩))) rfl (by kernel_rfl) (by kernel_rfl) (by kernel_rfl) (fun _ _ _ h => h) (Or.inl ⟨by kernel_rfl, fun w hSw => ?_⟩) (by assumption) ?_
  · (try dsimp only at hSw); go_simp <;> (try rfl)
  change wpAnyH _ _ _ _ _ _ _ (Act.put _ (some (30 : Nat)) (.pointer (some ⟨gt, ot + j * 32, none⟩))) _
  simp only [Act.put, List.setIfInBounds_toArray, List.set_cons_zero, List.set_cons_succ]
  refine wpAnyH_take (i := 13) (v := (.agg q.toArray)) rfl (by kernel_rfl) (by kernel_rfl) (by kernel_rfl) (fun _ _ _ h => h) (yieldsIf_load_mid (by kernel_rfl) 35 (.tmp 30) rfl gt (ot + j * 32) (by simp [Act.eval]) q _ (fun W hW => hW.2) Try.underlying35 rfl (by rw [HQl.out]; kernel_rfl)) (by assumption) ?_
  change wpAnyH _ _ _ _ _ _ _ (Act.put _ (some (31 : Nat)) (.agg q.toArray)) _
  simp only [Act.put, List.setIfInBounds_toArray, List.set_cons_zero, List.set_cons_succ]
  refine wpAnyH_ready (rs := [8]) (by kernel_rfl) (by simp) ?_
  refine AllReadyH.cons rfl (fun K hK => ?_) AllReadyH.nil
  go_simp
  refine (text_any Q k body B nb cb _ HB0.out (by omega)).mono ?_
  rintro e wa ⟨Ta, ca, rfl, _, hb⟩; have HXa := Lib.hid (HX0.out.trans (hb.mono HX0.out.size)); have H5a := Lib.hid (H50.out.through hb); have HRa := Lib.hid (range_keep HR0.out (hb.block gt (range_blk HR0.out (by rw [HQl.out]; omega)).1)); clear hb
  go_wp2_with fail
  refine hK.out _ _ ⟨H5a.out, HRa.out⟩ (fun hHeld1 => ?_)
  clear hHeld hK K
  have hHeld := hHeld1
  clear hHeld1
  refine wpAnyH_ready (rs := [14]) (by kernel_rfl) (by simp) ?_
  refine AllReadyH.cons rfl (fun K hK => ?_) AllReadyH.nil
  go_simp
  refine (HHold.out Ta (1 + nb) ca _).mono ?_
  rintro e wb ⟨rfl, hb⟩; have HXb := Lib.hid (HXa.out.trans (hb.mono HXa.out.size)); have H5b := Lib.hid (H5a.out.through hb); have HRb := Lib.hid (range_keep HRa.out (hb.block gt (range_blk HRa.out (by rw [HQl.out]; omega)).1)); clear hb
  go_wp2_with fail
  refine hK.out _ _ ⟨H5b.out, HRb.out⟩ (fun hHeld1 => ?_)
  clear hHeld hK K
  have hHeld := hHeld1
  clear hHeld1
  refine wpAnyH_take (i := 15) (v := (.bool true)) rfl (by kernel_rfl) (by kernel_rfl) (by kernel_rfl) (fun _ _ _ h => h) (Or.inl ⟨by kernel_rfl, fun w hSw => ?_⟩) (by assumption) ?_
  · (try dsimp only at hSw); go_simp <;> (try rfl)
  change wpAnyH _ _ _ _ _ _ _ (Act.put _ (some (33 : Nat)) (.bool true)) _
  simp only [Act.put, List.setIfInBounds_toArray, List.set_cons_zero, List.set_cons_succ]
  refine wpAnyH_done (by kernel_rfl) ?_ _
  go_wp2
  go_ret
  exact ⟨rfl, HXb.out⟩

set_option maxHeartbeats 4000000 in
set_option maxRecDepth 100000 in
theorem rall_some (m : Nat) (h1 : 1 ≤ m) (h7 : m ≤ 7) (w : World) :
    Calls Try.prog 18 #[.int .i64 (m : Int)] w fun e w' => ∃ A c, e = .returned (.slice A m c) ∧ Iv w' (fun _ => True) A m (upTo m) ∧ Below w.heap.size w w' := by
  obtain ⟨i0, hi, hz0, hz1, hz2⟩ := info_parts Try.info_int
  have hd2 : decide ((m : Int) ≤ 7) = true := by simp; omega
  go_enter Try.func18, Try.ntmps18
  go_wp2
  go_loopw [3, 4] (fun v iv wr => ∃ j : Nat, j ≤ m ∧ iv = .int .i64 j ∧ wr.ownsRow w.heap.size 3 1 v j (upC j) ∧ Below w.heap.size w wr) (fun _ iv _ => m - (intOf iv).toNat)
  case atStart => exact ⟨0, Nat.zero_le _, rfl, World.ownsRow_nil _ _ _ _, Below.refl _ w⟩
  case round =>
    obtain ⟨j, hj, rfl, ho, hx⟩ := hrel
    have HO := Lib.hid ho
    have HX := Lib.hid hx
    clear ho hx
    by_cases hlt : j < m
    · go_wp2_with (at_builtin; refine wpList_append_lies _ rfl (.tmp 14) (.tmp 16) 51 rfl w.heap.size 3 i0 (.int .i64 0) 1 8 Try.underlying51 hi hz0 hz1 hz2 rfl (by decide) _ j (upC j) rfl (own_at HO.out (fun k _ hl _ _ => Below.heap_alloc wr _ k hl)) ⟨wr.heap.size, 0, none⟩ 1 1 [.int .i64 (j : Int)] rfl rfl (fun j' y hy => row_cell (Blk.fresh rfl rfl) j' y hy) (fun y hy => by simp at hy; subst hy; rfl) (by omega) (by unfold maxLen; omega) (by omega) (Nat.le_trans HX.out.size (by simp)) _ rfl ?_; intro gc cap w1 ho1 hg1 _ _; rw [upC_succ] at ho1; have HO1 := Lib.hid ho1; have HX1 : Hid (Below w.heap.size w w1) := Lib.hid ((HX.out.alloc HX.out.size _).grown hg1 (Nat.le_trans HX.out.size (by simp)) (fun k hk => ((own_formS HO.out).choose_spec.choose_spec.2.2.2 k hk).1)); clear ho1 hg1)
      go_roundw
      case rel => exact ⟨j + 1, by omega, by go_num, HO1.out, HX1.out⟩
      case measure => simp [intOf]; omega
    · obtain rfl : j = m := by omega
      obtain ⟨A, c, rfl, _⟩ := own_formS HO.out
      go_wp2
      go_ret
      exact ⟨A, c, rfl, Iv.of_own HO.out, HX.out⟩

theorem rall_none (n : Int) (h : n < 1 ∨ 7 < n) (w : World) :
    Calls Try.prog 18 #[.int .i64 n] w fun e w' => e = .returned (.slice none 0 0) ∧ w = w' := by
  rcases h with h | h
  · have hd1 : decide (0 < n) = false := by simp; omega
    go_enter Try.func18, Try.ntmps18
    go_wp2
    go_rounds 1
    go_ret
    exact ⟨rfl, rfl⟩
  · have hd1 : decide (0 < n) = true := by simp; omega
    have hd2 : decide (n ≤ 7) = false := by simp; omega
    go_enter Try.func18, Try.ntmps18
    go_wp2
    go_rounds 1
    go_ret
    exact ⟨rfl, rfl⟩

end Go.Proofs.Ytnncfhkgcaoomaa
