/-
  The document's Proposal: bytes.
-/
import Derived.Test.YtpngcdafamkhcaaVJ
import Derived.Test.YtpngcdafamkhcaaBaE
namespace Go.Proofs.Ytpngcdafamkhcaa
open Go.RowKit

set_option maxHeartbeats 16000000 in
set_option maxRecDepth 100000 in
theorem rprop_any (v : Pr) (A : Option Addr) (k c : Nat) (w : World) (h : EysIn w A k v.es) (hk : k ≤ 1000000) (hl : ∀ y ∈ v.es, y.co.lt.length ≤ 1000000 ∧ y.co.tx.length ≤ 1000000) (hL : (encB v.es).length ≤ 100000000000) :
    Calls Try.prog 8 #[.agg #[.int .i64 v.vw, .int .i64 v.sq, .slice A k c]] w (Byt w (encPr v)) := by
  have HB : Hid (Blk (w.alloc (.cells #[.int .i64 v.vw, .int .i64 v.sq, .slice A k c] 24)) w.heap.size 24 [.int .i64 v.vw, .int .i64 v.sq, .slice A k c]) := Lib.hid (Blk.fresh rfl rfl)
  have HX : Hid (Below w.heap.size w (w.alloc (.cells #[.int .i64 v.vw, .int .i64 v.sq, .slice A k c] 24))) := Lib.hid (below1_ w _)
  have HP1 : Hid (∀ (W : World) (B : Option Addr) (k d : Nat), By W (fun _ => True) B k ([]) → Calls Try.prog 35 #[.slice B k d, .int .u64 (((u64N v.vw) : Nat) : Int), .int .i64 8] W (Byt W (beB (u64N v.vw) 8))) := Lib.hid (fun W B k d hY => by have h9 := rput_by 8 rfl (u64N v.vw) (by unfold u64N; omega) (c := d) hY (by simp); rw [List.nil_append] at h9; exact h9)
  have HP2 : Hid (∀ (W : World) (B : Option Addr) (k d : Nat), By W (fun _ => True) B k (beB (u64N v.vw) 8) → Calls Try.prog 35 #[.slice B k d, .int .u64 (((u64N v.sq) : Nat) : Int), .int .i64 8] W (Byt W (beB (u64N v.vw) 8 ++ beB (u64N v.sq) 8))) := Lib.hid (fun W B k d hY => rput_by 8 rfl (u64N v.sq) (by unfold u64N; omega) hY (by (try simp only [List.length_append]); (try simp only [beB_length]); omega))
  have HBy : Hid (∀ W : World, Below (w.alloc (.cells #[.int .i64 v.vw, .int .i64 v.sq, .slice A k c] 24)).heap.size (w.alloc (.cells #[.int .i64 v.vw, .int .i64 v.sq, .slice A k c] 24)) W → Calls Try.prog 36 #[.slice A k c] W (Byt W (encB v.es))) := Lib.hid (fun W hW => rbytesB_any v.es A k c W (h.through (below_step HX.out hW)) hk hl hL)
  have HRw : Hid (∀ (W : World) (C : Option Addr) (m d : Nat) (C' : Option Addr) (m' d' : Nat), By W (fun _ => True) C m (beB (u64N v.vw) 8 ++ beB (u64N v.sq) 8) → By W (fun _ => True) C' m' (encB v.es) → Calls Try.prog 34 #[.slice C m d, .slice C' m' d'] W (Byt W (beB (u64N v.vw) 8 ++ beB (u64N v.sq) 8 ++ rowB (encB v.es)))) := Lib.hid (fun W C m d C' m' d' h1 h2 => rrow_by h1 h2 (by (try simp only [List.length_append]); (try simp only [beB_length]); omega) (by omega))
  clear h hk hl hL
  go_enter Try.func8, Try.ntmps8
  go_wp2
  try dsimp only [Act.put]
  refine wp_region_held_drew (S := fun W => Below (w.alloc (.cells #[.int .i64 v.vw, .int .i64 v.sq, .slice A k c] 24)).heap.size (w.alloc (.cells #[.int .i64 v.vw, .int .i64 v.sq, .slice A k c] 24)) W) (by kernel_rfl) (Below.refl _ _).drew (fun hHeld => ?_)
  change wpAnyH _ _ _ _ _ _ #[false, false, false, false, false, false, false, false, false, false, false, false, false] _ _
  refine wpAnyH_take (i := 0) (v := (.pointer (some ⟨w.heap.size, 0, none⟩))) rfl (by kernel_rfl) (by kernel_rfl) (by kernel_rfl) (fun _ _ _ h => h) (Or.inl ⟨by kernel_rfl, fun w hSw => ?_⟩) (by assumption) ?_
  · (try dsimp only at hSw); go_simp <;> (try rfl)
  change wpAnyH _ _ _ _ _ _ _ (Act.put _ (some (3 : Nat)) (.pointer (some ⟨w.heap.size, 0, none⟩))) _
  simp only [Act.put, List.setIfInBounds_toArray, List.set_cons_zero, List.set_cons_succ]
  refine wpAnyH_take (i := 1) (v := (.int .i64 v.vw)) rfl (by kernel_rfl) (by kernel_rfl) (by kernel_rfl) (fun _ _ _ h => h) (yields_load_at (by kernel_rfl) 2 (.tmp 3) rfl (.pointer (some ⟨w.heap.size, 0, none⟩)) (by simp [Act.eval]) (.int .i64 v.vw) (fun W hW => load_one' (Try.agg_i64 W) ((HB.out.through hW).cellAt (i := 0) rfl))) (by assumption) ?_
  change wpAnyH _ _ _ _ _ _ _ (Act.put _ (some (4 : Nat)) (.int .i64 v.vw)) _
  simp only [Act.put, List.setIfInBounds_toArray, List.set_cons_zero, List.set_cons_succ]
  refine wpAnyH_take (i := 2) (v := (.int .u64 ((u64N v.vw : Nat) : Int))) rfl (by kernel_rfl) (by kernel_rfl) (by kernel_rfl) (fun _ _ _ h => h) (yields_conv (by kernel_rfl) 2 68 (.tmp 4) rfl (.int .i64 v.vw) (by simp [Act.eval]) (.int .u64 ((u64N v.vw : Nat) : Int)) (fun W _ => conv_u64 2 68 Try.underlying2 Try.underlying68 v.vw W)) (by assumption) ?_
  change wpAnyH _ _ _ _ _ _ _ (Act.put _ (some (5 : Nat)) (.int .u64 ((u64N v.vw : Nat) : Int))) _
  simp only [Act.put, List.setIfInBounds_toArray, List.set_cons_zero, List.set_cons_succ]
  refine wpAnyH_take (i := 4) (v := (.pointer (some ⟨w.heap.size, 1, none⟩))) rfl (by kernel_rfl) (by kernel_rfl) (by kernel_rfl) (fun _ _ _ h => h) (Or.inl ⟨by kernel_rfl, fun w hSw => ?_⟩) (by assumption) ?_
  · (try dsimp only at hSw); go_simp <;> (try rfl)
  change wpAnyH _ _ _ _ _ _ _ (Act.put _ (some (7 : Nat)) (.pointer (some ⟨w.heap.size, 1, none⟩))) _
  simp only [Act.put, List.setIfInBounds_toArray, List.set_cons_zero, List.set_cons_succ]
  refine wpAnyH_take (i := 5) (v := (.int .i64 v.sq)) rfl (by kernel_rfl) (by kernel_rfl) (by kernel_rfl) (fun _ _ _ h => h) (yields_load_at (by kernel_rfl) 2 (.tmp 7) rfl (.pointer (some ⟨w.heap.size, 1, none⟩)) (by simp [Act.eval]) (.int .i64 v.sq) (fun W hW => load_one' (Try.agg_i64 W) ((HB.out.through hW).cellAt (i := 1) rfl))) (by assumption) ?_
  change wpAnyH _ _ _ _ _ _ _ (Act.put _ (some (8 : Nat)) (.int .i64 v.sq)) _
  simp only [Act.put, List.setIfInBounds_toArray, List.set_cons_zero, List.set_cons_succ]
  refine wpAnyH_take (i := 6) (v := (.int .u64 ((u64N v.sq : Nat) : Int))) rfl (by kernel_rfl) (by kernel_rfl) (by kernel_rfl) (fun _ _ _ h => h) (yields_conv (by kernel_rfl) 2 68 (.tmp 8) rfl (.int .i64 v.sq) (by simp [Act.eval]) (.int .u64 ((u64N v.sq : Nat) : Int)) (fun W _ => conv_u64 2 68 Try.underlying2 Try.underlying68 v.sq W)) (by assumption) ?_
  change wpAnyH _ _ _ _ _ _ _ (Act.put _ (some (9 : Nat)) (.int .u64 ((u64N v.sq : Nat) : Int))) _
  simp only [Act.put, List.setIfInBounds_toArray, List.set_cons_zero, List.set_cons_succ]
  refine wpAnyH_take (i := 8) (v := (.pointer (some ⟨w.heap.size, 2, none⟩))) rfl (by kernel_rfl) (by kernel_rfl) (by kernel_rfl) (fun _ _ _ h => h) (Or.inl ⟨by kernel_rfl, fun w hSw => ?_⟩) (by assumption) ?_
  · (try dsimp only at hSw); go_simp <;> (try rfl)
  change wpAnyH _ _ _ _ _ _ _ (Act.put _ (some (11 : Nat)) (.pointer (some ⟨w.heap.size, 2, none⟩))) _
  simp only [Act.put, List.setIfInBounds_toArray, List.set_cons_zero, List.set_cons_succ]
  refine wpAnyH_take (i := 9) (v := (.slice A k c)) rfl (by kernel_rfl) (by kernel_rfl) (by kernel_rfl) (fun _ _ _ h => h) (yields_load_at (by kernel_rfl) 22 (.tmp 11) rfl (.pointer (some ⟨w.heap.size, 2, none⟩)) (by simp [Act.eval]) (.slice A k c) (fun W hW => load_one' (Try.agg_es W) ((HB.out.through hW).cellAt (i := 2) rfl))) (by assumption) ?_
  change wpAnyH _ _ _ _ _ _ _ (Act.put _ (some (12 : Nat)) (.slice A k c)) _
  simp only [Act.put, List.setIfInBounds_toArray, List.set_cons_zero, List.set_cons_succ]
  refine wpAnyH_ready (rs := [3]) (by kernel_rfl) (by simp) ?_
  refine AllReadyH.cons rfl (fun K hK => ?_) AllReadyH.nil
  go_simp
  refine (HP1.out _ _ _ _ By.none_).mono ?_
  rintro e wp ⟨Ap, np, dp, rfl, hyp, _, _, hbp⟩; have HYp := Lib.hid hyp; have HKp := Lib.hid (below_step hHeld hbp); clear hyp hbp
  go_wp2_with fail
  refine hK.out _ _ HKp.out (fun hHeld1 => ?_)
  clear hHeld hK K
  have hHeld := hHeld1
  clear hHeld1
  refine wpAnyH_ready (rs := [7]) (by kernel_rfl) (by simp) ?_
  refine AllReadyH.cons rfl (fun K hK => ?_) AllReadyH.nil
  go_simp
  refine (HP2.out _ _ _ _ HYp.out).mono ?_
  rintro e wq ⟨Aq, nq, dq, rfl, hyq, _, _, hbq⟩; have HYq := Lib.hid hyq; have HKq := Lib.hid (below_step hHeld hbq); clear hyq hbq
  go_wp2_with fail
  refine hK.out _ _ HKq.out (fun hHeld1 => ?_)
  clear hHeld hK K
  have hHeld := hHeld1
  clear hHeld1
  refine wpAnyH_ready (rs := [10]) (by kernel_rfl) (by simp) ?_
  refine AllReadyH.cons rfl (fun K hK => ?_) AllReadyH.nil
  go_simp
  refine (HBy.out _ (hHeld)).mono ?_
  rintro e wb ⟨Ab, nb, db, rfl, hyb, _, _, hbb⟩; have HYb := Lib.hid hyb; have HYq := Lib.hid (HYq.out.through hbb); have HKb := Lib.hid (below_step hHeld hbb); clear hyb hbb
  go_wp2_with fail
  refine hK.out _ _ HKb.out (fun hHeld1 => ?_)
  clear hHeld hK K
  have hHeld := hHeld1
  clear hHeld1
  refine wpAnyH_ready (rs := [11]) (by kernel_rfl) (by simp) ?_
  refine AllReadyH.cons rfl (fun K hK => ?_) AllReadyH.nil
  go_simp
  refine (HRw.out _ _ _ _ _ _ _ HYq.out HYb.out).mono ?_
  rintro e wr ⟨Ar, nr, dr, rfl, hyr, hcr, hmr, hbr⟩; have HYr := Lib.hid hyr; have HKr := Lib.hid (below_step hHeld hbr); have HCr := Lib.hid (And.intro hcr hmr); clear hyr hbr hcr hmr
  go_wp2_with fail
  refine hK.out _ _ HKr.out (fun hHeld1 => ?_)
  clear hHeld hK K
  have hHeld := hHeld1
  clear hHeld1
  refine wpAnyH_take (i := 12) (v := (.slice Ar nr dr)) rfl (by kernel_rfl) (by kernel_rfl) (by kernel_rfl) (fun _ _ _ h => h) (Or.inl ⟨by kernel_rfl, fun w hSw => ?_⟩) (by assumption) ?_
  · (try dsimp only at hSw); go_simp <;> (try rfl)
  change wpAnyH _ _ _ _ _ _ _ (Act.put _ (some (2 : Nat)) (.slice Ar nr dr)) _
  simp only [Act.put, List.setIfInBounds_toArray, List.set_cons_zero, List.set_cons_succ]
  refine wpAnyH_done (by kernel_rfl) ?_ _
  have HXc : Hid (Below w.heap.size w wr) := Lib.hid (below_step HX.out hHeld)
  clear hHeld
  go_wp2
  go_ret
  exact ⟨Ar, nr, dr, rfl, by have h9 := HYr.out; simpa only [encPr, List.append_assoc] using h9, HCr.out.1, HCr.out.2, HXc.out⟩

end Go.Proofs.Ytpngcdafamkhcaa
