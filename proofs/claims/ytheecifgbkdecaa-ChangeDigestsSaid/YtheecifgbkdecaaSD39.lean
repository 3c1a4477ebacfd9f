/-
  CwE
-/
import Derived.Test.YtheecifgbkdecaaSD38
namespace Go.Proofs.Ytheecifgbkdecaa
open Go.RowKit

theorem Try.cagg_pos (w : World) : (isAgg 22).run Try.prog w = .ok false w := by kernel_rfl
theorem Try.cagg_pfs (w : World) : (isAgg 23).run Try.prog w = .ok false w := by kernel_rfl
theorem Try.run_b4s (A B C D : Option Addr) (a b c d a' b' c' d' : Nat) (w : World) : (Instr.buildSlice 109 4 #[(0, .slice A a a'), (1, .slice B b b'), (2, .slice C c c'), (3, .slice D d d')]).run Try.prog w = .ok (.slice (some ⟨w.heap.size, 0, none⟩) 4 4) (w.alloc (.cells #[.slice A a a', .slice B b b', .slice C c c', .slice D d d'] 28)) := by kernel_rfl
set_option maxHeartbeats 16000000 in
set_option maxRecDepth 100000 in
theorem bytes18_any (c : Ch) (P Q R : Pl) (w : World) (h : ChIn w P Q R c) (hf : fewCh c = true) :
    Calls Try.prog 10 #[.agg (Ch.cells c P Q R).toArray] w (Byt w (encCh c)) := by
  have HB : Hid (Blk (w.alloc (.cells (Ch.cells c P Q R).toArray 25)) w.heap.size 25 (Ch.cells c P Q R)) := Lib.hid (Blk.fresh rfl rfl)
  have HX : Hid (Below w.heap.size w (w.alloc (.cells (Ch.cells c P Q R).toArray 25))) := Lib.hid (below1_ w _)
  have hlen := encCh_len hf h.1.1.2
  obtain ⟨f1, f2, f3⟩ := fewCh_low hf
  have hL : (encPos c.po).length ≤ 1000000 ∧ (encPfs c.pp).length ≤ 1000000 ∧ (encPfs c.pd).length ≤ 1000000 := by
    unfold encCh at hlen
    simp only [List.length_append, beB_length] at hlen
    omega
  have hl1 : P.2.1 ≤ 60000 := by rw [← h.1.1.len]; omega
  have hl2 : Q.2.1 ≤ 60000 := by rw [← h.2.1.1.len]; omega
  have hl3 : R.2.1 ≤ 60000 := by rw [← h.2.2.1.len]; omega
  have HNu : Hid (∀ (W : World) (g : Nat), Blk W g 2 [.int .i64 c.vw, .int .i64 c.lw] → Calls Try.prog 34 #[.slice (some ⟨g, 0, none⟩) 2 2] W (MadeS W 16 (beB (u64N c.vw) 8 ++ beB (u64N c.lw) 8))) := Lib.hid (fun W g h => numbers_two c.vw c.lw g W h)
  have HR1 : Hid (∀ W : World, Below (w.alloc (.cells (Ch.cells c P Q R).toArray 25)).heap.size (w.alloc (.cells (Ch.cells c P Q R).toArray 25)) W → Calls Try.prog 35 #[.slice P.1 P.2.1 P.2.2, .func (.func 36) #[] #[]] W (Byt W (encPos c.po))) := Lib.hid (fun W hW => rowpo_any c.po P.1 P.2.1 P.2.2 W (h.1.1.through (below_step HX.out hW)) hl1 (by omega))
  have HR2 : Hid (∀ W : World, Below (w.alloc (.cells (Ch.cells c P Q R).toArray 25)).heap.size (w.alloc (.cells (Ch.cells c P Q R).toArray 25)) W → Calls Try.prog 37 #[.slice Q.1 Q.2.1 Q.2.2, .func (.func 38) #[] #[]] W (Byt W (encPfs c.pp))) := Lib.hid (fun W hW => rowpf_any c.pp Q.1 Q.2.1 Q.2.2 W (h.2.1.1.through (below_step HX.out hW)) hl2 (fun p hp => Low.of_few (f1.2 p hp)) (by omega))
  have HR3 : Hid (∀ W : World, Below (w.alloc (.cells (Ch.cells c P Q R).toArray 25)).heap.size (w.alloc (.cells (Ch.cells c P Q R).toArray 25)) W → Calls Try.prog 37 #[.slice R.1 R.2.1 R.2.2, .func (.func 38) #[] #[]] W (Byt W (encPfs c.pd))) := Lib.hid (fun W hW => rowpf_any c.pd R.1 R.2.1 R.2.2 W (h.2.2.1.through (below_step HX.out hW)) hl3 (fun p hp => Low.of_few (f2.2 p hp)) (by omega))
  obtain ⟨OUT, hO⟩ : ∃ OUT, encCh c = OUT := ⟨_, rfl⟩
  have HCo : Hid (∀ (W : World) (g : Nat) (A B C D : Option Addr) (a b e d a' b' e' d' : Nat), Blk W g 28 [.slice A a a', .slice B b b', .slice C e e', .slice D d d'] → By W (fun _ => True) A a (beB (u64N c.vw) 8 ++ beB (u64N c.lw) 8) → By W (fun _ => True) B b (encPos c.po) → By W (fun _ => True) C e (encPfs c.pp) → By W (fun _ => True) D d (encPfs c.pd) → Calls Try.prog 33 #[.slice (some ⟨g, 0, none⟩) 4 4] W (Byt W OUT)) := Lib.hid (fun W g A B C D a b e d a' b' e' d' h1 h2 h3 h4 h5 => by
    have hfl : flatB [((A, a, a'), (beB (u64N c.vw) 8 ++ beB (u64N c.lw) 8)), ((B, b, b'), encPos c.po), ((C, e, e'), encPfs c.pp), ((D, d, d'), encPfs c.pd)] = OUT := by rw [← hO]; simp [flatB, encAll, encCh]
    have h9 := concatb_any [((A, a, a'), (beB (u64N c.vw) 8 ++ beB (u64N c.lw) 8)), ((B, b, b'), encPos c.po), ((C, e, e'), encPfs c.pp), ((D, d, d'), encPfs c.pd)] g 4 W rfl (by omega) h1 (fun x hx => by
      simp only [List.mem_cons, List.not_mem_nil, or_false] at hx
      rcases hx with rfl | rfl | rfl | rfl
      · exact h2
      · exact h3
      · exact h4
      · exact h5) (by rw [hfl, ← hO]; simp only [encCh, List.length_append, beB_length]; omega) (by rw [hfl, ← hO]; omega)
    rw [hfl] at h9
    exact h9)
  rw [hO]
  clear h hf hlen f1 f2 f3 hL hl1 hl2 hl3 hO
  go_enter Try.func10, Try.ntmps10
  go_wp2
  try dsimp only [Act.put]
  refine wp_region_held_drew (S := fun W => Below (w.alloc (.cells (Ch.cells c P Q R).toArray 25)).heap.size (w.alloc (.cells (Ch.cells c P Q R).toArray 25)) W) (by kernel_rfl) (Below.refl _ _).drew (fun hHeld => ?_)
  change wpAnyH _ _ _ _ _ _ #[false, false, false, false, false, false, false, false, false, false, false, false, false, false, false, false, false, false] _ _
  refine wpAnyH_take (i := 0) (v := (.pointer (some ⟨w.heap.size, 0, none⟩))) rfl (by kernel_rfl) (by kernel_rfl) (by kernel_rfl) (fun _ _ _ h => h) (Or.inl ⟨by kernel_rfl, fun w hSw => ?_⟩) (by assumption) ?_
  · (try dsimp only at hSw); go_simp <;> (try rfl)
  change wpAnyH _ _ _ _ _ _ _ (Act.put _ (some (3 : Nat)) (.pointer (some ⟨w.heap.size, 0, none⟩))) _
  simp only [Act.put, List.setIfInBounds_toArray, List.set_cons_zero, List.set_cons_succ]
  refine wpAnyH_take (i := 1) (v := (.int .i64 c.vw)) rfl (by kernel_rfl) (by kernel_rfl) (by kernel_rfl) (fun _ _ _ h => h) (yields_load_at (by kernel_rfl) 2 (.tmp 3) rfl (.pointer (some ⟨w.heap.size, 0, none⟩)) (by simp [Act.eval]) (.int .i64 c.vw) (fun W hW => load_one' (Try.agg_i64 W) ((HB.out.through hW).cellAt (i := 0) rfl))) (by assumption) ?_
  change wpAnyH _ _ _ _ _ _ _ (Act.put _ (some (4 : Nat)) (.int .i64 c.vw)) _
  simp only [Act.put, List.setIfInBounds_toArray, List.set_cons_zero, List.set_cons_succ]
  refine wpAnyH_take (i := 2) (v := (.pointer (some ⟨w.heap.size, 1, none⟩))) rfl (by kernel_rfl) (by kernel_rfl) (by kernel_rfl) (fun _ _ _ h => h) (Or.inl ⟨by kernel_rfl, fun w hSw => ?_⟩) (by assumption) ?_
  · (try dsimp only at hSw); go_simp <;> (try rfl)
  change wpAnyH _ _ _ _ _ _ _ (Act.put _ (some (5 : Nat)) (.pointer (some ⟨w.heap.size, 1, none⟩))) _
  simp only [Act.put, List.setIfInBounds_toArray, List.set_cons_zero, List.set_cons_succ]
  refine wpAnyH_take (i := 3) (v := (.int .i64 c.lw)) rfl (by kernel_rfl) (by kernel_rfl) (by kernel_rfl) (fun _ _ _ h => h) (yields_load_at (by kernel_rfl) 2 (.tmp 5) rfl (.pointer (some ⟨w.heap.size, 1, none⟩)) (by simp [Act.eval]) (.int .i64 c.lw) (fun W hW => load_one' (Try.agg_i64 W) ((HB.out.through hW).cellAt (i := 1) rfl))) (by assumption) ?_
  change wpAnyH _ _ _ _ _ _ _ (Act.put _ (some (6 : Nat)) (.int .i64 c.lw)) _
  simp only [Act.put, List.setIfInBounds_toArray, List.set_cons_zero, List.set_cons_succ]
  refine wpAnyH_take (i := 6) (v := (.pointer (some ⟨w.heap.size, 2, none⟩))) rfl (by kernel_rfl) (by kernel_rfl) (by kernel_rfl) (fun _ _ _ h => h) (Or.inl ⟨by kernel_rfl, fun w hSw => ?_⟩) (by assumption) ?_
  · (try dsimp only at hSw); go_simp <;> (try rfl)
  change wpAnyH _ _ _ _ _ _ _ (Act.put _ (some (9 : Nat)) (.pointer (some ⟨w.heap.size, 2, none⟩))) _
  simp only [Act.put, List.setIfInBounds_toArray, List.set_cons_zero, List.set_cons_succ]
  refine wpAnyH_take (i := 7) (v := (.slice P.1 P.2.1 P.2.2)) rfl (by kernel_rfl) (by kernel_rfl) (by kernel_rfl) (fun _ _ _ h => h) (yields_load_at (by kernel_rfl) 22 (.tmp 9) rfl (.pointer (some ⟨w.heap.size, 2, none⟩)) (by simp [Act.eval]) (.slice P.1 P.2.1 P.2.2) (fun W hW => load_one' (Try.cagg_pos W) ((HB.out.through hW).cellAt (i := 2) rfl))) (by assumption) ?_
  change wpAnyH _ _ _ _ _ _ _ (Act.put _ (some (10 : Nat)) (.slice P.1 P.2.1 P.2.2)) _
  simp only [Act.put, List.setIfInBounds_toArray, List.set_cons_zero, List.set_cons_succ]
  refine wpAnyH_take (i := 9) (v := (.pointer (some ⟨w.heap.size, 3, none⟩))) rfl (by kernel_rfl) (by kernel_rfl) (by kernel_rfl) (fun _ _ _ h => h) (Or.inl ⟨by kernel_rfl, fun w hSw => ?_⟩) (by assumption) ?_
  · (try dsimp only at hSw); go_simp <;> (try rfl)
  change wpAnyH _ _ _ _ _ _ _ (Act.put _ (some (12 : Nat)) (.pointer (some ⟨w.heap.size, 3, none⟩))) _
  simp only [Act.put, List.setIfInBounds_toArray, List.set_cons_zero, List.set_cons_succ]
  refine wpAnyH_take (i := 10) (v := (.slice Q.1 Q.2.1 Q.2.2)) rfl (by kernel_rfl) (by kernel_rfl) (by kernel_rfl) (fun _ _ _ h => h) (yields_load_at (by kernel_rfl) 23 (.tmp 12) rfl (.pointer (some ⟨w.heap.size, 3, none⟩)) (by simp [Act.eval]) (.slice Q.1 Q.2.1 Q.2.2) (fun W hW => load_one' (Try.cagg_pfs W) ((HB.out.through hW).cellAt (i := 3) rfl))) (by assumption) ?_
  change wpAnyH _ _ _ _ _ _ _ (Act.put _ (some (13 : Nat)) (.slice Q.1 Q.2.1 Q.2.2)) _
  simp only [Act.put, List.setIfInBounds_toArray, List.set_cons_zero, List.set_cons_succ]
  refine wpAnyH_take (i := 12) (v := (.pointer (some ⟨w.heap.size, 4, none⟩))) rfl (by kernel_rfl) (by kernel_rfl) (by kernel_rfl) (fun _ _ _ h => h) (Or.inl ⟨by kernel_rfl, fun w hSw => ?_⟩) (by assumption) ?_
  · (try dsimp only at hSw); go_simp <;> (try rfl)
  change wpAnyH _ _ _ _ _ _ _ (Act.put _ (some (15 : Nat)) (.pointer (some ⟨w.heap.size, 4, none⟩))) _
  simp only [Act.put, List.setIfInBounds_toArray, List.set_cons_zero, List.set_cons_succ]
  refine wpAnyH_take (i := 13) (v := (.slice R.1 R.2.1 R.2.2)) rfl (by kernel_rfl) (by kernel_rfl) (by kernel_rfl) (fun _ _ _ h => h) (yields_load_at (by kernel_rfl) 23 (.tmp 15) rfl (.pointer (some ⟨w.heap.size, 4, none⟩)) (by simp [Act.eval]) (.slice R.1 R.2.1 R.2.2) (fun W hW => load_one' (Try.cagg_pfs W) ((HB.out.through hW).cellAt (i := 4) rfl))) (by assumption) ?_
  change wpAnyH _ _ _ _ _ _ _ (Act.put _ (some (16 : Nat)) (.slice R.1 R.2.1 R.2.2)) _
  simp only [Act.put, List.setIfInBounds_toArray, List.set_cons_zero, List.set_cons_succ]
  refine wpAnyH_ready (rs := [4]) (by kernel_rfl) (by simp) ?_
  refine AllReadyH.cons (o := ⟨some 7, .buildSlice 111 2 #[(0, .tmp 4), (1, .tmp 6)], _, _, _, none⟩) rfl (fun K hK => ?_) AllReadyH.nil
  refine step_build2_w rfl 111 2 (.tmp 4) (.tmp 6) rfl (.int .i64 c.vw) (.int .i64 c.lw) (by simp [Act.eval]) (by simp [Act.eval]) (Try.run_b2i c.vw c.lw _) ?_; intro gx wx hbx hxx; have HBx := Lib.hid hbx; have HKx := Lib.hid (below_step hHeld hxx); clear hbx hxx
  refine hK.out _ _ HKx.out (fun hHeld1 => ?_)
  clear hHeld hK K
  have hHeld := hHeld1
  clear hHeld1
  change wpAnyH _ _ _ _ _ _ _ (Act.put _ (some (7 : Nat)) (.slice (some ⟨gx, 0, none⟩) 2 2)) _
  simp only [Act.put, List.setIfInBounds_toArray, List.set_cons_zero, List.set_cons_succ]
  refine wpAnyH_ready (rs := [5]) (by kernel_rfl) (by simp) ?_
  refine AllReadyH.cons rfl (fun K hK => ?_) AllReadyH.nil
  go_simp
  refine (HNu.out _ _ HBx.out).mono ?_
  rintro e wp ⟨Ap, cp, rfl, _, hyp, _, _, hbp⟩; have HYpp := Lib.hid hyp; have HKp := Lib.hid (below_step hHeld hbp); clear hyp hbp
  go_wp2_with fail
  refine hK.out _ _ HKp.out (fun hHeld1 => ?_)
  clear hHeld hK K
  have hHeld := hHeld1
  clear hHeld1
  refine wpAnyH_ready (rs := [8]) (by kernel_rfl) (by simp) ?_
  refine AllReadyH.cons rfl (fun K hK => ?_) AllReadyH.nil
  go_simp
  refine (HR1.out _ hHeld).mono ?_
  rintro e wq ⟨Aq, nq, cq, rfl, hyq, _, _, hbq⟩; have HYqq := Lib.hid hyq; have HYpq := Lib.hid (HYpp.out.through hbq); have HKq := Lib.hid (below_step hHeld hbq); clear hyq hbq
  go_wp2_with fail
  refine hK.out _ _ HKq.out (fun hHeld1 => ?_)
  clear hHeld hK K
  have hHeld := hHeld1
  clear hHeld1
  refine wpAnyH_ready (rs := [11]) (by kernel_rfl) (by simp) ?_
  refine AllReadyH.cons rfl (fun K hK => ?_) AllReadyH.nil
  go_simp
  refine (HR2.out _ hHeld).mono ?_
  rintro e wr ⟨Ar, nr, cr, rfl, hyr, _, _, hbr⟩; have HYrr := Lib.hid hyr; have HYpr := Lib.hid (HYpq.out.through hbr); have HYqr := Lib.hid (HYqq.out.through hbr); have HKr := Lib.hid (below_step hHeld hbr); clear hyr hbr
  go_wp2_with fail
  refine hK.out _ _ HKr.out (fun hHeld1 => ?_)
  clear hHeld hK K
  have hHeld := hHeld1
  clear hHeld1
  refine wpAnyH_ready (rs := [14]) (by kernel_rfl) (by simp) ?_
  refine AllReadyH.cons rfl (fun K hK => ?_) AllReadyH.nil
  go_simp
  refine (HR3.out _ hHeld).mono ?_
  rintro e ws ⟨As, ns, cs, rfl, hys, _, _, hbs⟩; have HYss := Lib.hid hys; have HYps := Lib.hid (HYpr.out.through hbs); have HYqs := Lib.hid (HYqr.out.through hbs); have HYrs := Lib.hid (HYrr.out.through hbs); have HKs := Lib.hid (below_step hHeld hbs); clear hys hbs
  go_wp2_with fail
  refine hK.out _ _ HKs.out (fun hHeld1 => ?_)
  clear hHeld hK K
  have hHeld := hHeld1
  clear hHeld1
  refine wpAnyH_ready (rs := [15]) (by kernel_rfl) (by simp) ?_
  refine AllReadyH.cons (o := ⟨some 18, .buildSlice 109 4 #[(0, .tmp 8), (1, .tmp 11), (2, .tmp 14), (3, .tmp 17)], _, _, _, none⟩) rfl (fun K hK => ?_) AllReadyH.nil
  refine step_build4_w rfl 109 28 (.tmp 8) (.tmp 11) (.tmp 14) (.tmp 17) rfl (.slice Ap 16 cp) (.slice Aq nq cq) (.slice Ar nr cr) (.slice As ns cs) (by simp [Act.eval]) (by simp [Act.eval]) (by simp [Act.eval]) (by simp [Act.eval]) (Try.run_b4s _ _ _ _ _ _ _ _ _ _ _ _ _) ?_; intro gy wy hby hxy; have HBy := Lib.hid hby; have HYpy := Lib.hid (HYps.out.through hxy); have HYqy := Lib.hid (HYqs.out.through hxy); have HYry := Lib.hid (HYrs.out.through hxy); have HYsy := Lib.hid (HYss.out.through hxy); have HKy := Lib.hid (below_step hHeld hxy); clear hby hxy
  refine hK.out _ _ HKy.out (fun hHeld1 => ?_)
  clear hHeld hK K
  have hHeld := hHeld1
  clear hHeld1
  change wpAnyH _ _ _ _ _ _ _ (Act.put _ (some (18 : Nat)) (.slice (some ⟨gy, 0, none⟩) 4 4)) _
  simp only [Act.put, List.setIfInBounds_toArray, List.set_cons_zero, List.set_cons_succ]
  refine wpAnyH_ready (rs := [16]) (by kernel_rfl) (by simp) ?_
  refine AllReadyH.cons rfl (fun K hK => ?_) AllReadyH.nil
  go_simp
  refine (HCo.out _ _ _ _ _ _ _ _ _ _ _ _ _ _ HBy.out HYpy.out HYqy.out HYry.out HYsy.out).mono ?_
  rintro e wz ⟨Az, nz, cz, rfl, hyz, hcz, hmz, hbz⟩; have HYz := Lib.hid hyz; have HCz := Lib.hid (And.intro hcz hmz); have HKz := Lib.hid (below_step hHeld hbz); clear hyz hcz hmz hbz
  go_wp2_with fail
  refine hK.out _ _ HKz.out (fun hHeld1 => ?_)
  clear hHeld hK K
  have hHeld := hHeld1
  clear hHeld1
  refine wpAnyH_take (i := 17) (v := (.slice Az nz cz)) rfl (by kernel_rfl) (by kernel_rfl) (by kernel_rfl) (fun _ _ _ h => h) (Or.inl ⟨by kernel_rfl, fun w hSw => ?_⟩) (by assumption) ?_
  · (try dsimp only at hSw); go_simp <;> (try rfl)
  change wpAnyH _ _ _ _ _ _ _ (Act.put _ (some (2 : Nat)) (.slice Az nz cz)) _
  simp only [Act.put, List.setIfInBounds_toArray, List.set_cons_zero, List.set_cons_succ]
  refine wpAnyH_done (by kernel_rfl) ?_ _
  have HXc := Lib.hid (below_step HX.out hHeld)
  clear hHeld
  go_wp2
  go_ret
  exact ⟨Az, nz, cz, rfl, HYz.out, HCz.out.1, HCz.out.2, HXc.out⟩

end Go.Proofs.Ytheecifgbkdecaa
