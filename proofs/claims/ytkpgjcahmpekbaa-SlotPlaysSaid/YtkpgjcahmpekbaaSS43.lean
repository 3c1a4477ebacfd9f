/-
  Joined: SwC.
-/
import Derived.Test.YtkpgjcahmpekbaaSS42
import Derived.Test.YtkpgjcahmpekbaaSST
namespace Go.Proofs.Ytkpgjcahmpekbaa
open Go.RowKit

set_option maxHeartbeats 16000000 in
set_option maxRecDepth 100000 in
theorem committed_sw {w : World} {R gp pv pc gm mv mc : Nat} {bv : Value} {s : Slt} (h : SwR w R gp pv pc gm mv mc bv s) (hl : SlLow s) :
  Calls Try.prog 44 #[(.pointer (some ⟨R, 0, none⟩))] w fun e w' => e = .returned (.bool (commB s)) ∧ Below w.heap.size w w' := by
 have HSd := Lib.hid h.dg
 have HVs : Hid ((vs s.dg).length = 32) := Lib.hid (D_len _ h.dg)
 have HN1 := Lib.hid hl.n1
 have HN7 := Lib.hid hl.n7
 have HB := Lib.hid h.box
 have Hpr := Lib.hid h.pr
 have Hcm := Lib.hid h.cm
 obtain ⟨q, hq⟩ : ∃ q, cntM s.dg s.cm = q := ⟨_, rfl⟩
 obtain ⟨f, hf⟩ : ∃ f, fltN s.n = f := ⟨_, rfl⟩
 obtain ⟨bh, hbh⟩ : ∃ bh, s.has = bh := ⟨_, rfl⟩
 have HR : Hid (commB s = (bh && decide ((2 * f + 1 : Int) ≤ (q : Int)))) := Lib.hid (by
  unfold commB
  rw [cntW_eq, hq, hf, hbh]
  refine congrArg (bh && ·) ?_
  rw [Bool.eq_iff_iff, decide_eq_true_iff, decide_eq_true_iff]
  exact ⟨fun h9 => by omega, fun h9 => by omega⟩)
 have HCn := Lib.hid hq
 have HFl := Lib.hid hf
 have HBh := Lib.hid hbh
 rw [HR.out]
 clear h hl hq hf hbh
 cases bh with
 | false =>
  go_enter Try.func44, Try.ntmps44
  go_upto_region 1 with fail
  refine wp_region_held_drew (S := fun W => Below w.heap.size w W) (by kernel_rfl) (Below.refl _ w).drew (fun hHeld => ?_)
  change wpAnyH _ _ _ _ _ _ #[false, false, false, false, false, false, false, false, false, false, false, false, false, false, false, false, false, false, false, false, false, false, false, false, false, false, false] _ _
  refine tkq (i := 0) (d := 3) (v := (.pointer (some ⟨R, 0, none⟩))) rfl rfl (Or.inl ⟨by kernel_rfl, fun w hSw => ?_⟩) (by assumption) ?_
  ·(try dsimp only at hSw); go_simp <;> (try rfl)
  simp only [Act.put, sq1, sq2, sq3]
  refine wpAnyH_ready (rs := [1]) (by kernel_rfl) (by simp) ?_
  refine AllReadyH.cons rfl (fun K hK => ?_) AllReadyH.nil
  go_simp
  refine (isnone_sl R s bv _ _ w.drew HB.out.drew HN1.out).mono ?_
  rintro e w3 ⟨rfl, hw9⟩; subst hw9
  go_wp2_with fail
  refine hK.out _ _ hHeld (fun hHeld1 => ?_)
  clear hHeld hK K
  have hHeld := hHeld1
  clear hHeld1
  refine tkq (i := 2) (d := 5) (v := (.bool true)) rfl rfl (Or.inl ⟨by kernel_rfl, fun w hSw => ?_⟩) (by assumption) ?_
  ·(try dsimp only at hSw); go_simp <;> (try rfl)
  simp only [Act.put, sq1, sq2, sq3]
  refine tkq (i := 3) (d := 6) (v := (.bool true)) rfl rfl (Or.inl ⟨by kernel_rfl, fun w hSw => ?_⟩) (by assumption) ?_
  ·(try dsimp only at hSw); go_simp <;> (try rfl)
  simp only [Act.put, sq1, sq2, sq3]
  refine tkq (i := 4) (d := 7) (v := (.pointer (some ⟨R, 0, none⟩))) rfl rfl (Or.inl ⟨by kernel_rfl, fun w hSw => ?_⟩) (by assumption) ?_
  ·(try dsimp only at hSw); go_simp <;> (try rfl)
  simp only [Act.put, sq1, sq2, sq3]
  refine tkq (i := 5) (d := 8) (v := (.pointer (some ⟨R, 0, none⟩))) rfl rfl (Or.inl ⟨by kernel_rfl, fun w hSw => ?_⟩) (by assumption) ?_
  ·(try dsimp only at hSw); go_simp <;> (try rfl)
  simp only [Act.put, sq1, sq2, sq3]
  refine tkq (i := 6) (d := 9) (v := (.pointer (some ⟨R, 1, none⟩))) rfl rfl (Or.inl ⟨by kernel_rfl, fun w hSw => ?_⟩) (by assumption) ?_
  ·(try dsimp only at hSw); go_simp <;> (try rfl)
  simp only [Act.put, sq1, sq2, sq3]
  refine tkq (i := 7) (d := 10) (v := (.bool false)) rfl rfl (yields_load_at (by kernel_rfl) 4 (.tmp 9) rfl (.pointer (some ⟨R, 1, none⟩)) (by simp [Act.eval]) (.bool false) (fun W hW => load_one' (Try.agg_bool20 W) (Blk.cellAt (i := 1) (HB.out.through hW) (by rw [slC, HBh.out]; rfl)))) (by assumption) ?_
  simp only [Act.put, sq1, sq2, sq3]
  refine tkq (i := 8) (d := 11) (v := (.bool false)) rfl rfl (Or.inl ⟨by kernel_rfl, fun w hSw => ?_⟩) (by assumption) ?_
  ·(try dsimp only at hSw); go_simp <;> (try rfl)
  simp only [Act.put, sq1, sq2, sq3]
  refine tkq (i := 9) (d := 12) (v := (.bool false)) rfl rfl (Or.inl ⟨by kernel_rfl, fun w hSw => ?_⟩) (by assumption) ?_
  ·(try dsimp only at hSw); go_simp <;> (try rfl)
  simp only [Act.put, sq1, sq2, sq3]
  refine tkv (i := 10) (d := 13) rfl rfl (by assumption) ?_
  simp only [Act.put, sq1, sq2, sq3]
  refine tkv (i := 11) (d := 14) rfl rfl (by assumption) ?_
  simp only [Act.put, sq1, sq2, sq3]
  refine tkv (i := 12) (d := 15) rfl rfl (by assumption) ?_
  simp only [Act.put, sq1, sq2, sq3]
  refine tkv (i := 13) (d := 16) rfl rfl (by assumption) ?_
  simp only [Act.put, sq1, sq2, sq3]
  refine tkv (i := 14) (d := 17) rfl rfl (by assumption) ?_
  simp only [Act.put, sq1, sq2, sq3]
  refine tkv (i := 15) (d := 18) rfl rfl (by assumption) ?_
  simp only [Act.put, sq1, sq2, sq3]
  refine tkv (i := 16) (d := 19) rfl rfl (by assumption) ?_
  simp only [Act.put, sq1, sq2, sq3]
  refine tkv (i := 17) (d := 20) rfl rfl (by assumption) ?_
  simp only [Act.put, sq1, sq2, sq3]
  refine tkv (i := 18) (d := 21) rfl rfl (by assumption) ?_
  simp only [Act.put, sq1, sq2, sq3]
  refine tkv (i := 19) (d := 22) rfl rfl (by assumption) ?_
  simp only [Act.put, sq1, sq2, sq3]
  refine tkv (i := 20) (d := 23) rfl rfl (by assumption) ?_
  simp only [Act.put, sq1, sq2, sq3]
  refine tkv (i := 21) (d := 24) rfl rfl (by assumption) ?_
  simp only [Act.put, sq1, sq2, sq3]
  refine tkv (i := 22) (d := 25) rfl rfl (by assumption) ?_
  simp only [Act.put, sq1, sq2, sq3]
  refine tkv (i := 23) (d := 26) rfl rfl (by assumption) ?_
  simp only [Act.put, sq1, sq2, sq3]
  refine tkv (i := 24) (d := 27) rfl rfl (by assumption) ?_
  simp only [Act.put, sq1, sq2, sq3]
  refine tkq (i := 25) (d := 28) (v := (.bool false)) rfl rfl (Or.inl ⟨by kernel_rfl, fun w hSw => ?_⟩) (by assumption) ?_
  ·(try dsimp only at hSw); go_simp <;> (try rfl)
  simp only [Act.put, sq1, sq2, sq3]
  refine tkq (i := 26) (d := 2) (v := (.bool false)) rfl rfl (Or.inl ⟨by kernel_rfl, fun w hSw => ?_⟩) (by assumption) ?_
  ·(try dsimp only at hSw); go_simp <;> (try rfl)
  simp only [Act.put, sq1, sq2, sq3]
  refine wpAnyH_done (by kernel_rfl) ?_ _
  go_wp2
  go_ret
  exact ⟨rfl, (Below.refl _ w).drew⟩
 | true =>
  go_enter Try.func44, Try.ntmps44
  go_upto_region 1 with fail
  refine wp_region_held_drew (S := fun W => Below w.heap.size w W) (by kernel_rfl) (Below.refl _ w).drew (fun hHeld => ?_)
  change wpAnyH _ _ _ _ _ _ #[false, false, false, false, false, false, false, false, false, false, false, false, false, false, false, false, false, false, false, false, false, false, false, false, false, false, false] _ _
  refine tkq (i := 0) (d := 3) (v := (.pointer (some ⟨R, 0, none⟩))) rfl rfl (Or.inl ⟨by kernel_rfl, fun w hSw => ?_⟩) (by assumption) ?_
  ·(try dsimp only at hSw); go_simp <;> (try rfl)
  simp only [Act.put, sq1, sq2, sq3]
  refine wpAnyH_ready (rs := [1]) (by kernel_rfl) (by simp) ?_
  refine AllReadyH.cons rfl (fun K hK => ?_) AllReadyH.nil
  go_simp
  refine (isnone_sl R s bv _ _ w.drew HB.out.drew HN1.out).mono ?_
  rintro e w3 ⟨rfl, hw9⟩; subst hw9
  go_wp2_with fail
  refine hK.out _ _ hHeld (fun hHeld1 => ?_)
  clear hHeld hK K
  have hHeld := hHeld1
  clear hHeld1
  refine tkq (i := 2) (d := 5) (v := (.bool true)) rfl rfl (Or.inl ⟨by kernel_rfl, fun w hSw => ?_⟩) (by assumption) ?_
  ·(try dsimp only at hSw); go_simp <;> (try rfl)
  simp only [Act.put, sq1, sq2, sq3]
  refine tkq (i := 3) (d := 6) (v := (.bool true)) rfl rfl (Or.inl ⟨by kernel_rfl, fun w hSw => ?_⟩) (by assumption) ?_
  ·(try dsimp only at hSw); go_simp <;> (try rfl)
  simp only [Act.put, sq1, sq2, sq3]
  refine tkq (i := 4) (d := 7) (v := (.pointer (some ⟨R, 0, none⟩))) rfl rfl (Or.inl ⟨by kernel_rfl, fun w hSw => ?_⟩) (by assumption) ?_
  ·(try dsimp only at hSw); go_simp <;> (try rfl)
  simp only [Act.put, sq1, sq2, sq3]
  refine tkq (i := 5) (d := 8) (v := (.pointer (some ⟨R, 0, none⟩))) rfl rfl (Or.inl ⟨by kernel_rfl, fun w hSw => ?_⟩) (by assumption) ?_
  ·(try dsimp only at hSw); go_simp <;> (try rfl)
  simp only [Act.put, sq1, sq2, sq3]
  refine tkq (i := 6) (d := 9) (v := (.pointer (some ⟨R, 1, none⟩))) rfl rfl (Or.inl ⟨by kernel_rfl, fun w hSw => ?_⟩) (by assumption) ?_
  ·(try dsimp only at hSw); go_simp <;> (try rfl)
  simp only [Act.put, sq1, sq2, sq3]
  refine tkq (i := 7) (d := 10) (v := (.bool true)) rfl rfl (yields_load_at (by kernel_rfl) 4 (.tmp 9) rfl (.pointer (some ⟨R, 1, none⟩)) (by simp [Act.eval]) (.bool true) (fun W hW => load_one' (Try.agg_bool20 W) (Blk.cellAt (i := 1) (HB.out.through hW) (by rw [slC, HBh.out]; rfl)))) (by assumption) ?_
  simp only [Act.put, sq1, sq2, sq3]
  refine tkq (i := 8) (d := 11) (v := (.bool true)) rfl rfl (Or.inl ⟨by kernel_rfl, fun w hSw => ?_⟩) (by assumption) ?_
  ·(try dsimp only at hSw); go_simp <;> (try rfl)
  simp only [Act.put, sq1, sq2, sq3]
  refine tkq (i := 9) (d := 12) (v := (.bool true)) rfl rfl (Or.inl ⟨by kernel_rfl, fun w hSw => ?_⟩) (by assumption) ?_
  ·(try dsimp only at hSw); go_simp <;> (try rfl)
  simp only [Act.put, sq1, sq2, sq3]
  refine tkq (i := 10) (d := 13) (v := (.pointer (some ⟨R, 0, none⟩))) rfl rfl (Or.inl ⟨by kernel_rfl, fun w hSw => ?_⟩) (by assumption) ?_
  ·(try dsimp only at hSw); go_simp <;> (try rfl)
  simp only [Act.put, sq1, sq2, sq3]
  refine tkq (i := 11) (d := 14) (v := (.pointer (some ⟨R, 0, none⟩))) rfl rfl (Or.inl ⟨by kernel_rfl, fun w hSw => ?_⟩) (by assumption) ?_
  ·(try dsimp only at hSw); go_simp <;> (try rfl)
  simp only [Act.put, sq1, sq2, sq3]
  refine tkq (i := 12) (d := 15) (v := (.pointer (some ⟨R, 36, none⟩))) rfl rfl (Or.inl ⟨by kernel_rfl, fun w hSw => ?_⟩) (by assumption) ?_
  ·(try dsimp only at hSw); go_simp <;> (try rfl)
  simp only [Act.put, sq1, sq2, sq3]
  refine tkq (i := 13) (d := 16) (v := (.pointer (some ⟨gm, 0, none⟩))) rfl rfl (yields_load_at (by kernel_rfl) 120 (.tmp 15) rfl (.pointer (some ⟨R, 36, none⟩)) (by simp [Act.eval]) (.pointer (some ⟨gm, 0, none⟩)) (fun W hW => load_one' (Try.agg_ptl W) (Blk.cellAt (i := 36) (HB.out.through hW) (slC_c _ _ _ _ HSd.out)))) (by assumption) ?_
  simp only [Act.put, sq1, sq2, sq3]
  refine tkq (i := 14) (d := 17) (v := (.pointer (some ⟨R, 0, none⟩))) rfl rfl (Or.inl ⟨by kernel_rfl, fun w hSw => ?_⟩) (by assumption) ?_
  ·(try dsimp only at hSw); go_simp <;> (try rfl)
  simp only [Act.put, sq1, sq2, sq3]
  refine tkq (i := 15) (d := 18) (v := (.pointer (some ⟨R, 0, none⟩))) rfl rfl (Or.inl ⟨by kernel_rfl, fun w hSw => ?_⟩) (by assumption) ?_
  ·(try dsimp only at hSw); go_simp <;> (try rfl)
  simp only [Act.put, sq1, sq2, sq3]
  refine tkq (i := 16) (d := 19) (v := (.pointer (some ⟨R, 2, none⟩))) rfl rfl (Or.inl ⟨by kernel_rfl, fun w hSw => ?_⟩) (by assumption) ?_
  ·(try dsimp only at hSw); go_simp <;> (try rfl)
  simp only [Act.put, sq1, sq2, sq3]
  refine tkq (i := 17) (d := 20) (v := (.agg (vs s.dg).toArray)) rfl rfl (yieldsIf_load_mid (by kernel_rfl) 27 (.tmp 19) rfl R 2 (by simp [Act.eval]) (vs s.dg) _ (fun W hW => slC_dgP _ _ _ _ _ _ (HB.out.through hW)) Try.underlying27 rfl (by rw [HVs.out]; kernel_rfl)) (by assumption) ?_
  simp only [Act.put, sq1, sq2, sq3]
  refine tkq (i := 19) (d := 22) (v := (.pointer (some ⟨R, 0, none⟩))) rfl rfl (Or.inl ⟨by kernel_rfl, fun w hSw => ?_⟩) (by assumption) ?_
  ·(try dsimp only at hSw); go_simp <;> (try rfl)
  simp only [Act.put, sq1, sq2, sq3]
  refine tkq (i := 20) (d := 23) (v := (.pointer (some ⟨R, 0, none⟩))) rfl rfl (Or.inl ⟨by kernel_rfl, fun w hSw => ?_⟩) (by assumption) ?_
  ·(try dsimp only at hSw); go_simp <;> (try rfl)
  simp only [Act.put, sq1, sq2, sq3]
  refine tkq (i := 21) (d := 24) (v := (.pointer (some ⟨R, 0, none⟩))) rfl rfl (Or.inl ⟨by kernel_rfl, fun w hSw => ?_⟩) (by assumption) ?_
  ·(try dsimp only at hSw); go_simp <;> (try rfl)
  simp only [Act.put, sq1, sq2, sq3]
  refine tkq (i := 22) (d := 25) (v := (.int .i64 s.n)) rfl rfl (yields_load_at (by kernel_rfl) 3 (.tmp 24) rfl (.pointer (some ⟨R, 0, none⟩)) (by simp [Act.eval]) (.int .i64 s.n) (fun W hW => load_one' (Try.agg_i21 W) (Blk.cellAt (i := 0) (HB.out.through hW) (rfl)))) (by assumption) ?_
  simp only [Act.put, sq1, sq2, sq3]
  refine wpAnyH_ready (rs := [18]) (by kernel_rfl) (by simp) ?_
  refine AllReadyH.cons rfl (fun K hK => ?_) AllReadyH.nil
  go_simp
  refine (cnt_D s.dg (TlR.keep (W' := w.drew) Hcm.out (fun _ _ => rfl)) HSd.out).mono ?_
  rintro e w3 ⟨rfl, hb9⟩; have HX3 : Hid (Below w.heap.size w w3) := Lib.hid ((Below.refl _ w).drew.trans hb9); clear hb9; rw [HCn.out]
  go_wp2_with fail
  refine hK.out _ _ HX3.out (fun hHeld1 => ?_)
  clear hHeld hK K
  have hHeld := hHeld1
  clear hHeld1
  refine wpAnyH_ready (rs := [23]) (by kernel_rfl) (by simp) ?_
  refine AllReadyH.cons rfl (fun K hK => ?_) AllReadyH.nil
  go_simp
  refine (quorum_pg s.n HN1.out HN7.out _).mono ?_
  rintro e w4 ⟨rfl, hw9⟩; subst hw9; rw [HFl.out]
  go_wp2_with fail
  refine hK.out _ _ hHeld (fun hHeld1 => ?_)
  clear hHeld hK K
  have hHeld := hHeld1
  clear hHeld1
  refine tkq (i := 24) (d := 27) (v := (.bool (decide ((2 * f + 1 : Int) ≤ (q : Int))))) rfl rfl (Or.inl ⟨by kernel_rfl, fun w hSw => ?_⟩) (by assumption) ?_
  ·(try dsimp only at hSw); go_simp <;> (try rfl)
  simp only [Act.put, sq1, sq2, sq3]
  refine tkq (i := 25) (d := 28) (v := (.bool (decide ((2 * f + 1 : Int) ≤ (q : Int))))) rfl rfl (Or.inl ⟨by kernel_rfl, fun w hSw => ?_⟩) (by assumption) ?_
  ·(try dsimp only at hSw); go_simp <;> (try rfl)
  simp only [Act.put, sq1, sq2, sq3]
  refine tkq (i := 26) (d := 2) (v := (.bool (decide ((2 * f + 1 : Int) ≤ (q : Int))))) rfl rfl (Or.inl ⟨by kernel_rfl, fun w hSw => ?_⟩) (by assumption) ?_
  ·(try dsimp only at hSw); go_simp <;> (try rfl)
  simp only [Act.put, sq1, sq2, sq3]
  refine wpAnyH_done (by kernel_rfl) ?_ _
  go_wp2
  go_ret
  exact ⟨by first | rfl | simp, HX3.out⟩
set_option maxHeartbeats 16000000 in
set_option maxRecDepth 100000 in
theorem prepared_sw {w : World} {R gp pv pc gm mv mc : Nat} {bv : Value} {s : Slt} (p : Int) (h : SwR w R gp pv pc gm mv mc bv s) (hl : SlLow s) :
  Calls Try.prog 43 #[(.pointer (some ⟨R, 0, none⟩)), .int .i64 p] w fun e w' => e = .returned (.bool (prepB s p)) ∧ Below w.heap.size w w' := by
 have hz : ∀ W, (zeroValue 27).run Try.prog W = .ok (.agg (vs dgZ).toArray) W := fun W => Try.zero_d W
 have HZl : Hid ((vs dgZ).length = 32) := Lib.hid (D_len _ D_okz)
 have HSd := Lib.hid h.dg
 have HVs : Hid ((vs s.dg).length = 32) := Lib.hid (D_len _ h.dg)
 have HN1 := Lib.hid hl.n1
 have HN7 := Lib.hid hl.n7
 have HB := Lib.hid h.box
 have Hpr := Lib.hid h.pr
 have Hcm := Lib.hid h.cm
 obtain ⟨q, hq⟩ : ∃ q, cntM s.dg s.pr = q := ⟨_, rfl⟩
 have hq9 : q ≤ 1000 := by rw [← hq]; exact Nat.le_trans (cnt_le _ _) hl.pr
 obtain ⟨f, hf⟩ : ∃ f, fltN s.n = f := ⟨_, rfl⟩
 have hfb := fltN_bd s.n (by have := hl.n7; omega)
 rw [hf] at hfb
 have hw1 : IntKind.i64.wrap (2 * f) = 2 * f := IntWalk.i64_in _ (by omega)
 have hw2 : IntKind.i64.wrap ((q : Int) - 1) = (q : Int) - 1 := IntWalk.i64_in _ (by omega)
 have HP : Hid (prepB s p = (s.has && decide (2 * f ≤ (q : Int) - (if getM p s.pr = some s.dg then 1 else 0)))) := Lib.hid (by
  unfold prepB
  rw [cntP_eq p s.dg h.pr.nd, hq, hf])
 have HCn := Lib.hid hq
 have HFl := Lib.hid hf
 have HOk := Lib.hid h.pr.vm.2
 have kh := h.box.cellAt (i := 1) rfl
 clear h hl hq hf hq9 hfb
 cases hh : s.has with
 | false =>
  rw [hh] at kh
  rw [show prepB s p = false by rw [HP.out, hh]; rfl]
  clear hh
  go_enter Try.func43, Try.ntmps43
  go_wp2_with (first
   | (go_at_call 69; (with_reducible refine (isnone_sl R s bv _ _ _ HB.out HN1.out).mono ?_); rintro e w9 ⟨rfl, hw9⟩; have hw8 := hw9.symm; clear hw9; subst hw8))
  go_ret
  exact ⟨rfl, Below.refl _ w⟩
 | true =>
 rw [hh] at kh
 cases hgm : getM p s.pr with
 | none =>
  have HGm := Lib.hid hgm
  have HR : Hid (prepB s p = decide (2 * f ≤ (q : Int))) := Lib.hid (by rw [HP.out, hgm, hh]; simp)
  clear hgm hh
  go_enter Try.func43, Try.ntmps43
  go_upto_region 3 with (go_at_call 69; (with_reducible refine (isnone_sl R s bv _ _ _ HB.out HN1.out).mono ?_); rintro e w9 ⟨rfl, hw9⟩; have hw8 := hw9.symm; clear hw9; subst hw8)
  refine wp_region_held_drew (S := fun W => Below w.heap.size w W) (by kernel_rfl) (Below.refl _ w).drew (fun hHeld => ?_)
  change wpAnyH _ _ _ _ _ _ #[false, false, false, false, false, false, false, false, false, false] _ _
  refine tkq (i := 0) (d := 17) (v := (.pointer (some ⟨R, 0, none⟩))) rfl rfl (Or.inl ⟨by kernel_rfl, fun w hSw => ?_⟩) (by assumption) ?_
  ·(try dsimp only at hSw); go_simp <;> (try rfl)
  simp only [Act.put, sq1, sq2, sq3]
  refine tkq (i := 1) (d := 18) (v := (.pointer (some ⟨R, 0, none⟩))) rfl rfl (Or.inl ⟨by kernel_rfl, fun w hSw => ?_⟩) (by assumption) ?_
  ·(try dsimp only at hSw); go_simp <;> (try rfl)
  simp only [Act.put, sq1, sq2, sq3]
  refine tkq (i := 2) (d := 19) (v := (.pointer (some ⟨R, 35, none⟩))) rfl rfl (Or.inl ⟨by kernel_rfl, fun w hSw => ?_⟩) (by assumption) ?_
  ·(try dsimp only at hSw); go_simp <;> (try rfl)
  simp only [Act.put, sq1, sq2, sq3]
  refine tkq (i := 3) (d := 20) (v := (.pointer (some ⟨gp, 0, none⟩))) rfl rfl (yields_load_at (by kernel_rfl) 120 (.tmp 19) rfl (.pointer (some ⟨R, 35, none⟩)) (by simp [Act.eval]) (.pointer (some ⟨gp, 0, none⟩)) (fun W hW => load_one' (Try.agg_ptl W) (Blk.cellAt (i := 35) (HB.out.through hW) (slC_p _ _ _ _ HSd.out)))) (by assumption) ?_
  simp only [Act.put, sq1, sq2, sq3]
  refine tkq (i := 4) (d := 21) (v := (.pointer (some ⟨R, 0, none⟩))) rfl rfl (Or.inl ⟨by kernel_rfl, fun w hSw => ?_⟩) (by assumption) ?_
  ·(try dsimp only at hSw); go_simp <;> (try rfl)
  simp only [Act.put, sq1, sq2, sq3]
  refine tkq (i := 5) (d := 22) (v := (.pointer (some ⟨R, 0, none⟩))) rfl rfl (Or.inl ⟨by kernel_rfl, fun w hSw => ?_⟩) (by assumption) ?_
  ·(try dsimp only at hSw); go_simp <;> (try rfl)
  simp only [Act.put, sq1, sq2, sq3]
  refine tkq (i := 6) (d := 23) (v := (.pointer (some ⟨R, 2, none⟩))) rfl rfl (Or.inl ⟨by kernel_rfl, fun w hSw => ?_⟩) (by assumption) ?_
  ·(try dsimp only at hSw); go_simp <;> (try rfl)
  simp only [Act.put, sq1, sq2, sq3]
  refine tkq (i := 7) (d := 24) (v := (.agg (vs s.dg).toArray)) rfl rfl (yieldsIf_load_mid (by kernel_rfl) 27 (.tmp 23) rfl R 2 (by simp [Act.eval]) (vs s.dg) _ (fun W hW => slC_dgP _ _ _ _ _ _ (HB.out.through hW)) Try.underlying27 rfl (by rw [HVs.out]; kernel_rfl)) (by assumption) ?_
  simp only [Act.put, sq1, sq2, sq3]
  refine wpAnyH_ready (rs := [8]) (by kernel_rfl) (by simp) ?_
  refine AllReadyH.cons rfl (fun K hK => ?_) AllReadyH.nil
  go_simp
  refine (cnt_D s.dg (TlR.keep (W' := w.drew) Hpr.out (fun _ _ => rfl)) HSd.out).mono ?_
  rintro e w3 ⟨rfl, hb9⟩; have HX3 : Hid (Below w.heap.size w w3) := Lib.hid ((Below.refl _ w).drew.trans hb9); clear hb9; rw [HCn.out]
  go_wp2_with fail
  refine hK.out _ _ HX3.out (fun hHeld1 => ?_)
  clear hHeld hK K
  have hHeld := hHeld1
  clear hHeld1
  refine tkq (i := 9) (d := 5) (v := (.int .i64 (q : Int))) rfl rfl (Or.inl ⟨by kernel_rfl, fun w hSw => ?_⟩) (by assumption) ?_
  ·(try dsimp only at hSw); go_simp <;> (try rfl)
  simp only [Act.put, sq1, sq2, sq3]
  refine wpAnyH_done (by kernel_rfl) ?_ _
  have k35 : w3.cell? ⟨R, 35, none⟩ = some (.pointer (some ⟨gp, 0, none⟩)) := (HB.out.through HX3.out).cellAt (i := 35) (slC_p _ _ _ _ HSd.out)
  have Hpr3 : Hid (TlR 151 encD okD w3 gp pv pc s.pr) := Lib.hid (Hpr.out.through HX3.out)
  go_upto_region 5 with (first | (go_at_call 74; (with_reducible refine (of_D p Hpr3.out).mono ?_); rintro e w4 ⟨rfl, hb9⟩; have HX4 : Hid (Below w.heap.size w w4) := Lib.hid (below_step HX3.out hb9); clear hb9; rw [HGm.out]; (try simp only [Option.getD_none, Option.isSome_none])) | (refine wpList_store_blk rfl 27 (.tmp 6) (.tmp 33) rfl w4.heap.size (vs dgZ) rfl rfl 27 (vs dgZ) (Blk.fresh rfl rfl) (by rw [HZl.out]; kernel_rfl) (HZl.out.trans HZl.out.symm) (D_one dgZ) ?_; intro w5 hb9 hg9; have HB9 := Lib.hid hb9; have HX5 : Hid (Below w.heap.size w w5) := Lib.hid (below_step HX4.out (below_new hg9)); clear hb9 hg9))
  refine wp_region_held_drew (S := fun W => Below w5.heap.size w5 W) (by kernel_rfl) (Below.refl _ w5).drew (fun hHeld => ?_)
  change wpAnyH _ _ _ _ _ _ #[false, false, false, false, false, false, false, false, false] _ _
  refine tkq (i := 0) (d := 35) (v := (.bool false)) rfl rfl (Or.inl ⟨by kernel_rfl, fun w hSw => ?_⟩) (by assumption) ?_
  ·(try dsimp only at hSw); go_simp <;> (try rfl)
  simp only [Act.put, sq1, sq2, sq3]
  refine tkq (i := 1) (d := 36) (v := (.bool false)) rfl rfl (Or.inl ⟨by kernel_rfl, fun w hSw => ?_⟩) (by assumption) ?_
  ·(try dsimp only at hSw); go_simp <;> (try rfl)
  simp only [Act.put, sq1, sq2, sq3]
  refine tkv (i := 2) (d := 37) rfl rfl (by assumption) ?_
  simp only [Act.put, sq1, sq2, sq3]
  refine tkv (i := 3) (d := 38) rfl rfl (by assumption) ?_
  simp only [Act.put, sq1, sq2, sq3]
  refine tkv (i := 4) (d := 39) rfl rfl (by assumption) ?_
  simp only [Act.put, sq1, sq2, sq3]
  refine tkv (i := 5) (d := 40) rfl rfl (by assumption) ?_
  simp only [Act.put, sq1, sq2, sq3]
  refine tkv (i := 6) (d := 41) rfl rfl (by assumption) ?_
  simp only [Act.put, sq1, sq2, sq3]
  refine tkv (i := 7) (d := 42) rfl rfl (by assumption) ?_
  simp only [Act.put, sq1, sq2, sq3]
  refine tkq (i := 8) (d := 43) (v := (.bool false)) rfl rfl (Or.inl ⟨by kernel_rfl, fun w hSw => ?_⟩) (by assumption) ?_
  ·(try dsimp only at hSw); go_simp <;> (try rfl)
  simp only [Act.put, sq1, sq2, sq3]
  refine wpAnyH_done (by kernel_rfl) ?_ _
  have k0 : w5.drew.cell? ⟨R, 0, none⟩ = some (.int .i64 s.n) := (HB.out.through HX5.out).drew.cellAt rfl
  generalize hwd : w5.drew = wd at *
  have HX6 : Hid (Below w.heap.size w wd) := Lib.hid (by rw [← hwd]; exact below_step HX5.out (Below.refl _ w5).drew)
  clear hwd
  go_wp2_with (first
      | (go_at_call 75; (with_reducible refine (faults_pg s.n HN1.out HN7.out _).mono ?_); rintro e w9 ⟨rfl, hw9⟩; have hw8 := hw9.symm; clear hw9; subst hw8; rw [HFl.out]))
  go_ret
  exact ⟨by rw [HR.out]; first | rfl | simp, HX6.out⟩
 | some o =>
 have HGm := Lib.hid hgm
 have hol : o.length = 32 := HOk.out _ (get_memM hgm)
 have HOl : Hid ((vs o).length = 32) := Lib.hid (D_len o hol)
 have hxe := fun W => eq_dgy o s.dg hol HSd.out W
 by_cases hod : o = s.dg
 ·have HR : Hid (prepB s p = decide (2 * f ≤ (q : Int) - 1)) := Lib.hid (by rw [HP.out, hgm, hh, hod]; simp)
  have e3 : (o == s.dg) = true := by simpa using hod
  rw [e3] at hxe
  clear hgm hh hod e3 hol
  go_enter Try.func43, Try.ntmps43
  go_upto_region 3 with (go_at_call 69; (with_reducible refine (isnone_sl R s bv _ _ _ HB.out HN1.out).mono ?_); rintro e w9 ⟨rfl, hw9⟩; have hw8 := hw9.symm; clear hw9; subst hw8)
  refine wp_region_held_drew (S := fun W => Below w.heap.size w W) (by kernel_rfl) (Below.refl _ w).drew (fun hHeld => ?_)
  change wpAnyH _ _ _ _ _ _ #[false, false, false, false, false, false, false, false, false, false] _ _
  refine tkq (i := 0) (d := 17) (v := (.pointer (some ⟨R, 0, none⟩))) rfl rfl (Or.inl ⟨by kernel_rfl, fun w hSw => ?_⟩) (by assumption) ?_
  ·(try dsimp only at hSw); go_simp <;> (try rfl)
  simp only [Act.put, sq1, sq2, sq3]
  refine tkq (i := 1) (d := 18) (v := (.pointer (some ⟨R, 0, none⟩))) rfl rfl (Or.inl ⟨by kernel_rfl, fun w hSw => ?_⟩) (by assumption) ?_
  ·(try dsimp only at hSw); go_simp <;> (try rfl)
  simp only [Act.put, sq1, sq2, sq3]
  refine tkq (i := 2) (d := 19) (v := (.pointer (some ⟨R, 35, none⟩))) rfl rfl (Or.inl ⟨by kernel_rfl, fun w hSw => ?_⟩) (by assumption) ?_
  ·(try dsimp only at hSw); go_simp <;> (try rfl)
  simp only [Act.put, sq1, sq2, sq3]
  refine tkq (i := 3) (d := 20) (v := (.pointer (some ⟨gp, 0, none⟩))) rfl rfl (yields_load_at (by kernel_rfl) 120 (.tmp 19) rfl (.pointer (some ⟨R, 35, none⟩)) (by simp [Act.eval]) (.pointer (some ⟨gp, 0, none⟩)) (fun W hW => load_one' (Try.agg_ptl W) (Blk.cellAt (i := 35) (HB.out.through hW) (slC_p _ _ _ _ HSd.out)))) (by assumption) ?_
  simp only [Act.put, sq1, sq2, sq3]
  refine tkq (i := 4) (d := 21) (v := (.pointer (some ⟨R, 0, none⟩))) rfl rfl (Or.inl ⟨by kernel_rfl, fun w hSw => ?_⟩) (by assumption) ?_
  ·(try dsimp only at hSw); go_simp <;> (try rfl)
  simp only [Act.put, sq1, sq2, sq3]
  refine tkq (i := 5) (d := 22) (v := (.pointer (some ⟨R, 0, none⟩))) rfl rfl (Or.inl ⟨by kernel_rfl, fun w hSw => ?_⟩) (by assumption) ?_
  ·(try dsimp only at hSw); go_simp <;> (try rfl)
  simp only [Act.put, sq1, sq2, sq3]
  refine tkq (i := 6) (d := 23) (v := (.pointer (some ⟨R, 2, none⟩))) rfl rfl (Or.inl ⟨by kernel_rfl, fun w hSw => ?_⟩) (by assumption) ?_
  ·(try dsimp only at hSw); go_simp <;> (try rfl)
  simp only [Act.put, sq1, sq2, sq3]
  refine tkq (i := 7) (d := 24) (v := (.agg (vs s.dg).toArray)) rfl rfl (yieldsIf_load_mid (by kernel_rfl) 27 (.tmp 23) rfl R 2 (by simp [Act.eval]) (vs s.dg) _ (fun W hW => slC_dgP _ _ _ _ _ _ (HB.out.through hW)) Try.underlying27 rfl (by rw [HVs.out]; kernel_rfl)) (by assumption) ?_
  simp only [Act.put, sq1, sq2, sq3]
  refine wpAnyH_ready (rs := [8]) (by kernel_rfl) (by simp) ?_
  refine AllReadyH.cons rfl (fun K hK => ?_) AllReadyH.nil
  go_simp
  refine (cnt_D s.dg (TlR.keep (W' := w.drew) Hpr.out (fun _ _ => rfl)) HSd.out).mono ?_
  rintro e w3 ⟨rfl, hb9⟩; have HX3 : Hid (Below w.heap.size w w3) := Lib.hid ((Below.refl _ w).drew.trans hb9); clear hb9; rw [HCn.out]
  go_wp2_with fail
  refine hK.out _ _ HX3.out (fun hHeld1 => ?_)
  clear hHeld hK K
  have hHeld := hHeld1
  clear hHeld1
  refine tkq (i := 9) (d := 5) (v := (.int .i64 (q : Int))) rfl rfl (Or.inl ⟨by kernel_rfl, fun w hSw => ?_⟩) (by assumption) ?_
  ·(try dsimp only at hSw); go_simp <;> (try rfl)
  simp only [Act.put, sq1, sq2, sq3]
  refine wpAnyH_done (by kernel_rfl) ?_ _
  have k35 : w3.cell? ⟨R, 35, none⟩ = some (.pointer (some ⟨gp, 0, none⟩)) := (HB.out.through HX3.out).cellAt (i := 35) (slC_p _ _ _ _ HSd.out)
  have Hpr3 : Hid (TlR 151 encD okD w3 gp pv pc s.pr) := Lib.hid (Hpr.out.through HX3.out)
  go_upto_region 5 with (first | (go_at_call 74; (with_reducible refine (of_D p Hpr3.out).mono ?_); rintro e w4 ⟨rfl, hb9⟩; have HX4 : Hid (Below w.heap.size w w4) := Lib.hid (below_step HX3.out hb9); clear hb9; rw [HGm.out]; (try simp only [Option.getD_some, Option.isSome_some])) | (refine wpList_store_blk rfl 27 (.tmp 6) (.tmp 33) rfl w4.heap.size (vs o) rfl rfl 27 (vs dgZ) (Blk.fresh rfl rfl) (by rw [HOl.out]; kernel_rfl) (HZl.out.trans HOl.out.symm) (D_one o) ?_; intro w5 hb9 hg9; have HB9 := Lib.hid hb9; have HX5 : Hid (Below w.heap.size w w5) := Lib.hid (below_step HX4.out (below_new hg9)); clear hb9 hg9))
  refine wp_region_held_drew (S := fun W => Below w5.heap.size w5 W) (by kernel_rfl) (Below.refl _ w5).drew (fun hHeld => ?_)
  change wpAnyH _ _ _ _ _ _ #[false, false, false, false, false, false, false, false, false] _ _
  refine tkq (i := 0) (d := 35) (v := (.bool true)) rfl rfl (Or.inl ⟨by kernel_rfl, fun w hSw => ?_⟩) (by assumption) ?_
  ·(try dsimp only at hSw); go_simp <;> (try rfl)
  simp only [Act.put, sq1, sq2, sq3]
  refine tkq (i := 1) (d := 36) (v := (.bool true)) rfl rfl (Or.inl ⟨by kernel_rfl, fun w hSw => ?_⟩) (by assumption) ?_
  ·(try dsimp only at hSw); go_simp <;> (try rfl)
  simp only [Act.put, sq1, sq2, sq3]
  refine tkq (i := 2) (d := 37) (v := (.agg (vs o).toArray)) rfl rfl (yieldsIf_load_mid (by kernel_rfl) 27 (.tmp 6) rfl w4.heap.size 0 (by simp [Act.eval]) (vs o) _ (fun W hW => Blk.range (pre := []) (post := []) (by simpa using (HB9.out.through hW))) Try.underlying27 rfl (by rw [HOl.out]; kernel_rfl)) (by assumption) ?_
  simp only [Act.put, sq1, sq2, sq3]
  refine tkq (i := 3) (d := 38) (v := (.pointer (some ⟨R, 0, none⟩))) rfl rfl (Or.inl ⟨by kernel_rfl, fun w hSw => ?_⟩) (by assumption) ?_
  ·(try dsimp only at hSw); go_simp <;> (try rfl)
  simp only [Act.put, sq1, sq2, sq3]
  refine tkq (i := 4) (d := 39) (v := (.pointer (some ⟨R, 0, none⟩))) rfl rfl (Or.inl ⟨by kernel_rfl, fun w hSw => ?_⟩) (by assumption) ?_
  ·(try dsimp only at hSw); go_simp <;> (try rfl)
  simp only [Act.put, sq1, sq2, sq3]
  refine tkq (i := 5) (d := 40) (v := (.pointer (some ⟨R, 2, none⟩))) rfl rfl (Or.inl ⟨by kernel_rfl, fun w hSw => ?_⟩) (by assumption) ?_
  ·(try dsimp only at hSw); go_simp <;> (try rfl)
  simp only [Act.put, sq1, sq2, sq3]
  refine tkq (i := 6) (d := 41) (v := (.agg (vs s.dg).toArray)) rfl rfl (yieldsIf_load_mid (by kernel_rfl) 27 (.tmp 40) rfl R 2 (by simp [Act.eval]) (vs s.dg) _ (fun W hW => slC_dgP _ _ _ _ _ _ ((HB.out.through HX5.out).through hW)) Try.underlying27 rfl (by rw [HVs.out]; kernel_rfl)) (by assumption) ?_
  simp only [Act.put, sq1, sq2, sq3]
  refine tkq (i := 7) (d := 42) (v := (.bool true)) rfl rfl (Or.inl ⟨by kernel_rfl, fun w hSw => ?_⟩) (by assumption) ?_
  ·(try dsimp only at hSw); go_simp <;> (try rfl)
  simp only [Act.put, sq1, sq2, sq3]
  refine tkq (i := 8) (d := 43) (v := (.bool true)) rfl rfl (Or.inl ⟨by kernel_rfl, fun w hSw => ?_⟩) (by assumption) ?_
  ·(try dsimp only at hSw); go_simp <;> (try rfl)
  simp only [Act.put, sq1, sq2, sq3]
  refine wpAnyH_done (by kernel_rfl) ?_ _
  have k0 : w5.drew.cell? ⟨R, 0, none⟩ = some (.int .i64 s.n) := (HB.out.through HX5.out).drew.cellAt rfl
  generalize hwd : w5.drew = wd at *
  have HX6 : Hid (Below w.heap.size w wd) := Lib.hid (by rw [← hwd]; exact below_step HX5.out (Below.refl _ w5).drew)
  clear hwd
  go_wp2_with (first
      | (go_at_call 75; (with_reducible refine (faults_pg s.n HN1.out HN7.out _).mono ?_); rintro e w9 ⟨rfl, hw9⟩; have hw8 := hw9.symm; clear hw9; subst hw8; rw [HFl.out]))
  go_ret
  exact ⟨by rw [HR.out]; first | rfl | simp, HX6.out⟩
 ·have HR : Hid (prepB s p = decide (2 * f ≤ (q : Int))) := Lib.hid (by rw [HP.out, hgm, hh, if_neg (fun e => hod (Option.some.inj e))]; simp)
  have e3 : (o == s.dg) = false := by simpa using hod
  rw [e3] at hxe
  clear hgm hh hod e3 hol
  go_enter Try.func43, Try.ntmps43
  go_upto_region 3 with (go_at_call 69; (with_reducible refine (isnone_sl R s bv _ _ _ HB.out HN1.out).mono ?_); rintro e w9 ⟨rfl, hw9⟩; have hw8 := hw9.symm; clear hw9; subst hw8)
  refine wp_region_held_drew (S := fun W => Below w.heap.size w W) (by kernel_rfl) (Below.refl _ w).drew (fun hHeld => ?_)
  change wpAnyH _ _ _ _ _ _ #[false, false, false, false, false, false, false, false, false, false] _ _
  refine tkq (i := 0) (d := 17) (v := (.pointer (some ⟨R, 0, none⟩))) rfl rfl (Or.inl ⟨by kernel_rfl, fun w hSw => ?_⟩) (by assumption) ?_
  ·(try dsimp only at hSw); go_simp <;> (try rfl)
  simp only [Act.put, sq1, sq2, sq3]
  refine tkq (i := 1) (d := 18) (v := (.pointer (some ⟨R, 0, none⟩))) rfl rfl (Or.inl ⟨by kernel_rfl, fun w hSw => ?_⟩) (by assumption) ?_
  ·(try dsimp only at hSw); go_simp <;> (try rfl)
  simp only [Act.put, sq1, sq2, sq3]
  refine tkq (i := 2) (d := 19) (v := (.pointer (some ⟨R, 35, none⟩))) rfl rfl (Or.inl ⟨by kernel_rfl, fun w hSw => ?_⟩) (by assumption) ?_
  ·(try dsimp only at hSw); go_simp <;> (try rfl)
  simp only [Act.put, sq1, sq2, sq3]
  refine tkq (i := 3) (d := 20) (v := (.pointer (some ⟨gp, 0, none⟩))) rfl rfl (yields_load_at (by kernel_rfl) 120 (.tmp 19) rfl (.pointer (some ⟨R, 35, none⟩)) (by simp [Act.eval]) (.pointer (some ⟨gp, 0, none⟩)) (fun W hW => load_one' (Try.agg_ptl W) (Blk.cellAt (i := 35) (HB.out.through hW) (slC_p _ _ _ _ HSd.out)))) (by assumption) ?_
  simp only [Act.put, sq1, sq2, sq3]
  refine tkq (i := 4) (d := 21) (v := (.pointer (some ⟨R, 0, none⟩))) rfl rfl (Or.inl ⟨by kernel_rfl, fun w hSw => ?_⟩) (by assumption) ?_
  ·(try dsimp only at hSw); go_simp <;> (try rfl)
  simp only [Act.put, sq1, sq2, sq3]
  refine tkq (i := 5) (d := 22) (v := (.pointer (some ⟨R, 0, none⟩))) rfl rfl (Or.inl ⟨by kernel_rfl, fun w hSw => ?_⟩) (by assumption) ?_
  ·(try dsimp only at hSw); go_simp <;> (try rfl)
  simp only [Act.put, sq1, sq2, sq3]
  refine tkq (i := 6) (d := 23) (v := (.pointer (some ⟨R, 2, none⟩))) rfl rfl (Or.inl ⟨by kernel_rfl, fun w hSw => ?_⟩) (by assumption) ?_
  ·(try dsimp only at hSw); go_simp <;> (try rfl)
  simp only [Act.put, sq1, sq2, sq3]
  refine tkq (i := 7) (d := 24) (v := (.agg (vs s.dg).toArray)) rfl rfl (yieldsIf_load_mid (by kernel_rfl) 27 (.tmp 23) rfl R 2 (by simp [Act.eval]) (vs s.dg) _ (fun W hW => slC_dgP _ _ _ _ _ _ (HB.out.through hW)) Try.underlying27 rfl (by rw [HVs.out]; kernel_rfl)) (by assumption) ?_
  simp only [Act.put, sq1, sq2, sq3]
  refine wpAnyH_ready (rs := [8]) (by kernel_rfl) (by simp) ?_
  refine AllReadyH.cons rfl (fun K hK => ?_) AllReadyH.nil
  go_simp
  refine (cnt_D s.dg (TlR.keep (W' := w.drew) Hpr.out (fun _ _ => rfl)) HSd.out).mono ?_
  rintro e w3 ⟨rfl, hb9⟩; have HX3 : Hid (Below w.heap.size w w3) := Lib.hid ((Below.refl _ w).drew.trans hb9); clear hb9; rw [HCn.out]
  go_wp2_with fail
  refine hK.out _ _ HX3.out (fun hHeld1 => ?_)
  clear hHeld hK K
  have hHeld := hHeld1
  clear hHeld1
  refine tkq (i := 9) (d := 5) (v := (.int .i64 (q : Int))) rfl rfl (Or.inl ⟨by kernel_rfl, fun w hSw => ?_⟩) (by assumption) ?_
  ·(try dsimp only at hSw); go_simp <;> (try rfl)
  simp only [Act.put, sq1, sq2, sq3]
  refine wpAnyH_done (by kernel_rfl) ?_ _
  have k35 : w3.cell? ⟨R, 35, none⟩ = some (.pointer (some ⟨gp, 0, none⟩)) := (HB.out.through HX3.out).cellAt (i := 35) (slC_p _ _ _ _ HSd.out)
  have Hpr3 : Hid (TlR 151 encD okD w3 gp pv pc s.pr) := Lib.hid (Hpr.out.through HX3.out)
  go_upto_region 5 with (first | (go_at_call 74; (with_reducible refine (of_D p Hpr3.out).mono ?_); rintro e w4 ⟨rfl, hb9⟩; have HX4 : Hid (Below w.heap.size w w4) := Lib.hid (below_step HX3.out hb9); clear hb9; rw [HGm.out]; (try simp only [Option.getD_some, Option.isSome_some])) | (refine wpList_store_blk rfl 27 (.tmp 6) (.tmp 33) rfl w4.heap.size (vs o) rfl rfl 27 (vs dgZ) (Blk.fresh rfl rfl) (by rw [HOl.out]; kernel_rfl) (HZl.out.trans HOl.out.symm) (D_one o) ?_; intro w5 hb9 hg9; have HB9 := Lib.hid hb9; have HX5 : Hid (Below w.heap.size w w5) := Lib.hid (below_step HX4.out (below_new hg9)); clear hb9 hg9))
  refine wp_region_held_drew (S := fun W => Below w5.heap.size w5 W) (by kernel_rfl) (Below.refl _ w5).drew (fun hHeld => ?_)
  change wpAnyH _ _ _ _ _ _ #[false, false, false, false, false, false, false, false, false] _ _
  refine tkq (i := 0) (d := 35) (v := (.bool true)) rfl rfl (Or.inl ⟨by kernel_rfl, fun w hSw => ?_⟩) (by assumption) ?_
  ·(try dsimp only at hSw); go_simp <;> (try rfl)
  simp only [Act.put, sq1, sq2, sq3]
  refine tkq (i := 1) (d := 36) (v := (.bool true)) rfl rfl (Or.inl ⟨by kernel_rfl, fun w hSw => ?_⟩) (by assumption) ?_
  ·(try dsimp only at hSw); go_simp <;> (try rfl)
  simp only [Act.put, sq1, sq2, sq3]
  refine tkq (i := 2) (d := 37) (v := (.agg (vs o).toArray)) rfl rfl (yieldsIf_load_mid (by kernel_rfl) 27 (.tmp 6) rfl w4.heap.size 0 (by simp [Act.eval]) (vs o) _ (fun W hW => Blk.range (pre := []) (post := []) (by simpa using (HB9.out.through hW))) Try.underlying27 rfl (by rw [HOl.out]; kernel_rfl)) (by assumption) ?_
  simp only [Act.put, sq1, sq2, sq3]
  refine tkq (i := 3) (d := 38) (v := (.pointer (some ⟨R, 0, none⟩))) rfl rfl (Or.inl ⟨by kernel_rfl, fun w hSw => ?_⟩) (by assumption) ?_
  ·(try dsimp only at hSw); go_simp <;> (try rfl)
  simp only [Act.put, sq1, sq2, sq3]
  refine tkq (i := 4) (d := 39) (v := (.pointer (some ⟨R, 0, none⟩))) rfl rfl (Or.inl ⟨by kernel_rfl, fun w hSw => ?_⟩) (by assumption) ?_
  ·(try dsimp only at hSw); go_simp <;> (try rfl)
  simp only [Act.put, sq1, sq2, sq3]
  refine tkq (i := 5) (d := 40) (v := (.pointer (some ⟨R, 2, none⟩))) rfl rfl (Or.inl ⟨by kernel_rfl, fun w hSw => ?_⟩) (by assumption) ?_
  ·(try dsimp only at hSw); go_simp <;> (try rfl)
  simp only [Act.put, sq1, sq2, sq3]
  refine tkq (i := 6) (d := 41) (v := (.agg (vs s.dg).toArray)) rfl rfl (yieldsIf_load_mid (by kernel_rfl) 27 (.tmp 40) rfl R 2 (by simp [Act.eval]) (vs s.dg) _ (fun W hW => slC_dgP _ _ _ _ _ _ ((HB.out.through HX5.out).through hW)) Try.underlying27 rfl (by rw [HVs.out]; kernel_rfl)) (by assumption) ?_
  simp only [Act.put, sq1, sq2, sq3]
  refine tkq (i := 7) (d := 42) (v := (.bool false)) rfl rfl (Or.inl ⟨by kernel_rfl, fun w hSw => ?_⟩) (by assumption) ?_
  ·(try dsimp only at hSw); go_simp <;> (try rfl)
  simp only [Act.put, sq1, sq2, sq3]
  refine tkq (i := 8) (d := 43) (v := (.bool false)) rfl rfl (Or.inl ⟨by kernel_rfl, fun w hSw => ?_⟩) (by assumption) ?_
  ·(try dsimp only at hSw); go_simp <;> (try rfl)
  simp only [Act.put, sq1, sq2, sq3]
  refine wpAnyH_done (by kernel_rfl) ?_ _
  have k0 : w5.drew.cell? ⟨R, 0, none⟩ = some (.int .i64 s.n) := (HB.out.through HX5.out).drew.cellAt rfl
  generalize hwd : w5.drew = wd at *
  have HX6 : Hid (Below w.heap.size w wd) := Lib.hid (by rw [← hwd]; exact below_step HX5.out (Below.refl _ w5).drew)
  clear hwd
  go_wp2_with (first
      | (go_at_call 75; (with_reducible refine (faults_pg s.n HN1.out HN7.out _).mono ?_); rintro e w9 ⟨rfl, hw9⟩; have hw8 := hw9.symm; clear hw9; subst hw8; rw [HFl.out]))
  go_ret
  exact ⟨by rw [HR.out]; first | rfl | simp, HX6.out⟩

end Go.Proofs.Ytkpgjcahmpekbaa
