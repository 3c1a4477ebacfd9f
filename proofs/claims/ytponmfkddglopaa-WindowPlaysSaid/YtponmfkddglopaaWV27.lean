/-
  Joined: SwB.
-/
import Derived.Test.YtponmfkddglopaaWV26
import Derived.Test.YtponmfkddglopaaWVT
namespace Go.Proofs.Ytponmfkddglopaa
open Go.RowKit

theorem Try.agg_ptl (w : World) : (isAgg 59).run Try.prog w = .ok false w := by kernel_rfl
set_option maxHeartbeats 16000000 in
set_option maxRecDepth 100000 in
theorem prepare_sw {w : World} {R gp pv pc gm mv mc : Nat} {bv : Value} {s : Slt} (who : Int) (d : List UInt8) (h : SwR w R gp pv pc gm mv mc bv s) (hl : SlLow s) (hd : d.length = 32) :
  Calls Try.prog 14 #[(.pointer (some ⟨R, 0, none⟩)), .int .i64 who, .agg (vs d).toArray] w fun e w' => e = .returned (.int .i64 (prepS s who d).2) ∧ SwR w' R gp pv pc gm mv mc bv (prepS s who d).1 ∧ Ft (D3 gp pv pc) w w' := by
 have HDd := Lib.hid hd
 have HSd := Lib.hid h.dg
 have HN1 := Lib.hid hl.n1
 have HMl : Hid (s.pr.length ≤ 100000) := Lib.hid (Nat.le_trans hl.pr (by omega))
 have HVd : Hid ((vs d).length = 32) := Lib.hid (D_len d hd)
 have X1 := below1_ w (.cells (vs d).toArray 40)
 have HX1 := Lib.hid X1
 have HH := Lib.hid (h.through X1)
 have HHb := Lib.hid HH.out.box
 have HH0 := Lib.hid h
 have Hpr := Lib.hid HH.out.pr
 have HB0 : Hid (Blk (w.alloc (.cells (vs d).toArray 40)) w.heap.size 40 (vs d)) := Lib.hid (Blk.fresh rfl rfl)
 have HNR : Hid (¬ D3 gp pv pc R) := Lib.hid (tl_ne h.box h.pr)
 have HNB : Hid (¬ D3 gp pv pc w.heap.size) := Lib.hid (fun h9 => Nat.lt_irrefl _ (h.pr.lt _ h9))
 clear h hl hd X1
 go_enter Try.func14, Try.ntmps14
 go_upto_region 3 with (go_at_call 23; (with_reducible refine (isnone_sl R s bv _ _ _ HHb.out HN1.out).mono ?_); rintro e w9 ⟨rfl, hw9⟩; have hw8 := hw9.symm; clear hw9; subst hw8)
 refine wp_region_held_drew (S := fun W => Blk W R 61 (slC s bv (.pointer (some ⟨gp, 0, none⟩)) (.pointer (some ⟨gm, 0, none⟩))) ∧ Blk W w.heap.size 40 (vs d)) (by kernel_rfl) ⟨HHb.out.drew, HB0.out.drew⟩ (fun hHeld => ?_)
 change wpAnyH _ _ _ _ _ _ #[false, false, false, false, false, false, false, false, false] _ _
 refine tkq (i := 0) (d := 9) (v := (.pointer (some ⟨R, 0, none⟩))) rfl rfl (Or.inl ⟨by kernel_rfl, fun w hSw => ?_⟩) (by assumption) ?_
 ·(try dsimp only at hSw); go_simp <;> (try rfl)
 simp only [Act.put, sq1, sq2, sq3]
 refine tkq (i := 1) (d := 10) (v := (.pointer (some ⟨R, 0, none⟩))) rfl rfl (Or.inl ⟨by kernel_rfl, fun w hSw => ?_⟩) (by assumption) ?_
 ·(try dsimp only at hSw); go_simp <;> (try rfl)
 simp only [Act.put, sq1, sq2, sq3]
 refine tkq (i := 2) (d := 11) (v := (.pointer (some ⟨R, 0, none⟩))) rfl rfl (Or.inl ⟨by kernel_rfl, fun w hSw => ?_⟩) (by assumption) ?_
 ·(try dsimp only at hSw); go_simp <;> (try rfl)
 simp only [Act.put, sq1, sq2, sq3]
 refine tkq (i := 3) (d := 12) (v := (.pointer (some ⟨R, 35, none⟩))) rfl rfl (Or.inl ⟨by kernel_rfl, fun w hSw => ?_⟩) (by assumption) ?_
 ·(try dsimp only at hSw); go_simp <;> (try rfl)
 simp only [Act.put, sq1, sq2, sq3]
 refine tkq (i := 4) (d := 13) (v := (.pointer (some ⟨gp, 0, none⟩))) rfl rfl (yields_load_at (by kernel_rfl) 59 (.tmp 12) rfl (.pointer (some ⟨R, 35, none⟩)) (by simp [Act.eval]) (.pointer (some ⟨gp, 0, none⟩)) (fun W hW => load_one' (Try.agg_ptl W) (Blk.cellAt (i := 35) hW.1 (slC_p _ _ _ _ HSd.out)))) (by assumption) ?_
 simp only [Act.put, sq1, sq2, sq3]
 refine tkq (i := 5) (d := 14) (v := (.int .i64 who)) rfl rfl (Or.inl ⟨by kernel_rfl, fun w hSw => ?_⟩) (by assumption) ?_
 ·(try dsimp only at hSw); go_simp <;> (try rfl)
 simp only [Act.put, sq1, sq2, sq3]
 refine tkq (i := 6) (d := 15) (v := (.agg (vs d).toArray)) rfl rfl (yieldsIf_load_mid (by kernel_rfl) 40 (.tmp 5) rfl w.heap.size 0 (by simp [Act.eval]) (vs d) _ (fun W hW => Blk.range (pre := []) (post := []) (by simpa using hW.2)) Try.underlying40 rfl (by rw [HVd.out]; kernel_rfl)) (by assumption) ?_
 simp only [Act.put, sq1, sq2, sq3]
 refine wpAnyH_ready (rs := [7]) (by kernel_rfl) (by simp) ?_
 refine AllReadyH.cons rfl (fun K hK => ?_) AllReadyH.nil
 go_simp
 refine (vote_sl s bv _ _ R gp pv pc s.pr who d _ hHeld.1 (Hpr.out.keep (fun _ _ => rfl)) HDd.out HMl.out).mono ?_
 rintro e w3 ⟨rfl, ht9, hf9⟩; have HT3 := Lib.hid ht9; have HF3 : Hid (Ft (D3 gp pv pc) (w.alloc (.cells (vs d).toArray 40)) w3) := Lib.hid (Ft.trans (D' := D3 gp pv pc) (Ft.of_below (Below.refl _ (w.alloc (.cells (vs d).toArray 40))).drew) hf9 (fun q hq => .inl hq)); clear ht9 hf9
 go_wp2_with fail
 refine hK.out _ _ ⟨HF3.out.blk HH.out.box HNR.out, HF3.out.blk HB0.out HNB.out⟩ (fun hHeld1 => ?_)
 clear hHeld hK K
 have hHeld := hHeld1
 clear hHeld1
 refine tkq (i := 8) (d := 6) (v := (.int .i64 (voteE s.n s.pr who d))) rfl rfl (Or.inl ⟨by kernel_rfl, fun w hSw => ?_⟩) (by assumption) ?_
 ·(try dsimp only at hSw); go_simp <;> (try rfl)
 simp only [Act.put, sq1, sq2, sq3]
 refine wpAnyH_done (by kernel_rfl) ?_ _
 go_wp2
 go_ret
 exact ⟨rfl, HH.out.prep HF3.out HT3.out, (Ft.of_below HX1.out).trans HF3.out (fun q hq => .inl hq)⟩
end Go.Proofs.Ytponmfkddglopaa
