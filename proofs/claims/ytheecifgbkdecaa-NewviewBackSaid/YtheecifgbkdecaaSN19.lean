/-
  ChC ChK
-/
import Derived.Test.YtheecifgbkdecaaSN18
import Derived.Test.YtheecifgbkdecaaSN17
import Derived.Test.YtheecifgbkdecaaSNT
namespace Go.Proofs.Ytheecifgbkdecaa
open Go.RowKit

theorem Try.agg_pos (w : World) : (isAgg 22).run Try.prog w = .ok false w := by kernel_rfl
theorem Try.agg_pfs (w : World) : (isAgg 23).run Try.prog w = .ok false w := by kernel_rfl
theorem Po.one (p : Po) : (Po.cells p).toArray.all (·.oneCell') = true := Array.all_eq_true_iff_forall_mem.2 (fun u hu => by
 simp only [Po.cells, List.mem_toArray, List.mem_cons] at hu
 rcases hu with rfl | hu
 ·rfl
 ·exact vs_one u hu)

set_option maxHeartbeats 16000000 in
set_option maxRecDepth 100000 in
theorem rbytes18_any (c : Ch) (P Q R : Pl) (w : World) (h : ChIn w P Q R c) (hp : P.2.1 ≤ 60000) (hq : Q.2.1 ≤ 60000) (hr : R.2.1 ≤ 60000) (h1 : ∀ p ∈ c.pp, p.Low) (h2 : ∀ p ∈ c.pd, p.Low) (hL : (encCh c).length ≤ 1000000000) :
  Calls Try.prog 13 #[.agg (Ch.cells c P Q R).toArray] w (Byt w (encCh c)) := by
 have HB : Hid (Blk (w.alloc (.cells (Ch.cells c P Q R).toArray 25)) w.heap.size 25 (Ch.cells c P Q R)) := Lib.hid (Blk.fresh rfl rfl)
 have HX0 : Hid (Below w.heap.size w (w.alloc (.cells (Ch.cells c P Q R).toArray 25))) := Lib.hid (below1_ w _)
 have HPo := Lib.hid h.1.1
 have HPn := Lib.hid h.1.1.len
 have HQ := Lib.hid h.2.1.1
 have HR := Lib.hid h.2.2.1
 have HSz : Hid (Q.2.1 ≤ 100000 ∧ R.2.1 ≤ 100000) := Lib.hid ⟨by omega, by omega⟩
 have HLo := Lib.hid (And.intro h1 h2)
 obtain ⟨HEAD, hHE⟩ : ∃ E, beB (u64N c.vw) 8 ++ beB (u64N c.lw) 8 ++ encPos c.po = E := ⟨_, rfl⟩
 have HEn : Hid ((HEAD ++ encPfs c.pp) ++ encPfs c.pd = encCh c) := Lib.hid (by rw [← hHE]; simp only [encCh, List.append_assoc])
 have HLt : Hid (((HEAD ++ encPfs c.pp) ++ encPfs c.pd).length ≤ 1000000000) := Lib.hid (by rw [HEn.out]; exact hL)
 have HHL : Hid (HEAD.length ≤ 1000000000) := Lib.hid (by have h9 := HLt.out; simp only [List.length_append] at h9; omega)
 have HHD : Hid ((beB (u64N c.vw) 8 ++ beB (u64N c.lw) 8 ++ beB P.2.1 2) ++ encAll encPo (c.po.drop 0) = HEAD) := Lib.hid (by rw [← hHE, List.drop_zero]; unfold encPos; rw [HPn.out]; simp only [List.append_assoc])
 have hkm : P.2.1 ≤ 9223372036854775807 := by omega
 have hwu : ∀ W : World, (convert 3 70 (.int .i64 (P.2.1 : Int))).run Try.prog W = .ok (.int .u64 (P.2.1 : Int)) W := fun W => by
  have h9 := conv_u64 3 70 Try.underlying3 Try.underlying70 (P.2.1 : Int) W
  rw [show u64N (P.2.1 : Int) = P.2.1 by unfold u64N; omega] at h9
  exact h9
 have HPu : Hid (∀ (v : Int) (W : World) (B : Option Addr) (k d : Nat) (ys : List UInt8), By W (fun _ => True) B k ys → ys.length ≤ 1000000000 → Calls Try.prog 41 #[.slice B k d, .int .u64 ((u64N v : Nat) : Int), .int .i64 8] W (Byt W (ys ++ beB (u64N v) 8))) := Lib.hid (fun v W B k d ys hY hl => rput_by 8 rfl (u64N v) (by unfold u64N; omega) hY (by omega))
 have HP2 : Hid (∀ (W : World) (B : Option Addr) (k d : Nat), By W (fun _ => True) B k ([] ++ beB (u64N c.vw) 8 ++ beB (u64N c.lw) 8) → Calls Try.prog 41 #[.slice B k d, .int .u64 (P.2.1 : Int), .int .i64 2] W (Byt W (beB (u64N c.vw) 8 ++ beB (u64N c.lw) 8 ++ beB P.2.1 2))) := Lib.hid (fun W B k d hY => by rw [List.nil_append] at hY; exact rput_by 2 rfl P.2.1 (by omega) hY (by simp only [List.length_append, beB_length]; omega))
 clear h hp hq hr h1 h2 hL hHE
 go_enter Try.func13, Try.ntmps13
 go_wp2
 try dsimp only [Act.put]
 refine wp_region_held_drew (S := fun W => Below (w.alloc (.cells (Ch.cells c P Q R).toArray 25)).heap.size (w.alloc (.cells (Ch.cells c P Q R).toArray 25)) W) (by kernel_rfl) (Below.refl _ _).drew (fun hHeld => ?_)
 change wpAnyH _ _ _ _ _ _ #[false, false, false, false, false, false, false, false, false] _ _
 refine tkq (i := 0) (d := 6) (v := (.pointer (some ⟨w.heap.size, 0, none⟩))) rfl rfl (Or.inl ⟨by kernel_rfl, fun w hSw => ?_⟩) (by assumption) ?_
 ·(try dsimp only at hSw); go_simp <;> (try rfl)
 simp only [Act.put, sq1, sq2, sq3]
 refine tkq (i := 1) (d := 7) (v := (.int .i64 c.vw)) rfl rfl (yields_load_at (by kernel_rfl) 2 (.tmp 6) rfl (.pointer (some ⟨w.heap.size, 0, none⟩)) (by simp [Act.eval]) (.int .i64 c.vw) (fun W hW => load_one' (Try.agg_i64 W) ((HB.out.through hW).cellAt (i := 0) rfl))) (by assumption) ?_
 simp only [Act.put, sq1, sq2, sq3]
 refine tkq (i := 2) (d := 8) (v := (.int .u64 ((u64N c.vw : Nat) : Int))) rfl rfl (yields_conv (by kernel_rfl) 2 70 (.tmp 7) rfl (.int .i64 c.vw) (by simp [Act.eval]) (.int .u64 ((u64N c.vw : Nat) : Int)) (fun W _ => conv_u64 2 70 Try.underlying2 Try.underlying70 c.vw W)) (by assumption) ?_
 simp only [Act.put, sq1, sq2, sq3]
 refine tkq (i := 4) (d := 10) (v := (.pointer (some ⟨w.heap.size, 1, none⟩))) rfl rfl (Or.inl ⟨by kernel_rfl, fun w hSw => ?_⟩) (by assumption) ?_
 ·(try dsimp only at hSw); go_simp <;> (try rfl)
 simp only [Act.put, sq1, sq2, sq3]
 refine tkq (i := 5) (d := 11) (v := (.int .i64 c.lw)) rfl rfl (yields_load_at (by kernel_rfl) 2 (.tmp 10) rfl (.pointer (some ⟨w.heap.size, 1, none⟩)) (by simp [Act.eval]) (.int .i64 c.lw) (fun W hW => load_one' (Try.agg_i64 W) ((HB.out.through hW).cellAt (i := 1) rfl))) (by assumption) ?_
 simp only [Act.put, sq1, sq2, sq3]
 refine tkq (i := 6) (d := 12) (v := (.int .u64 ((u64N c.lw : Nat) : Int))) rfl rfl (yields_conv (by kernel_rfl) 2 70 (.tmp 11) rfl (.int .i64 c.lw) (by simp [Act.eval]) (.int .u64 ((u64N c.lw : Nat) : Int)) (fun W _ => conv_u64 2 70 Try.underlying2 Try.underlying70 c.lw W)) (by assumption) ?_
 simp only [Act.put, sq1, sq2, sq3]
 refine wpAnyH_ready (rs := [3]) (by kernel_rfl) (by simp) ?_
 refine AllReadyH.cons rfl (fun K hK => ?_) AllReadyH.nil
 go_simp
 refine (HPu.out c.vw _ _ _ _ [] By.none_ (by simp)).mono ?_
 rintro e wp ⟨Ap, np, dp, rfl, hyp, hcp, hmp, hbp⟩; have HYp := Lib.hid hyp; have HCp := Lib.hid (And.intro hcp hmp); have HKp := Lib.hid (below_step hHeld hbp); clear hyp hbp hcp hmp
 go_wp2_with fail
 refine hK.out _ _ HKp.out (fun hHeld1 => ?_)
 clear hHeld hK K
 have hHeld := hHeld1
 clear hHeld1
 refine wpAnyH_ready (rs := [7]) (by kernel_rfl) (by simp) ?_
 refine AllReadyH.cons rfl (fun K hK => ?_) AllReadyH.nil
 go_simp
 refine (HPu.out c.lw _ _ _ _ _ HYp.out (by simp)).mono ?_
 rintro e wq ⟨Aq, nq, dq, rfl, hyq, hcq, hmq, hbq⟩; have HYq := Lib.hid hyq; have HCq := Lib.hid (And.intro hcq hmq); have HKq := Lib.hid (below_step hHeld hbq); clear hyq hbq hcq hmq
 go_wp2_with fail
 refine hK.out _ _ HKq.out (fun hHeld1 => ?_)
 clear hHeld hK K
 have hHeld := hHeld1
 clear hHeld1
 refine tkq (i := 8) (d := 3) (v := (.slice Aq nq dq)) rfl rfl (Or.inl ⟨by kernel_rfl, fun w hSw => ?_⟩) (by assumption) ?_
 ·(try dsimp only at hSw); go_simp <;> (try rfl)
 simp only [Act.put, sq1, sq2, sq3]
 refine wpAnyH_done (by kernel_rfl) ?_ _
 have HXq : Hid (Below w.heap.size w wq) := Lib.hid (below_step HX0.out hHeld)
 have HBq := Lib.hid (HB.out.through hHeld)
 have k2 := HBq.out.cellAt (i := 2) rfl
 clear hHeld
 go_wp2_with (first
  | (go_at_call 41; (with_reducible refine (HP2.out _ _ _ _ HYq.out).mono ?_); rintro e w1 ⟨A1, n1, c1, rfl, hy1, hn1, hm1, hb1⟩; have HY1 := Lib.hid hy1; have HC1 := Lib.hid (And.intro hn1 hm1); have HX1 := Lib.hid (below_step HXq.out hb1); have HB1 := Lib.hid (HBq.out.through hb1); have k2b := HB1.out.cellAt (i := 2) rfl; clear hy1 hb1 hn1 hm1 k2))
 go_loopw [3, 23] (fun bv iv wr => ∃ (i : Nat) (Av : Option Addr) (nv cv : Nat) (ys : List UInt8), i ≤ P.2.1 ∧ iv = .int .i64 (i : Int) ∧ bv = .slice Av nv cv ∧ ys ++ encAll encPo (c.po.drop i) = HEAD ∧ By wr (fun _ => True) Av nv ys ∧ (nv ≤ cv ∧ cv ≤ maxLen) ∧ Blk wr w.heap.size 25 (Ch.cells c P Q R) ∧ Below w.heap.size w wr) (fun _ iv _ => P.2.1 - (intOf iv).toNat)
 case atStart => exact ⟨0, A1, n1, c1, _, Nat.zero_le _, rfl, rfl, HHD.out, HY1.out, HC1.out, HB1.out, HX1.out⟩
 case round =>
  obtain ⟨i, Av, nv, cv, ys, hi, rfl, rfl, ho, hy, hc, hbb, hx⟩ := hrel
  have HOv := Lib.hid ho
  have HYv0 := Lib.hid hy
  have HCv := Lib.hid hc
  have HBv := Lib.hid hbb
  have HXv := Lib.hid hx
  clear ho hy hc hbb hx
  by_cases hlt : i < P.2.1
  ·obtain ⟨g, o, p, hP1, _, hmem, hd, hdl, hrx⟩ := (HPo.out.through HXv.out).at hlt
   have HRx := Lib.hid hrx
   have HDL := Lib.hid hdl
   have HPL : Hid ((Po.cells p).length = 33) := Lib.hid (Po.cells_len p hdl)
   have hix : ∀ W, (Instr.indexAt 22 (.slice P.1 P.2.1 P.2.2) (.int .i64 (i : Int))).run Try.prog W = .ok (.pointer (some ⟨g, o + i * 33, none⟩)) W := fun W => by rw [hP1]; exact Try.ix_po W g o P.2.1 P.2.2 i hlt
   have HOz : Hid ((ys ++ beB (u64N p.sq) 8 ++ p.dg) ++ encAll encPo (c.po.drop (i + 1)) = HEAD) := Lib.hid (by rw [← HOv.out, hd]; simp only [encAll, encPo, List.append_assoc])
   have hzl : ys.length + 40 ≤ 1000000000 := by
    have h9 := congrArg List.length HOz.out
    simp only [List.length_append, beB_length] at h9
    have := HHL.out
    omega
   have HZ1 : Hid (ys.length ≤ 1000000000) := Lib.hid (by omega)
   have HZ2 : Hid ((ys ++ beB (u64N p.sq) 8).length ≤ 1000000000) := Lib.hid (by rw [List.length_append, beB_length]; omega)
   have HDg : Hid (∀ (W : World) (B : Option Addr) (k d : Nat) (zs : List UInt8), By W (fun _ => True) B k zs → zs.length ≤ 1000000000 → Calls Try.prog 42 #[.slice B k d, .agg (vs p.dg).toArray] W (Byt W (zs ++ p.dg))) := Lib.hid (fun W B k d zs hY hl => rdig17_any zs p.dg B k d W hY HDL.out (by omega))
   clear hrx hdl hd hmem hzl hP1
   go_wp2_with (first
    | (refine wpList_load_mid rfl 52 (.tmp 25) rfl g (o + i * 33) rfl (Po.cells p) _ HRx.out Try.underlying52 rfl (by rw [HPL.out]; kernel_rfl) ?_)
    | (refine wpList_store_blk rfl 52 (.tmp 5) (.tmp 26) rfl wr.heap.size (Po.cells p) rfl rfl 52 (Po.cells ⟨0, List.replicate 32 0⟩) (Blk.fresh rfl rfl) (by rw [HPL.out]; kernel_rfl) (by rw [HPL.out]; rfl) (Po.one p) ?_; simp only [Act.put]; intro wv hbv hgv; have HBx := Lib.hid hbv; have HXx : Hid (Below w.heap.size w wv) := Lib.hid (below_step HXv.out (below_new hgv)); have HYv := Lib.hid (HYv0.out.through (below_new hgv)); have HBc := Lib.hid (HBv.out.through (below_new hgv)); have HDr : Hid (wv.rangeAt wr.heap.size 1 (vs p.dg)) := Lib.hid (Blk.range (pre := [.int .i64 p.sq]) (post := []) (by simpa [Po.cells] using HBx.out)); clear hbv hgv))
   clear hix
   try dsimp only [Act.put]
   refine wp_region_held_drew (S := fun W => Below wv.heap.size wv W) (by kernel_rfl) (Below.refl _ _).drew (fun hHeld => ?_)
   change wpAnyH _ _ _ _ _ _ #[false, false, false, false, false, false, false, false, false] _ _
   refine tkq (i := 0) (d := 27) (v := (.slice Av nv cv)) rfl rfl (Or.inl ⟨by kernel_rfl, fun w hSw => ?_⟩) (by assumption) ?_
   ·(try dsimp only at hSw); go_simp <;> (try rfl)
   simp only [Act.put, sq1, sq2, sq3]
   refine tkq (i := 1) (d := 28) (v := (.pointer (some ⟨wr.heap.size, 0, none⟩))) rfl rfl (Or.inl ⟨by kernel_rfl, fun w hSw => ?_⟩) (by assumption) ?_
   ·(try dsimp only at hSw); go_simp <;> (try rfl)
   simp only [Act.put, sq1, sq2, sq3]
   refine tkq (i := 2) (d := 29) (v := (.int .i64 p.sq)) rfl rfl (yields_load_at (by kernel_rfl) 2 (.tmp 28) rfl (.pointer (some ⟨wr.heap.size, 0, none⟩)) (by simp [Act.eval]) (.int .i64 p.sq) (fun W hW => load_one' (Try.agg_i64 W) ((HBx.out.through hW).cellAt (i := 0) rfl))) (by assumption) ?_
   simp only [Act.put, sq1, sq2, sq3]
   refine tkq (i := 3) (d := 30) (v := (.int .u64 ((u64N p.sq : Nat) : Int))) rfl rfl (yields_conv (by kernel_rfl) 2 70 (.tmp 29) rfl (.int .i64 p.sq) (by simp [Act.eval]) (.int .u64 ((u64N p.sq : Nat) : Int)) (fun W _ => conv_u64 2 70 Try.underlying2 Try.underlying70 p.sq W)) (by assumption) ?_
   simp only [Act.put, sq1, sq2, sq3]
   refine tkq (i := 5) (d := 32) (v := (.pointer (some ⟨wr.heap.size, 1, none⟩))) rfl rfl (Or.inl ⟨by kernel_rfl, fun w hSw => ?_⟩) (by assumption) ?_
   ·(try dsimp only at hSw); go_simp <;> (try rfl)
   simp only [Act.put, sq1, sq2, sq3]
   refine tkq (i := 6) (d := 33) (v := (.agg (vs p.dg).toArray)) rfl rfl (yieldsIf_load_mid (by kernel_rfl) 40 (.tmp 32) rfl wr.heap.size 1 (by simp [Act.eval]) (vs p.dg) _ (fun W hW => rangeAt.through HDr.out hW) Try.underlying40 rfl (by rw [vs_length, HDL.out]; kernel_rfl)) (by assumption) ?_
   simp only [Act.put, sq1, sq2, sq3]
   refine wpAnyH_ready (rs := [4]) (by kernel_rfl) (by simp) ?_
   refine AllReadyH.cons rfl (fun K hK => ?_) AllReadyH.nil
   go_simp
   refine (HPu.out p.sq _ _ _ _ ys (HYv.out.through hHeld) HZ1.out).mono ?_
   rintro e wa ⟨Aa, na, da, rfl, hya, hca, hma, hba⟩; have HYa := Lib.hid hya; have HCa := Lib.hid (And.intro hca hma); have HKa := Lib.hid (below_step hHeld hba); clear hya hba hca hma
   go_wp2_with fail
   refine hK.out _ _ HKa.out (fun hHeld1 => ?_)
   clear hHeld hK K
   have hHeld := hHeld1
   clear hHeld1
   refine wpAnyH_ready (rs := [7]) (by kernel_rfl) (by simp) ?_
   refine AllReadyH.cons rfl (fun K hK => ?_) AllReadyH.nil
   go_simp
   refine (HDg.out _ _ _ _ _ HYa.out HZ2.out).mono ?_
   rintro e wz ⟨Az, nz, dz, rfl, hyz, hcz, hmz, hbz⟩; have HYz := Lib.hid hyz; have HCz := Lib.hid (And.intro hcz hmz); have HKz := Lib.hid (below_step hHeld hbz); clear hyz hbz hcz hmz
   go_wp2_with fail
   refine hK.out _ _ HKz.out (fun hHeld1 => ?_)
   clear hHeld hK K
   have hHeld := hHeld1
   clear hHeld1
   refine tkq (i := 8) (d := 3) (v := (.slice Az nz dz)) rfl rfl (Or.inl ⟨by kernel_rfl, fun w hSw => ?_⟩) (by assumption) ?_
   ·(try dsimp only at hSw); go_simp <;> (try rfl)
   simp only [Act.put, sq1, sq2, sq3]
   refine wpAnyH_done (by kernel_rfl) ?_ _
   have HXz : Hid (Below w.heap.size w wz) := Lib.hid (below_step HXx.out hHeld)
   have HBz := Lib.hid (HBc.out.through hHeld)
   clear hHeld
   go_wp2_with fail
   go_roundw
   case rel => exact ⟨i + 1, Az, nz, dz, _, by omega, by go_num, rfl, HOz.out, HYz.out, HCz.out, HBz.out, HXz.out⟩
   case measure => simp [intOf]; omega
  ·have e9 : c.po.drop i = [] := List.drop_of_length_le (by have := HPn.out; omega)
   have HE : Hid (ys = HEAD) := Lib.hid (by rw [← HOv.out, e9]; simp [encAll])
   have hyl : ys.length ≤ 1000000000 := by rw [HE.out]; exact HHL.out
   have HF1 : Hid (∀ (B : Option Addr) (m d : Nat) (W : World), By W (fun _ => True) B m ys → Below w.heap.size w W → Calls Try.prog 43 #[.slice B m d, .slice Q.1 Q.2.1 Q.2.2] W (Byt W (ys ++ encPfs c.pp))) := Lib.hid (fun B m d W hY hW => rproofs_any ys c.pp B m d Q.1 Q.2.1 Q.2.2 W hY (HQ.out.through hW) HSz.out.1 HLo.out.1 (by have h9 := HLt.out; rw [HE.out]; simp only [List.length_append] at h9 ⊢; omega))
   have HF2 : Hid (∀ (B : Option Addr) (m d : Nat) (W : World), By W (fun _ => True) B m (ys ++ encPfs c.pp) → Below w.heap.size w W → Calls Try.prog 43 #[.slice B m d, .slice R.1 R.2.1 R.2.2] W (Byt W ((ys ++ encPfs c.pp) ++ encPfs c.pd))) := Lib.hid (fun B m d W hY hW => rproofs_any (ys ++ encPfs c.pp) c.pd B m d R.1 R.2.1 R.2.2 W hY (HR.out.through hW) HSz.out.2 HLo.out.2 (by have h9 := HLt.out; rw [HE.out]; simp only [List.length_append] at h9 ⊢; omega))
   have HOUT : Hid ((ys ++ encPfs c.pp) ++ encPfs c.pd = encCh c) := Lib.hid (by rw [HE.out]; exact HEn.out)
   clear e9 hyl
   go_wp2_with fail
   try dsimp only [Act.put]
   refine wp_region_held_drew (S := fun W => Below wr.heap.size wr W) (by kernel_rfl) (Below.refl _ _).drew (fun hHeld => ?_)
   change wpAnyH _ _ _ _ _ _ #[false, false, false, false, false, false, false, false] _ _
   refine tkq (i := 0) (d := 36) (v := (.slice Av nv cv)) rfl rfl (Or.inl ⟨by kernel_rfl, fun w hSw => ?_⟩) (by assumption) ?_
   ·(try dsimp only at hSw); go_simp <;> (try rfl)
   simp only [Act.put, sq1, sq2, sq3]
   refine tkq (i := 1) (d := 37) (v := (.pointer (some ⟨w.heap.size, 3, none⟩))) rfl rfl (Or.inl ⟨by kernel_rfl, fun w hSw => ?_⟩) (by assumption) ?_
   ·(try dsimp only at hSw); go_simp <;> (try rfl)
   simp only [Act.put, sq1, sq2, sq3]
   refine tkq (i := 2) (d := 38) (v := (.slice Q.1 Q.2.1 Q.2.2)) rfl rfl (yields_load_at (by kernel_rfl) 23 (.tmp 37) rfl (.pointer (some ⟨w.heap.size, 3, none⟩)) (by simp [Act.eval]) (.slice Q.1 Q.2.1 Q.2.2) (fun W hW => load_one' (Try.agg_pfs W) ((HBv.out.through hW).cellAt (i := 3) rfl))) (by assumption) ?_
   simp only [Act.put, sq1, sq2, sq3]
   refine tkq (i := 4) (d := 40) (v := (.pointer (some ⟨w.heap.size, 4, none⟩))) rfl rfl (Or.inl ⟨by kernel_rfl, fun w hSw => ?_⟩) (by assumption) ?_
   ·(try dsimp only at hSw); go_simp <;> (try rfl)
   simp only [Act.put, sq1, sq2, sq3]
   refine tkq (i := 5) (d := 41) (v := (.slice R.1 R.2.1 R.2.2)) rfl rfl (yields_load_at (by kernel_rfl) 23 (.tmp 40) rfl (.pointer (some ⟨w.heap.size, 4, none⟩)) (by simp [Act.eval]) (.slice R.1 R.2.1 R.2.2) (fun W hW => load_one' (Try.agg_pfs W) ((HBv.out.through hW).cellAt (i := 4) rfl))) (by assumption) ?_
   simp only [Act.put, sq1, sq2, sq3]
   refine wpAnyH_ready (rs := [3]) (by kernel_rfl) (by simp) ?_
   refine AllReadyH.cons rfl (fun K hK => ?_) AllReadyH.nil
   go_simp
   refine (HF1.out _ _ _ _ (HYv0.out.through hHeld) (below_step HXv.out hHeld)).mono ?_
   rintro e wf ⟨Af, nf, df, rfl, hyf, _, _, hbf⟩; have HYf := Lib.hid hyf; have HKf := Lib.hid (below_step hHeld hbf); clear hyf hbf
   go_wp2_with fail
   refine hK.out _ _ HKf.out (fun hHeld1 => ?_)
   clear hHeld hK K
   have hHeld := hHeld1
   clear hHeld1
   refine wpAnyH_ready (rs := [6]) (by kernel_rfl) (by simp) ?_
   refine AllReadyH.cons rfl (fun K hK => ?_) AllReadyH.nil
   go_simp
   refine (HF2.out _ _ _ _ HYf.out (below_step HXv.out hHeld)).mono ?_
   rintro e wl ⟨Al, nl, dl, rfl, hyl, hcl, hml, hbl⟩; have HYl := Lib.hid hyl; have HCl := Lib.hid (And.intro hcl hml); have HKl := Lib.hid (below_step hHeld hbl); clear hyl hbl hcl hml
   go_wp2_with fail
   refine hK.out _ _ HKl.out (fun hHeld1 => ?_)
   clear hHeld hK K
   have hHeld := hHeld1
   clear hHeld1
   refine tkq (i := 7) (d := 2) (v := (.slice Al nl dl)) rfl rfl (Or.inl ⟨by kernel_rfl, fun w hSw => ?_⟩) (by assumption) ?_
   ·(try dsimp only at hSw); go_simp <;> (try rfl)
   simp only [Act.put, sq1, sq2, sq3]
   refine wpAnyH_done (by kernel_rfl) ?_ _
   have HXl : Hid (Below w.heap.size w wl) := Lib.hid (below_step HXv.out hHeld)
   clear hHeld
   go_wp2
   go_ret
   exact ⟨Al, nl, dl, rfl, by rw [← HOUT.out]; exact HYl.out, HCl.out.1, HCl.out.2, HXl.out⟩

end Go.Proofs.Ytheecifgbkdecaa

namespace Go.Proofs.Ytheecifgbkdecaa
open Go.RowKit

set_option maxHeartbeats 2000000 in
theorem rmark_any (s : Int) (w : World) : Calls Try.prog 65 #[.int .i64 s] w fun e w' => e = .returned (.bool (markB s)) ∧ w' = w := by
 obtain ⟨q, hq⟩ : ∃ q, isW s = q := ⟨_, rfl⟩
 have HS : Hid (∀ W : World, Calls Try.prog 100 #[.int .i64 s] W fun e w' => e = .returned (.bool q) ∧ w' = W) := Lib.hid (fun W => hq ▸ rseq_any s W)
 unfold markB
 rw [hq]
 cases q with
 | false =>
  clear hq
  go_enter Try.func65, Try.ntmps65
  go_wp2_with (first
   | go_skip
   | (go_at_call 100; (with_reducible refine (HS.out _).mono ?_); rintro e w1 ⟨rfl, rfl⟩))
  go_ret
  exact ⟨rfl, rfl⟩
 | true =>
  have hb : 0 ≤ s ∧ s ≤ 1048576 := by simpa [isW] using hq
  obtain ⟨m, hm⟩ : ∃ m : Int, s % 4 = m := ⟨_, rfl⟩
  have ht : s.tmod 4 = m := by rw [Int.tmod_eq_emod_of_nonneg hb.1]; exact hm
  have hw : IntKind.i64.wrap m = m := IntWalk.i64_in _ (by omega)
  have hw2 : wrap64 m = m := by unfold wrap64; omega
  obtain ⟨mb, hmb⟩ : ∃ mb, (m == 0) = mb := ⟨_, rfl⟩
  have hd : decide (s % 4 = 0) = mb := by rw [hm, ← hmb]; by_cases h0 : m = 0 <;> simp [h0]
  rw [hd]
  clear hq hb hd
  go_enter Try.func65, Try.ntmps65
  go_wp2_with (first
   | go_skip
   | (go_at_call 100; (with_reducible refine (HS.out _).mono ?_); rintro e w1 ⟨rfl, rfl⟩))
  go_ret
  exact ⟨ret_bo (by simp), rfl⟩

set_option maxHeartbeats 8000000 in
set_option maxRecDepth 100000 in
theorem rproof_any (p : Pf) (B : Option Addr) (m dd : Nat) (c : Ch) (P Q R : Pl) (n : Int) (w : World) (h : EysIn w B m p.es) (hlw : isW c.lw = true) (hl : ∀ y ∈ p.es, y.co.lt.length ≤ 1000000) :
  Calls Try.prog 66 #[.agg #[.int .i64 p.sq, .int .i64 p.vw, .slice B m dd], .agg (Ch.cells c P Q R).toArray, .int .i64 n] w fun e w' => e = .returned (.bool (prfB c.vw c.lw n p)) ∧ Below w.heap.size w w' := by
 have H1 : Hid (Blk ((w.alloc (.cells #[.int .i64 p.sq, .int .i64 p.vw, .slice B m dd] 55)).alloc (.cells (Ch.cells c P Q R).toArray 25)) w.heap.size 55 [.int .i64 p.sq, .int .i64 p.vw, .slice B m dd]) := Lib.hid ((Blk.fresh rfl rfl).alloc _)
 have H2 : Hid (Blk ((w.alloc (.cells #[.int .i64 p.sq, .int .i64 p.vw, .slice B m dd] 55)).alloc (.cells (Ch.cells c P Q R).toArray 25)) (w.heap.size + 1) 25 (Ch.cells c P Q R)) := Lib.hid (Blk.fresh (by simp) rfl)
 have HX : Hid (Below w.heap.size w ((w.alloc (.cells #[.int .i64 p.sq, .int .i64 p.vw, .slice B m dd] 55)).alloc (.cells (Ch.cells c P Q R).toArray 25))) := Lib.hid (below2_ w _ _)
 obtain ⟨bb, hbb⟩ : ∃ bb, prfB c.vw c.lw n p = bb := ⟨_, rfl⟩
 rw [hbb]
 obtain ⟨ck, hck⟩ : ∃ ck, chkB p.es n = ck := ⟨_, rfl⟩
 have HCk : Hid (Calls Try.prog 101 #[.slice B m dd, .int .i64 n] ((w.alloc (.cells #[.int .i64 p.sq, .int .i64 p.vw, .slice B m dd] 55)).alloc (.cells (Ch.cells c P Q R).toArray 25)) fun e w' => e = .returned (.int .i64 ck) ∧ Below ((w.alloc (.cells #[.int .i64 p.sq, .int .i64 p.vw, .slice B m dd] 55)).alloc (.cells (Ch.cells c P Q R).toArray 25)).heap.size ((w.alloc (.cells #[.int .i64 p.sq, .int .i64 p.vw, .slice B m dd] 55)).alloc (.cells (Ch.cells c P Q R).toArray 25)) w') := Lib.hid (hck ▸ rcheck15_any p.es n B m dd ((w.alloc (.cells #[.int .i64 p.sq, .int .i64 p.vw, .slice B m dd] 55)).alloc (.cells (Ch.cells c P Q R).toArray 25)) (h.through HX.out) hl)
 have hlo : 0 ≤ c.lw ∧ c.lw ≤ 1048576 := by simpa [isW] using hlw
 obtain ⟨top, htop⟩ : ∃ t : Int, c.lw + 8 = t := ⟨_, rfl⟩
 have hwr : IntKind.i64.wrap (c.lw + 8) = top := by rw [IntWalk.i64_in _ (by omega)]; exact htop
 have HQ : Hid (bb = (decide (c.lw < p.sq) && decide (p.sq ≤ top) && decide (0 ≤ p.vw) && decide (p.vw < c.vw) && decide (ck = 0))) := Lib.hid (by rw [← hbb, ← htop, ← hck]; rfl)
 have k0 := H1.out.cellAt (i := 0) rfl
 have k1 := H1.out.cellAt (i := 1) rfl
 have k2 := H1.out.cellAt (i := 2) rfl
 have j0 := H2.out.cellAt (i := 0) rfl
 have j1 := H2.out.cellAt (i := 1) rfl
 clear h hbb hck hlo hlw hl htop
 by_cases s0 : c.lw < p.sq
 case neg =>
  have d0 : decide (c.lw < p.sq) = false := by simpa using s0
  have HF : Hid (bb = false) := Lib.hid (by rw [HQ.out, d0]; rfl)
  clear s0
  go_enter Try.func66, Try.ntmps66
  go_wp2_with (first | go_skip)
  go_ret
  exact ⟨ret_bo HF.out.symm, HX.out⟩
 have d0 : decide (c.lw < p.sq) = true := by simpa using s0
 by_cases s1 : p.sq ≤ top
 case neg =>
  have d1 : decide (p.sq ≤ top) = false := by simpa using s1
  have HF : Hid (bb = false) := Lib.hid (by rw [HQ.out, d0, d1]; rfl)
  clear s0 s1
  go_enter Try.func66, Try.ntmps66
  go_wp2_with (first | go_skip)
  go_ret
  exact ⟨ret_bo HF.out.symm, HX.out⟩
 have d1 : decide (p.sq ≤ top) = true := by simpa using s1
 by_cases s2 : 0 ≤ p.vw
 case neg =>
  have d2 : decide (0 ≤ p.vw) = false := by simpa using s2
  have HF : Hid (bb = false) := Lib.hid (by rw [HQ.out, d0, d1, d2]; rfl)
  clear s0 s1 s2
  go_enter Try.func66, Try.ntmps66
  go_wp2_with (first | go_skip)
  go_ret
  exact ⟨ret_bo HF.out.symm, HX.out⟩
 have d2 : decide (0 ≤ p.vw) = true := by simpa using s2
 by_cases s3 : p.vw < c.vw
 case neg =>
  have d3 : decide (p.vw < c.vw) = false := by simpa using s3
  have HF : Hid (bb = false) := Lib.hid (by rw [HQ.out, d0, d1, d2, d3]; rfl)
  clear s0 s1 s2 s3
  go_enter Try.func66, Try.ntmps66
  go_wp2_with (first | go_skip)
  go_ret
  exact ⟨ret_bo HF.out.symm, HX.out⟩
 have d3 : decide (p.vw < c.vw) = true := by simpa using s3
 by_cases s4 : ck = 0
 case neg =>
  have d4 : (ck == 0) = false := by simpa using s4
  have HF : Hid (bb = false) := Lib.hid (by rw [HQ.out, d0, d1, d2, d3]; simp [s4])
  clear s0 s1 s2 s3 s4
  go_enter Try.func66, Try.ntmps66
  go_wp2_with (first
   | go_skip
   | (go_at_call 101; (with_reducible refine (HCk.out).mono ?_); rintro e w1 ⟨rfl, hb1⟩; have HX1 := Lib.hid (below_step HX.out hb1); clear hb1))
  go_ret
  exact ⟨ret_bo HF.out.symm, HX1.out⟩
 case pos =>
  subst s4
  have HF : Hid (bb = true) := Lib.hid (by rw [HQ.out, d0, d1, d2, d3]; rfl)
  clear s0 s1 s2 s3
  go_enter Try.func66, Try.ntmps66
  go_wp2_with (first
   | go_skip
   | (go_at_call 101; (with_reducible refine (HCk.out).mono ?_); rintro e w1 ⟨rfl, hb1⟩; have HX1 := Lib.hid (below_step HX.out hb1); clear hb1))
  go_ret
  exact ⟨ret_bo HF.out.symm, HX1.out⟩

end Go.Proofs.Ytheecifgbkdecaa
