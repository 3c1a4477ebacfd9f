/-
  Joined: TwOD.
-/
import Derived.Test.YtponmfkddglopaaWV23
import Derived.Test.YtponmfkddglopaaWVT
namespace Go.Proofs.Ytponmfkddglopaa
open Go.RowKit

set_option maxHeartbeats 16000000 in
set_option maxRecDepth 100000 in
theorem of_D {w : World} {g gv gc : Nat} {M : List (Int × (List UInt8))} (who : Int) (h : TlR 76 encD okD w g gv gc M) :
  Calls Try.prog 29 #[(.pointer (some ⟨g, 0, none⟩)), .int .i64 who] w fun e w' => e = .returned (.tuple #[encD ((getM who M).getD dgZ), .bool (getM who M).isSome]) ∧ Below w.heap.size w w' := by
 have hz : ∀ W, (zeroValue 40).run Try.prog W = .ok (.agg (vs dgZ).toArray) W := fun W => Try.zero_d W
 have hlk : ∀ W, VMp encD okD W gv M → (Instr.lookup 73 (.map (some gv)) (.int .i64 who) true).run Try.prog W = .ok (.tuple #[encD ((getM who M).getD dgZ), .bool (getM who M).isSome]) W := fun W hW => hW.look Try.key_int Try.underlying73 who (Try.zero_d W)
 have hok : okD ((getM who M).getD dgZ) := by
  cases h9 : getM who M with
  | none => exact D_okz
  | some o => exact h.vm.2 _ (get_memM h9)
 generalize (getM who M).getD dgZ = u at *
 generalize (getM who M).isSome = bb at *
 have HUl : Hid ((vs u).length = 32) := Lib.hid (D_len u hok)
 have HZl : Hid ((vs dgZ).length = 32) := Lib.hid (D_len _ D_okz)
 have HOk := Lib.hid hok
 rw [show encD u = .agg (vs u).toArray from rfl] at hlk ⊢
 have X1 : Below w.heap.size w (w.alloc (.cells (vs dgZ).toArray 40)) := below1_ w _
 have c0 : (w.alloc (.cells (vs dgZ).toArray 40)).cell? ⟨g, 0, none⟩ = some (.map (some gv)) := (h.box.through X1).cellAt rfl
 have hlk1 := hlk _ (h.vm.through X1)
 have H4 : Hid (Blk ((w.alloc (.cells (vs dgZ).toArray 40)).alloc (.cells (vs dgZ).toArray 40)) w.heap.size 40 (vs dgZ)) := Lib.hid ((Blk.fresh rfl rfl).alloc _)
 have H6 : Hid (Blk ((w.alloc (.cells (vs dgZ).toArray 40)).alloc (.cells (vs dgZ).toArray 40)) (w.heap.size + 1) 40 (vs dgZ)) := Lib.hid (Blk.fresh (by simp) rfl)
 have HX : Hid (Below w.heap.size w ((w.alloc (.cells (vs dgZ).toArray 40)).alloc (.cells (vs dgZ).toArray 40))) := Lib.hid (below_step X1 (below1_ _ _))
 clear h hlk hok X1
 go_enter Try.func29, Try.ntmps29
 go_wp2_with (first
  | (refine wpList_store_blk rfl 40 (.tmp 6) (.tmp 20) rfl (w.heap.size + 1) (vs u) rfl rfl 40 (vs dgZ) H6.out (by rw [HUl.out]; kernel_rfl) (HZl.out.trans HUl.out.symm) (D_one u) ?_; intro wa hba hga; have HBa := Lib.hid hba; have H4a := Lib.hid (H4.out.grown hga (fun e => by have := Option.some.inj e; omega)); have HXa : Hid (Below w.heap.size w wa) := Lib.hid (HX.out.grown hga HX.out.size (fun b hb => by have := Option.some.inj hb; omega)); clear hba hga)
  | (refine wpList_load_blk rfl 40 (.tmp 6) rfl (w.heap.size + 1) rfl 40 (vs u) _ HBa.out Try.underlying40 rfl (by rw [HUl.out]; kernel_rfl) ?_)
  | (refine wpList_store_blk rfl 40 (.tmp 4) (.tmp 22) rfl w.heap.size (vs u) rfl rfl 40 (vs dgZ) H4a.out (by rw [HUl.out]; kernel_rfl) (HZl.out.trans HUl.out.symm) (D_one u) ?_; intro wb hbb hgb; have HBb := Lib.hid hbb; have HXb : Hid (Below w.heap.size w wb) := Lib.hid (HXa.out.grown hgb HXa.out.size (fun b hb => by have := Option.some.inj hb; omega)); clear hbb hgb))
 (try simp only [Exit.inBlock, Exit.then]); refine bodyPost_ret (results_cell_row_tmp1 rfl _ _ w.heap.size 40 _ (0, 0) _ rfl HBb.out Try.underlying40 rfl (by rw [List.size_toArray, HUl.out]; kernel_rfl)) rfl ?_
 exact ⟨rfl, HXb.out⟩
set_option maxHeartbeats 16000000 in
set_option maxRecDepth 100000 in
theorem change_D {w : World} {g gv gc : Nat} {M : List (Int × (List UInt8))} (who : Int) (k : (List UInt8)) (h : TlR 76 encD okD w g gv gc M) (hk : okD k) (hm : M.length ≤ 100000) :
  Calls Try.prog 42 #[(.pointer (some ⟨g, 0, none⟩)), .int .i64 who, encD k] w fun e w' => e = .returned (.tuple #[]) ∧ TlR 76 encD okD w' g gv gc (putM who k M) ∧ Ft (D3 g gv gc) w w' := by
 have hz : ∀ W, (zeroValue 40).run Try.prog W = .ok (.agg (vs dgZ).toArray) W := fun W => Try.zero_d W
 have HKk := Lib.hid hk
 have HKl : Hid ((vs k).length = 32) := Lib.hid (D_len k hk)
 have HZl : Hid ((vs dgZ).length = 32) := Lib.hid (D_len _ D_okz)
 have HNE : Hid (¬ g = gc) := Lib.hid (cm_ne h.box h.cm)
 have HNG : Hid (g ≠ gv) := Lib.hid (vm_ne h.box h.vm)
 have HNV : Hid (¬ gv = gc) := Lib.hid h.ne
 have HNB : Hid (¬ w.heap.size = gc) := Lib.hid (by have := h.cm.lt; omega)
 have HNW : Hid (w.heap.size ≠ gv) := Lib.hid (by have := h.vm.lt; omega)
 have HND := Lib.hid h.nd
 have HGw := Lib.hid h.box
 have HVw := Lib.hid h.vm
 have HCw := Lib.hid h.cm
 have X1 : Hid (Below w.heap.size w (w.alloc (.cells (vs k).toArray 40))) := Lib.hid (below1_ w _)
 have HB0 : Hid (Blk ((w.alloc (.cells (vs k).toArray 40)).alloc (.cells (vs dgZ).toArray 40)) w.heap.size 40 (vs k)) := Lib.hid ((Blk.fresh rfl rfl).alloc _)
 have H6 : Hid (Blk ((w.alloc (.cells (vs k).toArray 40)).alloc (.cells (vs dgZ).toArray 40)) (w.heap.size + 1) 40 (vs dgZ)) := Lib.hid (Blk.fresh (by simp) rfl)
 have HX : Hid (Below w.heap.size w ((w.alloc (.cells (vs k).toArray 40)).alloc (.cells (vs dgZ).toArray 40))) := Lib.hid (below_step X1.out (below1_ _ _))
 have hcb : ∀ q, (0 : Int) ≤ (cntM q M : Int) ∧ (cntM q M : Int) ≤ 100000 := fun q => ⟨by omega, by have := cnt_le q M; omega⟩
 rw [show encD k = .agg (vs k).toArray from rfl]
 cases hgm : getM who M with
 | none =>
  obtain ⟨u, hu⟩ : ∃ u, u = dgZ := ⟨_, rfl⟩
  have HUk : Hid (okD u) := Lib.hid (by rw [hu]; exact D_okz)
  have HUe := Lib.hid hu
  have HCn := Lib.hid (cnt_new (k := k) hgm)
  have HB1 : Hid (-1000000 ≤ (cntM k M : Int) ∧ (cntM k M : Int) ≤ 1000000) := Lib.hid (by have := hcb k; omega)
  clear h hk hm hcb hu
  have HUl : Hid ((vs u).length = 32) := Lib.hid (D_len u HUk.out)
  have c0 : (w.alloc (.cells (vs k).toArray 40)).cell? ⟨g, 0, none⟩ = some (.map (some gv)) := (HGw.out.through X1.out).cellAt rfl
  have hlk1 : (Instr.lookup 73 (.map (some gv)) (.int .i64 who) true).run Try.prog (w.alloc (.cells (vs k).toArray 40)) = .ok (.tuple #[.agg (vs u).toArray, .bool false]) (w.alloc (.cells (vs k).toArray 40)) := by
   have h9 := (HVw.out.through X1.out).look Try.key_int Try.underlying73 who (Try.zero_d _)
   rw [hgm] at h9
   rw [HUe.out]; exact h9
  have hmn := fun W => Try.mv_nilD gv W
  clear hgm
  go_enter Try.func42, Try.ntmps42
  go_upto_region 7 with (first | (refine wpList_store_blk rfl 40 (.tmp 6) (.tmp 27) rfl (w.heap.size + 1) (vs u) rfl rfl 40 (vs dgZ) H6.out (by rw [HUl.out]; kernel_rfl) (HZl.out.trans HUl.out.symm) (D_one u) ?_; intro wa hba hga; have HBa6 := Lib.hid hba; have HBwa := Lib.hid (HB0.out.grown hga (fun e => by have := Option.some.inj e; omega)); have HX9 := hga; have HXa : Hid (Below w.heap.size w wa) := Lib.hid (HX.out.grown hga HX.out.size (fun b hb => by have := Option.some.inj hb; omega)); have HGwa := Lib.hid (HGw.out.through HXa.out); have HVwa := Lib.hid (HVw.out.through HXa.out); have HCwa := Lib.hid (HCw.out.through HXa.out); have HFwa : Hid (Ft (D3 g gv gc) w wa) := Lib.hid (Ft.of_below HXa.out); clear HX9 hba hga))
  refine wp_region_held_drew (S := fun W => Blk W g 76 [.map (some gv), .map (some gc)] ∧ Blk W w.heap.size 40 (vs k)) (by kernel_rfl) ⟨HGwa.out.drew, HBwa.out.drew⟩ (fun hHeld => ?_)
  change wpAnyH _ _ _ _ _ _ #[false, false, false, false, false, false, false] _ _
  refine tkq (i := 0) (d := 33) (v := (.pointer (some ⟨g, 0, none⟩))) rfl rfl (Or.inl ⟨by kernel_rfl, fun w hSw => ?_⟩) (by assumption) ?_
  ·(try dsimp only at hSw); go_simp <;> (try rfl)
  simp only [Act.put, sq1, sq2, sq3]
  refine tkq (i := 1) (d := 34) (v := (.pointer (some ⟨g, 0, none⟩))) rfl rfl (Or.inl ⟨by kernel_rfl, fun w hSw => ?_⟩) (by assumption) ?_
  ·(try dsimp only at hSw); go_simp <;> (try rfl)
  simp only [Act.put, sq1, sq2, sq3]
  refine tkq (i := 2) (d := 35) (v := (.pointer (some ⟨g, 0, none⟩))) rfl rfl (Or.inl ⟨by kernel_rfl, fun w hSw => ?_⟩) (by assumption) ?_
  ·(try dsimp only at hSw); go_simp <;> (try rfl)
  simp only [Act.put, sq1, sq2, sq3]
  refine tkq (i := 3) (d := 36) (v := (.map (some gv))) rfl rfl (yields_load_at (by kernel_rfl) 73 (.tmp 35) rfl (.pointer (some ⟨g, 0, none⟩)) (by simp [Act.eval]) (.map (some gv)) (fun W hW => load_one' (Try.agg_mvD W) (Blk.cellAt hW.1 rfl))) (by assumption) ?_
  simp only [Act.put, sq1, sq2, sq3]
  refine tkq (i := 4) (d := 37) (v := (.int .i64 who)) rfl rfl (Or.inl ⟨by kernel_rfl, fun w hSw => ?_⟩) (by assumption) ?_
  ·(try dsimp only at hSw); go_simp <;> (try rfl)
  simp only [Act.put, sq1, sq2, sq3]
  refine tkq (i := 5) (d := 38) (v := (.agg (vs k).toArray)) rfl rfl (yieldsIf_load_mid (by kernel_rfl) 40 (.tmp 5) rfl w.heap.size 0 (by simp [Act.eval]) (vs k) _ (fun W hW => Blk.range (pre := []) (post := []) (by simpa using hW.2)) Try.underlying40 rfl (by rw [HKl.out]; kernel_rfl)) (by assumption) ?_
  simp only [Act.put, sq1, sq2, sq3]
  refine wpAnyH_ready (rs := [6]) (by kernel_rfl) (by simp) ?_
  refine AllReadyH.cons (o := ⟨none, .mapUpdate 73 (.tmp 36) (.tmp 37) (.tmp 38), _, _, _, none⟩) rfl (fun K hK => ?_) AllReadyH.nil
  obtain ⟨u6, hr6, hv6, hg6⟩ := (VMp.keep HVwa.out (W' := wa.drew) rfl).upd Try.key_int Try.underlying73 who HKk.out; refine step_upd (by kernel_rfl) 73 (.tmp 36) (.tmp 37) (.tmp 38) rfl (.map (some gv)) (.int .i64 who) (.agg (vs k).toArray) (by simp [Act.eval]) (by simp [Act.eval]) (by simp [Act.eval]) u6 hr6 ?_; have HVu6 := Lib.hid hv6; have HGu6 := Lib.hid (HGwa.out.drew.grown hg6 (fun e => HNG.out (Option.some.inj e))); have HBu6 := Lib.hid (HBwa.out.drew.grown hg6 (fun e => HNW.out (Option.some.inj e))); have HCu6 := Lib.hid ((CMp.keep HCwa.out (W' := wa.drew) rfl).keep (hg6.block gc HCwa.out.lt (fun e => HNV.out (Option.some.inj e).symm))); have HFu6 : Hid (Ft (D3 g gv gc) w u6) := Lib.hid ((HFwa.out.deep (Below.refl _ wa).drew).trans (D' := D3 g gv gc) (Ft.of_grown hg6 (fun b hb => .inl (.inr (.inl (Option.some.inj hb).symm)))) (fun q hq => .inl hq)); clear hr6 hv6 hg6
  refine hK.out _ _ ⟨HGu6.out, HBu6.out⟩ (fun hHeld1 => ?_)
  clear hHeld hK K
  have hHeld := hHeld1
  clear hHeld1
  change wpAnyH _ _ _ _ _ _ _ (Act.put _ none undef) _
  simp only [Act.put]
  refine wpAnyH_done (by kernel_rfl) ?_ _
  go_wp2_with (first
   | (refine wpList_load_blk rfl 40 (.tmp 5) rfl w.heap.size rfl 40 (vs k) _ HBu6.out Try.underlying40 rfl (by rw [HKl.out]; kernel_rfl) ?_)
   | (go_at_call 50; (with_reducible refine (count_D g gc (.map (some gv)) (fun q => (cntM q M : Int)) k 1 u6 HGu6.out HCu6.out HKk.out (HB1.out).1 (HB1.out).2 (.inl rfl)).mono ?_); rintro e w8 ⟨rfl, hc9, hf9⟩; have HCw8 : Hid (CMp encD okD w8 gc (upd (fun q => (cntM q M : Int)) k ((fun q => (cntM q M : Int)) k + 1))) := Lib.hid hc9; have HGw8 := Lib.hid (hf9.blk HGu6.out HNE.out); have HBw8 := Lib.hid (hf9.blk HBu6.out HNB.out); have HVw8 := Lib.hid (HVu6.out.keep (hf9.block gv HVu6.out.lt HNV.out)); have HFw8 : Hid (Ft (D3 g gv gc) w w8) := Lib.hid (HFu6.out.trans hf9 (fun q hq => .inl (.inr (.inr hq)))); clear hc9 hf9))
  go_end0
  exact ⟨rfl, ⟨HGw8.out, HVw8.out, HCw8.out.congr HCn.out, HNV.out, nodup_putM HND.out⟩, HFw8.out⟩
 | some u =>
  have HUk : Hid (okD u) := Lib.hid (h.vm.2 _ (get_memM hgm))
  obtain ⟨f1, hf1⟩ : ∃ f1, f1 = upd (fun q => (cntM q M : Int)) u ((cntM u M : Int) + -1) := ⟨_, rfl⟩
  have HCn := Lib.hid (cnt_old (k := k) hgm f1 hf1)
  have HBu : Hid (-1000000 ≤ (cntM u M : Int) ∧ (cntM u M : Int) ≤ 1000000) := Lib.hid (by have := hcb u; omega)
  have HB1 : Hid (-1000000 ≤ f1 k ∧ f1 k ≤ 1000000) := Lib.hid (by
   have h1 := hcb k
   have h2 := hcb u
   rw [hf1]
   unfold upd
   simp only
   split <;> omega)
  have HF1e := Lib.hid hf1
  clear h hk hm hcb hf1
  have HUl : Hid ((vs u).length = 32) := Lib.hid (D_len u HUk.out)
  have c0 : (w.alloc (.cells (vs k).toArray 40)).cell? ⟨g, 0, none⟩ = some (.map (some gv)) := (HGw.out.through X1.out).cellAt rfl
  have hlk1 : (Instr.lookup 73 (.map (some gv)) (.int .i64 who) true).run Try.prog (w.alloc (.cells (vs k).toArray 40)) = .ok (.tuple #[.agg (vs u).toArray, .bool true]) (w.alloc (.cells (vs k).toArray 40)) := by
   have h9 := (HVw.out.through X1.out).look Try.key_int Try.underlying73 who (Try.zero_d _)
   rw [hgm] at h9
   exact h9
  have hmn := fun W => Try.mv_nilD gv W
  clear hgm
  go_enter Try.func42, Try.ntmps42
  go_upto_region 7 with (first | (refine wpList_store_blk rfl 40 (.tmp 6) (.tmp 27) rfl (w.heap.size + 1) (vs u) rfl rfl 40 (vs dgZ) H6.out (by rw [HUl.out]; kernel_rfl) (HZl.out.trans HUl.out.symm) (D_one u) ?_; intro wa hba hga; have HBa6 := Lib.hid hba; have HBwa := Lib.hid (HB0.out.grown hga (fun e => by have := Option.some.inj e; omega)); have HX9 := hga; have HXa : Hid (Below w.heap.size w wa) := Lib.hid (HX.out.grown hga HX.out.size (fun b hb => by have := Option.some.inj hb; omega)); have HGwa := Lib.hid (HGw.out.through HXa.out); have HVwa := Lib.hid (HVw.out.through HXa.out); have HCwa := Lib.hid (HCw.out.through HXa.out); have HFwa : Hid (Ft (D3 g gv gc) w wa) := Lib.hid (Ft.of_below HXa.out); clear HX9 hba hga) | (refine wpList_load_blk rfl 40 (.tmp 6) rfl (w.heap.size + 1) rfl 40 (vs u) _ HBa6.out Try.underlying40 rfl (by rw [HUl.out]; kernel_rfl) ?_) | (go_at_call 50; (with_reducible refine (count_D g gc (.map (some gv)) (fun q => (cntM q M : Int)) u (-1) wa HGwa.out HCwa.out HUk.out HBu.out.1 HBu.out.2 (.inr rfl)).mono ?_); rintro e w6 ⟨rfl, hc9, hf9⟩; have HCw6 : Hid (CMp encD okD w6 gc f1) := Lib.hid (by rw [HF1e.out]; exact hc9); have HGw6 := Lib.hid (hf9.blk HGwa.out HNE.out); have HBw6 := Lib.hid (hf9.blk HBwa.out HNB.out); have HVw6 := Lib.hid (HVwa.out.keep (hf9.block gv HVwa.out.lt HNV.out)); have HFw6 : Hid (Ft (D3 g gv gc) w w6) := Lib.hid (HFwa.out.trans hf9 (fun q hq => .inl (.inr (.inr hq)))); clear hc9 hf9))
  refine wp_region_held_drew (S := fun W => Blk W g 76 [.map (some gv), .map (some gc)] ∧ Blk W w.heap.size 40 (vs k)) (by kernel_rfl) ⟨HGw6.out.drew, HBw6.out.drew⟩ (fun hHeld => ?_)
  change wpAnyH _ _ _ _ _ _ #[false, false, false, false, false, false, false] _ _
  refine tkq (i := 0) (d := 33) (v := (.pointer (some ⟨g, 0, none⟩))) rfl rfl (Or.inl ⟨by kernel_rfl, fun w hSw => ?_⟩) (by assumption) ?_
  ·(try dsimp only at hSw); go_simp <;> (try rfl)
  simp only [Act.put, sq1, sq2, sq3]
  refine tkq (i := 1) (d := 34) (v := (.pointer (some ⟨g, 0, none⟩))) rfl rfl (Or.inl ⟨by kernel_rfl, fun w hSw => ?_⟩) (by assumption) ?_
  ·(try dsimp only at hSw); go_simp <;> (try rfl)
  simp only [Act.put, sq1, sq2, sq3]
  refine tkq (i := 2) (d := 35) (v := (.pointer (some ⟨g, 0, none⟩))) rfl rfl (Or.inl ⟨by kernel_rfl, fun w hSw => ?_⟩) (by assumption) ?_
  ·(try dsimp only at hSw); go_simp <;> (try rfl)
  simp only [Act.put, sq1, sq2, sq3]
  refine tkq (i := 3) (d := 36) (v := (.map (some gv))) rfl rfl (yields_load_at (by kernel_rfl) 73 (.tmp 35) rfl (.pointer (some ⟨g, 0, none⟩)) (by simp [Act.eval]) (.map (some gv)) (fun W hW => load_one' (Try.agg_mvD W) (Blk.cellAt hW.1 rfl))) (by assumption) ?_
  simp only [Act.put, sq1, sq2, sq3]
  refine tkq (i := 4) (d := 37) (v := (.int .i64 who)) rfl rfl (Or.inl ⟨by kernel_rfl, fun w hSw => ?_⟩) (by assumption) ?_
  ·(try dsimp only at hSw); go_simp <;> (try rfl)
  simp only [Act.put, sq1, sq2, sq3]
  refine tkq (i := 5) (d := 38) (v := (.agg (vs k).toArray)) rfl rfl (yieldsIf_load_mid (by kernel_rfl) 40 (.tmp 5) rfl w.heap.size 0 (by simp [Act.eval]) (vs k) _ (fun W hW => Blk.range (pre := []) (post := []) (by simpa using hW.2)) Try.underlying40 rfl (by rw [HKl.out]; kernel_rfl)) (by assumption) ?_
  simp only [Act.put, sq1, sq2, sq3]
  refine wpAnyH_ready (rs := [6]) (by kernel_rfl) (by simp) ?_
  refine AllReadyH.cons (o := ⟨none, .mapUpdate 73 (.tmp 36) (.tmp 37) (.tmp 38), _, _, _, none⟩) rfl (fun K hK => ?_) AllReadyH.nil
  obtain ⟨u6, hr6, hv6, hg6⟩ := (VMp.keep HVw6.out (W' := w6.drew) rfl).upd Try.key_int Try.underlying73 who HKk.out; refine step_upd (by kernel_rfl) 73 (.tmp 36) (.tmp 37) (.tmp 38) rfl (.map (some gv)) (.int .i64 who) (.agg (vs k).toArray) (by simp [Act.eval]) (by simp [Act.eval]) (by simp [Act.eval]) u6 hr6 ?_; have HVu6 := Lib.hid hv6; have HGu6 := Lib.hid (HGw6.out.drew.grown hg6 (fun e => HNG.out (Option.some.inj e))); have HBu6 := Lib.hid (HBw6.out.drew.grown hg6 (fun e => HNW.out (Option.some.inj e))); have HCu6 := Lib.hid ((CMp.keep HCw6.out (W' := w6.drew) rfl).keep (hg6.block gc HCw6.out.lt (fun e => HNV.out (Option.some.inj e).symm))); have HFu6 : Hid (Ft (D3 g gv gc) w u6) := Lib.hid ((HFw6.out.deep (Below.refl _ w6).drew).trans (D' := D3 g gv gc) (Ft.of_grown hg6 (fun b hb => .inl (.inr (.inl (Option.some.inj hb).symm)))) (fun q hq => .inl hq)); clear hr6 hv6 hg6
  refine hK.out _ _ ⟨HGu6.out, HBu6.out⟩ (fun hHeld1 => ?_)
  clear hHeld hK K
  have hHeld := hHeld1
  clear hHeld1
  change wpAnyH _ _ _ _ _ _ _ (Act.put _ none undef) _
  simp only [Act.put]
  refine wpAnyH_done (by kernel_rfl) ?_ _
  go_wp2_with (first
   | (refine wpList_load_blk rfl 40 (.tmp 5) rfl w.heap.size rfl 40 (vs k) _ HBu6.out Try.underlying40 rfl (by rw [HKl.out]; kernel_rfl) ?_)
   | (go_at_call 50; (with_reducible refine (count_D g gc (.map (some gv)) f1 k 1 u6 HGu6.out HCu6.out HKk.out (HB1.out).1 (HB1.out).2 (.inl rfl)).mono ?_); rintro e w8 ⟨rfl, hc9, hf9⟩; have HCw8 : Hid (CMp encD okD w8 gc (upd f1 k (f1 k + 1))) := Lib.hid hc9; have HGw8 := Lib.hid (hf9.blk HGu6.out HNE.out); have HBw8 := Lib.hid (hf9.blk HBu6.out HNB.out); have HVw8 := Lib.hid (HVu6.out.keep (hf9.block gv HVu6.out.lt HNV.out)); have HFw8 : Hid (Ft (D3 g gv gc) w w8) := Lib.hid (HFu6.out.trans hf9 (fun q hq => .inl (.inr (.inr hq)))); clear hc9 hf9))
  go_end0
  exact ⟨rfl, ⟨HGw8.out, HVw8.out, HCw8.out.congr HCn.out, HNV.out, nodup_putM HND.out⟩, HFw8.out⟩
set_option maxHeartbeats 16000000 in
set_option maxRecDepth 100000 in
theorem add_D {w : World} {g gv gc : Nat} {M : List (Int × (List UInt8))} (who : Int) (k : (List UInt8)) (h : TlR 76 encD okD w g gv gc M) (hk : okD k) (hm : M.length ≤ 100000) :
  Calls Try.prog 30 #[(.pointer (some ⟨g, 0, none⟩)), .int .i64 who, encD k] w fun e w' => e = .returned (.bool (addB who k M)) ∧ TlR 76 encD okD w' g gv gc (addM who k M) ∧ Ft (D3 g gv gc) w w' := by
 have hz : ∀ W, (zeroValue 40).run Try.prog W = .ok (.agg (vs dgZ).toArray) W := fun W => Try.zero_d W
 have HKk := Lib.hid hk
 have HMl := Lib.hid hm
 have HKl : Hid ((vs k).length = 32) := Lib.hid (D_len k hk)
 have HZl : Hid ((vs dgZ).length = 32) := Lib.hid (D_len _ D_okz)
 have X1 := below1_ w (.cells (vs k).toArray 40)
 have HTw := Lib.hid (h.through X1)
 have HBw : Hid (Blk (w.alloc (.cells (vs k).toArray 40)) w.heap.size 40 (vs k)) := Lib.hid (Blk.fresh rfl rfl)
 have HFw : Hid (Ft (D3 g gv gc) w (w.alloc (.cells (vs k).toArray 40))) := Lib.hid (Ft.of_below X1)
 rw [show encD k = .agg (vs k).toArray from rfl]
 unfold addB addM
 have HND3 : Hid (¬ D3 g gv gc w.heap.size) := Lib.hid (fun h9 => Nat.lt_irrefl _ (h.lt _ h9))
 cases hgm : getM who M with
 | none =>
  have HGm := Lib.hid hgm
  have hgp : getM who (putM who k M) = some k := by rw [get_putM, if_pos rfl]
  have HGp := Lib.hid hgp
  simp only
  clear h hk hm hgm hgp X1
  go_enter Try.func30, Try.ntmps30
  go_wp2_with (first
   | (go_at_call 29; (with_reducible refine (of_D who HTw.out).mono ?_); rintro e w1 ⟨rfl, hb9⟩; have HTw1 := Lib.hid (HTw.out.through hb9); have HBw1 := Lib.hid (HBw.out.through hb9); have HFw1 : Hid (Ft (D3 g gv gc) w w1) := Lib.hid (HFw.out.deep hb9); clear hb9; (try rw [HGm.out]); (try simp only [Option.getD_none, Option.isSome_none]); (try rw [show encD dgZ = .agg (vs dgZ).toArray from rfl]))
   | (refine wpList_store_blk rfl 40 (.tmp 7) (.tmp 15) rfl w1.heap.size (vs dgZ) rfl rfl 40 (vs dgZ) (Blk.fresh rfl rfl) (by rw [HZl.out]; kernel_rfl) (HZl.out.trans HZl.out.symm) (D_one dgZ) ?_; intro wa hb9 hg9; have HB9wa := Lib.hid hb9; have HN9 := below_new hg9; have HTwa := Lib.hid (HTw1.out.through HN9); have HBwa := Lib.hid (HBw1.out.through HN9); have HFwa : Hid (Ft (D3 g gv gc) w wa) := Lib.hid (HFw1.out.deep HN9); clear hb9 hg9 HN9)
   | (refine wpList_load_blk rfl 40 (.tmp 5) rfl w.heap.size rfl 40 (vs k) _ HBwa.out Try.underlying40 rfl (by rw [HKl.out]; kernel_rfl) ?_)
   | (go_at_call 42; (with_reducible refine (change_D who k HTwa.out HKk.out HMl.out).mono ?_); rintro e w2 ⟨rfl, ht9, hf9⟩; have HTw2 := Lib.hid ht9; have HBw2 := Lib.hid (hf9.blk HBwa.out HND3.out); have HFw2 : Hid (Ft (D3 g gv gc) w w2) := Lib.hid (HFwa.out.trans hf9 (fun q hq => .inl hq)); clear ht9 hf9)
   | (go_at_call 29; (with_reducible refine (of_D who HTw2.out).mono ?_); rintro e w3 ⟨rfl, hb9⟩; have HTw3 := Lib.hid (HTw2.out.through hb9); have HBw3 := Lib.hid (HBw2.out.through hb9); have HFw3 : Hid (Ft (D3 g gv gc) w w3) := Lib.hid (HFw2.out.deep hb9); clear hb9; rw [HGp.out]; (try simp only [Option.getD_some, Option.isSome_some]); (try rw [show encD k = .agg (vs k).toArray from rfl]))
   | (refine wpList_store_blk rfl 40 (.tmp 9) (.tmp 27) rfl w3.heap.size (vs k) rfl rfl 40 (vs dgZ) (Blk.fresh rfl rfl) (by rw [HKl.out]; kernel_rfl) (HZl.out.trans HKl.out.symm) (D_one k) ?_; intro wc hb9 hg9; have HB9wc := Lib.hid hb9; have HN9 := below_new hg9; have HTwc := Lib.hid (HTw3.out.through HN9); have HBwc := Lib.hid (HBw3.out.through HN9); have HFwc : Hid (Ft (D3 g gv gc) w wc) := Lib.hid (HFw3.out.deep HN9); clear hb9 hg9 HN9)
   | (refine wpList_load_blk_g 40 (.tmp 9) rfl (by kernel_rfl) w3.heap.size rfl 40 (vs k) _ HB9wc.out Try.underlying40 rfl (by rw [HKl.out]; kernel_rfl) ?_)
   | (refine wpList_load_blk_g 40 (.tmp 5) rfl (by kernel_rfl) w.heap.size rfl 40 (vs k) _ HBwc.out Try.underlying40 rfl (by rw [HKl.out]; kernel_rfl) ?_)
   | (go_at_call 43; (with_reducible refine (same_D k k HKk.out HKk.out _).mono ?_); rintro e w4 ⟨rfl, hb9⟩; have HTw4 := Lib.hid (HTwc.out.through hb9); have HFw4 : Hid (Ft (D3 g gv gc) w w4) := Lib.hid (HFwc.out.deep hb9); clear hb9; (try simp only [decide_true])))
  go_ret
  exact ⟨rfl, HTw4.out, HFw4.out⟩
 | some o =>
  have HGm := Lib.hid hgm
  have HOo : Hid (okD o) := Lib.hid (h.vm.2 _ (get_memM hgm))
  have HOl : Hid ((vs o).length = 32) := Lib.hid (D_len o HOo.out)
  simp only
  obtain ⟨bb, hbb⟩ : ∃ bb, decide (o = k) = bb := ⟨_, rfl⟩
  rw [hbb]
  have HBb := Lib.hid hbb
  clear h hk hm hgm X1 hbb
  go_enter Try.func30, Try.ntmps30
  go_wp2_with (first
   | (go_at_call 29; (with_reducible refine (of_D who HTw.out).mono ?_); rintro e w1 ⟨rfl, hb9⟩; have HTw1 := Lib.hid (HTw.out.through hb9); have HBw1 := Lib.hid (HBw.out.through hb9); have HFw1 : Hid (Ft (D3 g gv gc) w w1) := Lib.hid (HFw.out.deep hb9); clear hb9; rw [HGm.out]; (try simp only [Option.getD_some, Option.isSome_some]); (try rw [show encD o = .agg (vs o).toArray from rfl]))
   | (refine wpList_store_blk rfl 40 (.tmp 7) (.tmp 15) rfl w1.heap.size (vs o) rfl rfl 40 (vs dgZ) (Blk.fresh rfl rfl) (by rw [HOl.out]; kernel_rfl) (HZl.out.trans HOl.out.symm) (D_one o) ?_; intro wa hb9 hg9; have HB9wa := Lib.hid hb9; have HN9 := below_new hg9; have HTwa := Lib.hid (HTw1.out.through HN9); have HBwa := Lib.hid (HBw1.out.through HN9); have HFwa : Hid (Ft (D3 g gv gc) w wa) := Lib.hid (HFw1.out.deep HN9); clear hb9 hg9 HN9)
   | (go_at_call 29; (with_reducible refine (of_D who HTwa.out).mono ?_); rintro e w3 ⟨rfl, hb9⟩; have HTw3 := Lib.hid (HTwa.out.through hb9); have HBw3 := Lib.hid (HBwa.out.through hb9); have HFw3 : Hid (Ft (D3 g gv gc) w w3) := Lib.hid (HFwa.out.deep hb9); clear hb9; rw [HGm.out]; (try simp only [Option.getD_some, Option.isSome_some]); (try rw [show encD o = .agg (vs o).toArray from rfl]))
   | (refine wpList_store_blk rfl 40 (.tmp 9) (.tmp 27) rfl w3.heap.size (vs o) rfl rfl 40 (vs dgZ) (Blk.fresh rfl rfl) (by rw [HOl.out]; kernel_rfl) (HZl.out.trans HOl.out.symm) (D_one o) ?_; intro wc hb9 hg9; have HB9wc := Lib.hid hb9; have HN9 := below_new hg9; have HTwc := Lib.hid (HTw3.out.through HN9); have HBwc := Lib.hid (HBw3.out.through HN9); have HFwc : Hid (Ft (D3 g gv gc) w wc) := Lib.hid (HFw3.out.deep HN9); clear hb9 hg9 HN9)
   | (refine wpList_load_blk_g 40 (.tmp 9) rfl (by kernel_rfl) w3.heap.size rfl 40 (vs o) _ HB9wc.out Try.underlying40 rfl (by rw [HOl.out]; kernel_rfl) ?_)
   | (refine wpList_load_blk_g 40 (.tmp 5) rfl (by kernel_rfl) w.heap.size rfl 40 (vs k) _ HBwc.out Try.underlying40 rfl (by rw [HKl.out]; kernel_rfl) ?_)
   | (go_at_call 43; (with_reducible refine (same_D o k HOo.out HKk.out _).mono ?_); rintro e w4 ⟨rfl, hb9⟩; have HTw4 := Lib.hid (HTwc.out.through hb9); have HFw4 : Hid (Ft (D3 g gv gc) w w4) := Lib.hid (HFwc.out.deep hb9); clear hb9; rw [HBb.out]))
  go_ret
  exact ⟨rfl, HTw4.out, HFw4.out⟩

end Go.Proofs.Ytponmfkddglopaa
