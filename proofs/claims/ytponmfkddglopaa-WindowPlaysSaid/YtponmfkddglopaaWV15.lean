/-
  Joined: SlV.
-/
import Derived.Deep.RegionHeld
import Derived.Deep.CutBlock
import Derived.Test.YtponmfkddglopaaWV13
import Derived.Test.YtponmfkddglopaaWVT
namespace Go.Proofs.Ytponmfkddglopaa
open Go.RowKit

set_option maxHeartbeats 16000000 in
set_option maxRecDepth 100000 in
theorem rvote_any_ (l : Wl) (n who : Int) (d : List UInt8) (R : Nat) (cs : List Value) (A : Option Addr) (k c : Nat) (w : World) (h : WdIn w A k l) (hk : k ≤ 100000) (hd : d.length = 32) (hR : Blk w R 57 (.int .i64 n :: cs)) :
  Calls Try.prog 25 #[.pointer (some ⟨R, 0, none⟩), .slice A k c, .int .i64 who, .agg (vs d).toArray] w fun e w' => ∃ (A2 : Option Addr) (n2 c2 : Nat), e = .returned (.tuple #[.slice A2 n2 c2, .int .i64 (voteE n l who d)]) ∧ Below w.heap.size w w' ∧ ((voteE n l who d ≠ 0 ∧ A2 = A ∧ n2 = k ∧ c2 = c) ∨ (voteE n l who d = 0 ∧ OWd w' w.heap.size (.slice A2 n2 c2) (l ++ [(who, d)]))) := by
 have HI := Lib.hid h
 have HLn := Lib.hid h.len
 have HKk := Lib.hid hk
 have HVd : Hid ((vs d).length = 32) := Lib.hid (by simpa [vs] using hd)
 have HDd := Lib.hid hd
 have HD0 : Hid (Blk (w.alloc (.cells (vs d).toArray 40)) w.heap.size 40 (vs d)) := Lib.hid (Blk.fresh rfl rfl)
 have HX0 : Hid (Below w.heap.size w (w.alloc (.cells (vs d).toArray 40))) := Lib.hid (below1_ w _)
 have HEl : Hid ((wdC (who, d)).length = 33) := Lib.hid (wdC_len (who, d) hd)
 have cN := (hR.through (below1_ w (.cells (vs d).toArray 40))).cellAt (i := 0) rfl
 obtain ⟨q, hq⟩ : ∃ q, saidW l who d = q := ⟨_, rfl⟩
 have HQ0 : Hid (saidW (l.drop 0) who d = q) := Lib.hid (by rw [List.drop_zero]; exact hq)
 unfold voteE
 rw [hq]
 clear h hd hR
 by_cases hout : who < 0 ∨ n ≤ who
 ·rw [if_pos hout]
  by_cases ha : who < 0
  ·go_enter Try.func25, Try.ntmps25
   go_wp2
   (try simp only [Exit.inBlock, Exit.then]); refine bodyPost_ret (results_tmp2 rfl _ _ _) rfl ?_
   exact ⟨A, k, c, rfl, HX0.out, by first | exact .inl ⟨by decide, rfl, rfl, rfl⟩ | exact ⟨rfl, rfl, rfl⟩ | simp⟩
  ·have hb : n ≤ who := by omega
   go_enter Try.func25, Try.ntmps25
   go_wp2
   (try simp only [Exit.inBlock, Exit.then]); refine bodyPost_ret (results_tmp2 rfl _ _ _) rfl ?_
   exact ⟨A, k, c, rfl, HX0.out, by first | exact .inl ⟨by decide, rfl, rfl, rfl⟩ | exact ⟨rfl, rfl, rfl⟩ | simp⟩
 rw [if_neg hout]
 have ha : ¬ who < 0 := fun h9 => hout (.inl h9)
 have hb : ¬ n ≤ who := fun h9 => hout (.inr h9)
 clear hout hq
 go_enter Try.func25, Try.ntmps25
 go_wp2
 clear cN
 go_loopw [25] (fun iv wr => ∃ i : Nat, i ≤ k ∧ iv = .int .i64 (i : Int) ∧ saidW (l.drop i) who d = q ∧ Blk wr w.heap.size 40 (vs d) ∧ Below w.heap.size w wr) (fun iv _ => k - (intOf iv).toNat)
 case atStart => exact ⟨0, Nat.zero_le _, rfl, HQ0.out, HD0.out, HX0.out⟩
 case round =>
  obtain ⟨i, hi, rfl, hp, hbd, hx⟩ := hrel
  have HX := Lib.hid hx
  have HD := Lib.hid hbd
  clear hx hbd
  by_cases hlt : i < k
  ·obtain ⟨g, o, x, rfl, _, hmem, hdr, hxl, hrx⟩ := (HI.out.through HX.out).at hlt
   have HRx := Lib.hid hrx
   have HXl : Hid ((wdC x).length = 33) := Lib.hid (wdC_len x hxl)
   have HVl : Hid ((vs x.2).length = 32) := Lib.hid (by simpa [vs] using hxl)
   have hix := Try.ix_wd wr g o k c i hlt
   have hxeq := fun (W : World) => eq_dgy x.2 d hxl HDd.out W
   rw [hdr, saidW] at hp
   by_cases he : x.1 = who
   ·have hd1 : (x.1 == who) = true := by simpa using he
    rw [if_pos he] at hp
    by_cases hg : x.2 = d
    ·rw [if_pos hg] at hp
     have hd2 : (x.2 == d) = true := by simpa using hg
     rw [hd2] at hxeq
     have HQ := Lib.hid hp
     clear hp hdr hrx hxl he hmem hg hd2
     go_wp2_with (first
      | (refine wpList_load_mid rfl 72 (.tmp 27) rfl g (o + i * 33) rfl (wdC x) _ HRx.out Try.underlying72 rfl (by rw [HXl.out]; kernel_rfl) ?_)
      | (refine wpList_store_blk rfl 72 (.tmp 11) (.tmp 28) rfl wr.heap.size (wdC x) rfl rfl 72 (wdC (0, dgZ)) (Blk.fresh rfl rfl) (by rw [HXl.out]; kernel_rfl) (by rw [HXl.out]; rfl) (wdC_one x) ?_; simp only [Act.put]; intro wv hbv hgv; have HBx := Lib.hid hbv; have HXv : Hid (Below w.heap.size w wv) := Lib.hid (below_step HX.out (below_new hgv)); have HBd := Lib.hid (HD.out.through (below_new hgv)); have HNv := Lib.hid (below_new hgv); have k0 := HBx.out.cellAt (i := 0) rfl; have HRv : Hid (wv.rangeAt wr.heap.size 1 (vs x.2)) := Lib.hid (Blk.range (pre := [.int .i64 x.1]) (post := []) (by simpa [wdC] using HBx.out)); clear hbv hgv)
      | (refine wpList_load_mid_gs 40 (.tmp 34) rfl (by kernel_rfl) wr.heap.size 1 rfl (vs x.2) _ HRv.out Try.underlying40 rfl (by rw [HVl.out]; kernel_rfl) ?_)
      | (refine wpList_load_blk_g 40 (.tmp 7) rfl (by kernel_rfl) w.heap.size rfl 40 (vs d) _ HBd.out Try.underlying40 rfl (by rw [HVd.out]; kernel_rfl) ?_))
     (try simp only [Exit.inBlock, Exit.then]); refine bodyPost_ret (results_tmp2 rfl _ _ _) rfl ?_
     exact ⟨_, k, c, by rw [← HQ.out]; rfl, HXv.out, .inl ⟨by rw [← HQ.out]; decide, rfl, rfl, rfl⟩⟩
    ·rw [if_neg hg] at hp
     have hd2 : (x.2 == d) = false := by simpa using hg
     rw [hd2] at hxeq
     have HQ := Lib.hid hp
     clear hp hdr hrx hxl he hmem hg hd2
     go_wp2_with (first
      | (refine wpList_load_mid rfl 72 (.tmp 27) rfl g (o + i * 33) rfl (wdC x) _ HRx.out Try.underlying72 rfl (by rw [HXl.out]; kernel_rfl) ?_)
      | (refine wpList_store_blk rfl 72 (.tmp 11) (.tmp 28) rfl wr.heap.size (wdC x) rfl rfl 72 (wdC (0, dgZ)) (Blk.fresh rfl rfl) (by rw [HXl.out]; kernel_rfl) (by rw [HXl.out]; rfl) (wdC_one x) ?_; simp only [Act.put]; intro wv hbv hgv; have HBx := Lib.hid hbv; have HXv : Hid (Below w.heap.size w wv) := Lib.hid (below_step HX.out (below_new hgv)); have HBd := Lib.hid (HD.out.through (below_new hgv)); have HNv := Lib.hid (below_new hgv); have k0 := HBx.out.cellAt (i := 0) rfl; have HRv : Hid (wv.rangeAt wr.heap.size 1 (vs x.2)) := Lib.hid (Blk.range (pre := [.int .i64 x.1]) (post := []) (by simpa [wdC] using HBx.out)); clear hbv hgv)
      | (refine wpList_load_mid_gs 40 (.tmp 34) rfl (by kernel_rfl) wr.heap.size 1 rfl (vs x.2) _ HRv.out Try.underlying40 rfl (by rw [HVl.out]; kernel_rfl) ?_)
      | (refine wpList_load_blk_g 40 (.tmp 7) rfl (by kernel_rfl) w.heap.size rfl 40 (vs d) _ HBd.out Try.underlying40 rfl (by rw [HVd.out]; kernel_rfl) ?_))
     (try simp only [Exit.inBlock, Exit.then]); refine bodyPost_ret (results_tmp2 rfl _ _ _) rfl ?_
     exact ⟨_, k, c, by rw [← HQ.out]; rfl, HXv.out, .inl ⟨by rw [← HQ.out]; decide, rfl, rfl, rfl⟩⟩
   ·have hd1 : (x.1 == who) = false := by simpa using he
    rw [if_neg he] at hp
    have HQ := Lib.hid hp
    clear hp hdr hrx hxl he hmem
    go_wp2_with (first
     | (refine wpList_load_mid rfl 72 (.tmp 27) rfl g (o + i * 33) rfl (wdC x) _ HRx.out Try.underlying72 rfl (by rw [HXl.out]; kernel_rfl) ?_)
     | (refine wpList_store_blk rfl 72 (.tmp 11) (.tmp 28) rfl wr.heap.size (wdC x) rfl rfl 72 (wdC (0, dgZ)) (Blk.fresh rfl rfl) (by rw [HXl.out]; kernel_rfl) (by rw [HXl.out]; rfl) (wdC_one x) ?_; simp only [Act.put]; intro wv hbv hgv; have HBx := Lib.hid hbv; have HXv : Hid (Below w.heap.size w wv) := Lib.hid (below_step HX.out (below_new hgv)); have HBd := Lib.hid (HD.out.through (below_new hgv)); have HNv := Lib.hid (below_new hgv); have k0 := HBx.out.cellAt (i := 0) rfl; have HRv : Hid (wv.rangeAt wr.heap.size 1 (vs x.2)) := Lib.hid (Blk.range (pre := [.int .i64 x.1]) (post := []) (by simpa [wdC] using HBx.out)); clear hbv hgv))
    go_roundw
    case rel => exact ⟨i + 1, by omega, by go_num, HQ.out, HBd.out, HXv.out⟩
    case measure => simp [intOf]; omega
  ·have e9 : l.drop i = [] := List.drop_of_length_le (by have := HLn.out; omega)
   rw [e9] at hp
   have HQ : Hid (q = 0) := Lib.hid hp.symm
   clear e9 hp
   have HSl : Hid (Sl wr 33 A k (l.map wdC)) := Lib.hid (HI.out.through HX.out).1
   have HWl : Hid (∀ y ∈ l.map wdC, y.length = 33) := Lib.hid (fun y hy => by obtain ⟨x, hx, rfl⟩ := List.mem_map.1 hy; exact wdC_len x (HI.out.2 x hx))
   have HWo : Hid (∀ y ∈ l.map wdC, ∀ u ∈ y, u.oneCell' = true) := Lib.hid (fun y hy u hu => by obtain ⟨x, _, rfl⟩ := List.mem_map.1 hy; exact Array.all_eq_true_iff_forall_mem.1 (wdC_one x) u (by simpa using hu))
   have HEo : Hid (∀ u ∈ wdC (who, d), u.oneCell' = true) := Lib.hid (fun u hu => Array.all_eq_true_iff_forall_mem.1 (wdC_one _) u (by simpa using hu))
   go_upto_region 11 with (fail)
   refine wp_region_held_drew (S := fun W => Below wr.heap.size wr W) (by kernel_rfl) (Below.refl _ wr).drew (fun hHeld => ?_)
   change wpAnyH _ _ _ _ _ _ #[false, false, false, false, false, false, false, false, false, false] _ _
   refine tkq (i := 1) (d := 47) (v := (.slice A k c)) rfl rfl (Or.inl ⟨by kernel_rfl, fun w hSw => ?_⟩) (by assumption) ?_
   ·(try dsimp only at hSw); go_simp <;> (try rfl)
   simp only [Act.put, sq1, sq2, sq3]
   refine tkq (i := 3) (d := 49) (v := (.int .i64 who)) rfl rfl (Or.inl ⟨by kernel_rfl, fun w hSw => ?_⟩) (by assumption) ?_
   ·(try dsimp only at hSw); go_simp <;> (try rfl)
   simp only [Act.put, sq1, sq2, sq3]
   refine tkq (i := 4) (d := 50) (v := (.agg (vs d).toArray)) rfl rfl (yieldsIf_load_mid (by kernel_rfl) 40 (.tmp 7) rfl w.heap.size 0 (by simp [Act.eval]) (vs d) _ (fun W hW => Blk.range (pre := []) (post := []) (by simpa using HD.out.through hW)) Try.underlying40 rfl (by rw [HVd.out]; kernel_rfl)) (by assumption) ?_
   simp only [Act.put, sq1, sq2, sq3]
   refine tkq (i := 5) (d := 51) (v := (.agg (wdC (who, d)).toArray)) rfl rfl (yields_build (by kernel_rfl) 72 _ rfl #[(0, .int .i64 who), (1, .agg (vs d).toArray)] (by simp [Act.eval]) (.agg (wdC (who, d)).toArray) (fun W _ => Try.build_wd who d HDd.out W)) (by assumption) ?_
   simp only [Act.put, sq1, sq2, sq3]
   refine wpAnyH_ready (rs := [0, 6]) (by kernel_rfl) (by simp) ?_
   refine AllReadyH.cons (o := ⟨some 46, .buildSlice 55 0 #[], _, _, _, none⟩) rfl (fun K hK => ?_) (AllReadyH.cons (o := ⟨some 52, .buildSlice 55 1 #[(0, .tmp 51)], _, _, _, none⟩) rfl (fun K hK => ?_) AllReadyH.nil)
   ·as_aux_lemma =>
    refine step_mk_ (B := wr.heap.size) (e := 72) (k := 33) rfl rfl (Try.empty_wd _ _ rfl) hHeld.size ?_; intro g0 u0 hn0 ho0 hb0; have HO0 := Lib.hid ho0; have HX0_ := Lib.hid (below_step hHeld hb0); clear hn0 ho0 hb0
    refine hK.out _ _ HX0_.out (fun hHeld1 => ?_)
    clear hHeld hK K
    have hHeld := hHeld1
    clear hHeld1
    change wpAnyH _ _ _ _ _ _ _ (Act.put _ (some (46 : Nat)) (.slice (some ⟨g0, 0, none⟩) 0 0)) _
    simp only [Act.put, sq1, sq2, sq3]
    refine wpAnyH_ready (rs := [2, 6]) (by kernel_rfl) (by simp) ?_
    refine AllReadyH.cons (o := ⟨some 48, .call ⟨.builtin .append, #[.tmp 46, .tmp 47], #[55, 55]⟩, _, _, _, none⟩) rfl (fun K hK => ?_) (AllReadyH.cons (o := ⟨some 52, .buildSlice 55 1 #[(0, .tmp 51)], _, _, _, none⟩) rfl (fun K hK => ?_) AllReadyH.nil)
    ·as_aux_lemma =>
     refine step_append_sl rfl Try.el_wd (.tmp 46) (.tmp 47) rfl wr.heap.size (.slice (some ⟨g0, 0, none⟩) 0 0) [] rfl HO0.out A k c (l.map wdC) rfl (HSl.out.through hHeld) HWl.out HWo.out (by have := HKk.out; simp; omega) hHeld.size ?_; intro A5 n5 c5 u5 hn5 ho5 hg5; rw [List.nil_append] at hn5 ho5; have HO5 := Lib.hid ho5; have HX5 : Hid (Below wr.heap.size wr u5) := Lib.hid (hHeld.grown hg5 hHeld.size (fun b hb => (HO0.out.lt b hb).1)); clear hn5 ho5 hg5
     refine hK.out _ _ HX5.out (fun hHeld1 => ?_)
     clear hHeld hK K
     have hHeld := hHeld1
     clear hHeld1
     change wpAnyH _ _ _ _ _ _ _ (Act.put _ (some (48 : Nat)) (.slice A5 n5 c5)) _
     simp only [Act.put, sq1, sq2, sq3]
     refine wpAnyH_ready (rs := [6]) (by kernel_rfl) (by simp) ?_
     refine AllReadyH.cons (o := ⟨some 52, .buildSlice 55 1 #[(0, .tmp 51)], _, _, _, none⟩) rfl (fun K hK => ?_) AllReadyH.nil
     refine step_build_el_n rfl Try.el_wd (.tmp 51) rfl (wdC (who, d)) rfl HEl.out ?_; intro g6 u6 hn6 hb6 hx6; have HE5 := Lib.hid hb6; have HO5 := Lib.hid (HO5.out.through hx6); have HX6 := Lib.hid (below_step hHeld hx6); clear hn6 hb6 hx6
     refine hK.out _ _ HX6.out (fun hHeld1 => ?_)
     clear hHeld hK K
     have hHeld := hHeld1
     clear hHeld1
     change wpAnyH _ _ _ _ _ _ _ (Act.put _ (some (52 : Nat)) (.slice (some ⟨g6, 0, none⟩) 1 1)) _
     simp only [Act.put, sq1, sq2, sq3]
     refine wpAnyH_ready (rs := [7]) (by kernel_rfl) (by simp) ?_
     refine AllReadyH.cons (o := ⟨some 53, .call ⟨.builtin .append, #[.tmp 48, .tmp 52], #[55, 55]⟩, _, _, _, none⟩) rfl (fun K hK => ?_) AllReadyH.nil
     refine step_append_el rfl Try.el_wd (.tmp 48) (.tmp 52) rfl wr.heap.size (.slice A5 n5 c5) (l.map wdC) rfl HO5.out g6 (wdC (who, d)) rfl HE5.out HEl.out HEo.out (by have := HKk.out; have := HLn.out; simp; omega) hHeld.size ?_; intro A7 n7 c7 u7 hn7 ho7 hg7; have HO7 := Lib.hid ho7; have HW5 := Lib.hid (fun b hb => (HO5.out.lt b hb).1); have HX7 : Hid (Below wr.heap.size wr u7) := Lib.hid (hHeld.grown hg7 hHeld.size (fun b hb => HW5.out b hb)); clear hn7 ho7 hg7
     refine hK.out _ _ HX7.out (fun hHeld1 => ?_)
     clear hHeld hK K
     have hHeld := hHeld1
     clear hHeld1
     change wpAnyH _ _ _ _ _ _ _ (Act.put _ (some (53 : Nat)) (.slice A7 n7 c7)) _
     simp only [Act.put, sq1, sq2, sq3]
     refine tkq (i := 8) (d := 8) (v := (.slice A7 n7 c7)) rfl rfl (Or.inl ⟨by kernel_rfl, fun w hSw => ?_⟩) (by assumption) ?_
     ·(try dsimp only at hSw); go_simp <;> (try rfl)
     simp only [Act.put, sq1, sq2, sq3]
     refine tkq (i := 9) (d := 9) (v := (.int .i64 0)) rfl rfl (Or.inl ⟨by kernel_rfl, fun w hSw => ?_⟩) (by assumption) ?_
     ·(try dsimp only at hSw); go_simp <;> (try rfl)
     simp only [Act.put, sq1, sq2, sq3]
     refine wpAnyH_done (by kernel_rfl) ?_ _
     go_wp2
     (try simp only [Exit.inBlock, Exit.then]); refine bodyPost_ret (results_tmp2 rfl _ _ _) rfl ?_
     exact ⟨A7, n7, c7, by rw [HQ.out]; rfl, below_step HX.out HX7.out, .inr ⟨HQ.out, by rw [List.map_append]; exact HO7.out.weak HX.out.size, fun y hy => (List.mem_append.1 hy).elim (HI.out.2 y) (fun h9 => by rw [List.mem_singleton.1 h9]; exact HDd.out)⟩⟩
    ·as_aux_lemma =>
     refine step_build_el_n rfl Try.el_wd (.tmp 51) rfl (wdC (who, d)) rfl HEl.out ?_; intro g6 u6 hn6 hb6 hx6; have HE0 := Lib.hid hb6; have HG0 : Hid (g0 < u0.heap.size) := Lib.hid (HO0.out.lt g0 rfl).2; have HN06 : Hid (g6 ≠ g0) := Lib.hid (fun e => by have := HG0.out; omega); have HO0 := Lib.hid (HO0.out.through hx6); have HX6 := Lib.hid (below_step hHeld hx6); clear hn6 hb6 hx6
     refine hK.out _ _ HX6.out (fun hHeld1 => ?_)
     clear hHeld hK K
     have hHeld := hHeld1
     clear hHeld1
     change wpAnyH _ _ _ _ _ _ _ (Act.put _ (some (52 : Nat)) (.slice (some ⟨g6, 0, none⟩) 1 1)) _
     simp only [Act.put, sq1, sq2, sq3]
     refine wpAnyH_ready (rs := [2]) (by kernel_rfl) (by simp) ?_
     refine AllReadyH.cons (o := ⟨some 48, .call ⟨.builtin .append, #[.tmp 46, .tmp 47], #[55, 55]⟩, _, _, _, none⟩) rfl (fun K hK => ?_) AllReadyH.nil
     refine step_append_sl rfl Try.el_wd (.tmp 46) (.tmp 47) rfl wr.heap.size (.slice (some ⟨g0, 0, none⟩) 0 0) [] rfl HO0.out A k c (l.map wdC) rfl (HSl.out.through hHeld) HWl.out HWo.out (by have := HKk.out; simp; omega) hHeld.size ?_; intro A5 n5 c5 u5 hn5 ho5 hg5; rw [List.nil_append] at hn5 ho5; have HO5 := Lib.hid ho5; have HX5 : Hid (Below wr.heap.size wr u5) := Lib.hid (hHeld.grown hg5 hHeld.size (fun b hb => (HO0.out.lt b hb).1)); have HE5 := Lib.hid (HE0.out.grown hg5 (fun e => by first | (have := Option.some.inj e; have := HN06.out; omega) | (simp [Value.ownBlock] at e; have := HN06.out; omega))); clear hn5 ho5 hg5
     refine hK.out _ _ HX5.out (fun hHeld1 => ?_)
     clear hHeld hK K
     have hHeld := hHeld1
     clear hHeld1
     change wpAnyH _ _ _ _ _ _ _ (Act.put _ (some (48 : Nat)) (.slice A5 n5 c5)) _
     simp only [Act.put, sq1, sq2, sq3]
     refine wpAnyH_ready (rs := [7]) (by kernel_rfl) (by simp) ?_
     refine AllReadyH.cons (o := ⟨some 53, .call ⟨.builtin .append, #[.tmp 48, .tmp 52], #[55, 55]⟩, _, _, _, none⟩) rfl (fun K hK => ?_) AllReadyH.nil
     refine step_append_el rfl Try.el_wd (.tmp 48) (.tmp 52) rfl wr.heap.size (.slice A5 n5 c5) (l.map wdC) rfl HO5.out g6 (wdC (who, d)) rfl HE5.out HEl.out HEo.out (by have := HKk.out; have := HLn.out; simp; omega) hHeld.size ?_; intro A7 n7 c7 u7 hn7 ho7 hg7; have HO7 := Lib.hid ho7; have HW5 := Lib.hid (fun b hb => (HO5.out.lt b hb).1); have HX7 : Hid (Below wr.heap.size wr u7) := Lib.hid (hHeld.grown hg7 hHeld.size (fun b hb => HW5.out b hb)); clear hn7 ho7 hg7
     refine hK.out _ _ HX7.out (fun hHeld1 => ?_)
     clear hHeld hK K
     have hHeld := hHeld1
     clear hHeld1
     change wpAnyH _ _ _ _ _ _ _ (Act.put _ (some (53 : Nat)) (.slice A7 n7 c7)) _
     simp only [Act.put, sq1, sq2, sq3]
     refine tkq (i := 8) (d := 8) (v := (.slice A7 n7 c7)) rfl rfl (Or.inl ⟨by kernel_rfl, fun w hSw => ?_⟩) (by assumption) ?_
     ·(try dsimp only at hSw); go_simp <;> (try rfl)
     simp only [Act.put, sq1, sq2, sq3]
     refine tkq (i := 9) (d := 9) (v := (.int .i64 0)) rfl rfl (Or.inl ⟨by kernel_rfl, fun w hSw => ?_⟩) (by assumption) ?_
     ·(try dsimp only at hSw); go_simp <;> (try rfl)
     simp only [Act.put, sq1, sq2, sq3]
     refine wpAnyH_done (by kernel_rfl) ?_ _
     go_wp2
     (try simp only [Exit.inBlock, Exit.then]); refine bodyPost_ret (results_tmp2 rfl _ _ _) rfl ?_
     exact ⟨A7, n7, c7, by rw [HQ.out]; rfl, below_step HX.out HX7.out, .inr ⟨HQ.out, by rw [List.map_append]; exact HO7.out.weak HX.out.size, fun y hy => (List.mem_append.1 hy).elim (HI.out.2 y) (fun h9 => by rw [List.mem_singleton.1 h9]; exact HDd.out)⟩⟩
   ·as_aux_lemma =>
    refine step_build_el_n rfl Try.el_wd (.tmp 51) rfl (wdC (who, d)) rfl HEl.out ?_; intro g6 u6 hn6 hb6 hx6; have HE6 := Lib.hid hb6; have HX6 := Lib.hid (below_step hHeld hx6); clear hn6 hb6 hx6
    refine hK.out _ _ HX6.out (fun hHeld1 => ?_)
    clear hHeld hK K
    have hHeld := hHeld1
    clear hHeld1
    change wpAnyH _ _ _ _ _ _ _ (Act.put _ (some (52 : Nat)) (.slice (some ⟨g6, 0, none⟩) 1 1)) _
    simp only [Act.put, sq1, sq2, sq3]
    refine wpAnyH_ready (rs := [0]) (by kernel_rfl) (by simp) ?_
    refine AllReadyH.cons (o := ⟨some 46, .buildSlice 55 0 #[], _, _, _, none⟩) rfl (fun K hK => ?_) AllReadyH.nil
    refine step_mk_ (B := wr.heap.size) (e := 72) (k := 33) rfl rfl (Try.empty_wd _ _ rfl) hHeld.size ?_; intro g0 u0 hn0 ho0 hb0; have HO0 := Lib.hid ho0; have HX0_ := Lib.hid (below_step hHeld hb0); have HE0 := Lib.hid (HE6.out.through hb0); have HN06 : Hid (g6 ≠ g0) := Lib.hid (fun e => by have := HE6.out.lt; omega); clear hn0 ho0 hb0
    refine hK.out _ _ HX0_.out (fun hHeld1 => ?_)
    clear hHeld hK K
    have hHeld := hHeld1
    clear hHeld1
    change wpAnyH _ _ _ _ _ _ _ (Act.put _ (some (46 : Nat)) (.slice (some ⟨g0, 0, none⟩) 0 0)) _
    simp only [Act.put, sq1, sq2, sq3]
    refine wpAnyH_ready (rs := [2]) (by kernel_rfl) (by simp) ?_
    refine AllReadyH.cons (o := ⟨some 48, .call ⟨.builtin .append, #[.tmp 46, .tmp 47], #[55, 55]⟩, _, _, _, none⟩) rfl (fun K hK => ?_) AllReadyH.nil
    refine step_append_sl rfl Try.el_wd (.tmp 46) (.tmp 47) rfl wr.heap.size (.slice (some ⟨g0, 0, none⟩) 0 0) [] rfl HO0.out A k c (l.map wdC) rfl (HSl.out.through hHeld) HWl.out HWo.out (by have := HKk.out; simp; omega) hHeld.size ?_; intro A5 n5 c5 u5 hn5 ho5 hg5; rw [List.nil_append] at hn5 ho5; have HO5 := Lib.hid ho5; have HX5 : Hid (Below wr.heap.size wr u5) := Lib.hid (hHeld.grown hg5 hHeld.size (fun b hb => (HO0.out.lt b hb).1)); have HE5 := Lib.hid (HE0.out.grown hg5 (fun e => by first | (have := Option.some.inj e; have := HN06.out; omega) | (simp [Value.ownBlock] at e; have := HN06.out; omega))); clear hn5 ho5 hg5
    refine hK.out _ _ HX5.out (fun hHeld1 => ?_)
    clear hHeld hK K
    have hHeld := hHeld1
    clear hHeld1
    change wpAnyH _ _ _ _ _ _ _ (Act.put _ (some (48 : Nat)) (.slice A5 n5 c5)) _
    simp only [Act.put, sq1, sq2, sq3]
    refine wpAnyH_ready (rs := [7]) (by kernel_rfl) (by simp) ?_
    refine AllReadyH.cons (o := ⟨some 53, .call ⟨.builtin .append, #[.tmp 48, .tmp 52], #[55, 55]⟩, _, _, _, none⟩) rfl (fun K hK => ?_) AllReadyH.nil
    refine step_append_el rfl Try.el_wd (.tmp 48) (.tmp 52) rfl wr.heap.size (.slice A5 n5 c5) (l.map wdC) rfl HO5.out g6 (wdC (who, d)) rfl HE5.out HEl.out HEo.out (by have := HKk.out; have := HLn.out; simp; omega) hHeld.size ?_; intro A7 n7 c7 u7 hn7 ho7 hg7; have HO7 := Lib.hid ho7; have HW5 := Lib.hid (fun b hb => (HO5.out.lt b hb).1); have HX7 : Hid (Below wr.heap.size wr u7) := Lib.hid (hHeld.grown hg7 hHeld.size (fun b hb => HW5.out b hb)); clear hn7 ho7 hg7
    refine hK.out _ _ HX7.out (fun hHeld1 => ?_)
    clear hHeld hK K
    have hHeld := hHeld1
    clear hHeld1
    change wpAnyH _ _ _ _ _ _ _ (Act.put _ (some (53 : Nat)) (.slice A7 n7 c7)) _
    simp only [Act.put, sq1, sq2, sq3]
    refine tkq (i := 8) (d := 8) (v := (.slice A7 n7 c7)) rfl rfl (Or.inl ⟨by kernel_rfl, fun w hSw => ?_⟩) (by assumption) ?_
    ·(try dsimp only at hSw); go_simp <;> (try rfl)
    simp only [Act.put, sq1, sq2, sq3]
    refine tkq (i := 9) (d := 9) (v := (.int .i64 0)) rfl rfl (Or.inl ⟨by kernel_rfl, fun w hSw => ?_⟩) (by assumption) ?_
    ·(try dsimp only at hSw); go_simp <;> (try rfl)
    simp only [Act.put, sq1, sq2, sq3]
    refine wpAnyH_done (by kernel_rfl) ?_ _
    go_wp2
    (try simp only [Exit.inBlock, Exit.then]); refine bodyPost_ret (results_tmp2 rfl _ _ _) rfl ?_
    exact ⟨A7, n7, c7, by rw [HQ.out]; rfl, below_step HX.out HX7.out, .inr ⟨HQ.out, by rw [List.map_append]; exact HO7.out.weak HX.out.size, fun y hy => (List.mem_append.1 hy).elim (HI.out.2 y) (fun h9 => by rw [List.mem_singleton.1 h9]; exact HDd.out)⟩⟩

end Go.Proofs.Ytponmfkddglopaa
