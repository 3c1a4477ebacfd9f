/-
  Joined: PgD2 PgLTl PgLO.
-/
import Derived.Test.YtfflkodgojiklaaGreatDoorKG6
namespace Go.Proofs.YtfflkodgojiklaaGreatDoor

section
open Go.RowKit
set_option maxHeartbeats 16000000 in
set_option maxRecDepth 100000 in
theorem told_any (l : Lg) (x : Oc) (A : Option Addr) (n c : Nat) (B : Option Addr) (m d : Nat) (w : World) (h : LgIn w A n B m l) (hn : n ≤ 1000000) (hm : m ≤ 1000) (hmd : m ≤ d) :
    Calls Tryz.prog 25 #[l.val A n c B m d, .agg #[.int .i64 x.cl, .int .i64 x.sp, .int .i64 x.rs]] w (LgOutC w (toldL l x)) := by
  have hz := Tryz.zero_lg
  have hput : ∀ W, Below w.heap.size w W → Calls Tryz.prog 43 #[.slice B m d, .agg #[.int .i64 x.cl, .int .i64 x.sp, .int .i64 x.rs], .func (.func 44) #[] #[]] W (SlOut W 3 ((putO (lastL x.cl l.os).isSome x l.os).map Oc.cells)) := fun W hW => by
    rw [← putP_oc]
    exact putO_any l.os B m d x W (h.2.through hW) hm hmd
  have hcl : ∀ W, Below w.heap.size w W → Calls Tryz.prog 33 #[.slice A n c] W (SlOut W 6 (l.ls.map Lt.cells)) := fun W hW => cloneL_any l.ls A n c W (h.1.through hW) hn
  have HX0 : Hid (Below w.heap.size w (((w.alloc (.cells #[.int .i64 l.sq, .int .i64 l.tt, .slice A n c, .slice B m d] 25)).alloc (.cells #[.int .i64 x.cl, .int .i64 x.sp, .int .i64 x.rs] 56)).alloc (.cells #[.int .i64 0, .int .i64 0, .slice none 0 0, .slice none 0 0] 25))) := Lib.hid (below3 w _ _ _)
  have K2 : Hid (Blk (((w.alloc (.cells #[.int .i64 l.sq, .int .i64 l.tt, .slice A n c, .slice B m d] 25)).alloc (.cells #[.int .i64 x.cl, .int .i64 x.sp, .int .i64 x.rs] 56)).alloc (.cells #[.int .i64 0, .int .i64 0, .slice none 0 0, .slice none 0 0] 25)) w.heap.size 25 [.int .i64 l.sq, .int .i64 l.tt, .slice A n c, .slice B m d]) := Lib.hid (((Blk.fresh rfl rfl).alloc _).alloc _)
  have K3 : Hid (Blk (((w.alloc (.cells #[.int .i64 l.sq, .int .i64 l.tt, .slice A n c, .slice B m d] 25)).alloc (.cells #[.int .i64 x.cl, .int .i64 x.sp, .int .i64 x.rs] 56)).alloc (.cells #[.int .i64 0, .int .i64 0, .slice none 0 0, .slice none 0 0] 25)) (w.heap.size + 1) 56 [.int .i64 x.cl, .int .i64 x.sp, .int .i64 x.rs]) := Lib.hid ((Blk.fresh (by simp) rfl).alloc _)
  have K4 : Hid (Blk (((w.alloc (.cells #[.int .i64 l.sq, .int .i64 l.tt, .slice A n c, .slice B m d] 25)).alloc (.cells #[.int .i64 x.cl, .int .i64 x.sp, .int .i64 x.rs] 56)).alloc (.cells #[.int .i64 0, .int .i64 0, .slice none 0 0, .slice none 0 0] 25)) (w.heap.size + 2) 25 [.int .i64 0, .int .i64 0, .slice none 0 0, .slice none 0 0]) := Lib.hid (Blk.fresh (by simp) rfl)
  unfold Lg.val toldL
  generalize putO (lastL x.cl l.os).isSome x l.os = r at *
  have HP := Lib.hid hput
  have HCl := Lib.hid hcl
  clear h hput hcl
  go_enter Tryz.func25, Tryz.ntmps25
  go_wp2
  try dsimp only [Act.put]
  generalize (((w.alloc (.cells #[.int .i64 l.sq, .int .i64 l.tt, .slice A n c, .slice B m d] 25)).alloc (.cells #[.int .i64 x.cl, .int .i64 x.sp, .int .i64 x.rs] 56)).alloc (.cells #[.int .i64 0, .int .i64 0, .slice none 0 0, .slice none 0 0] 25)) = w3 at *
  refine wp_region_held_drew (S := fun W => Below w.heap.size w W ∧ Blk W (w.heap.size + 1) 56 [.int .i64 x.cl, .int .i64 x.sp, .int .i64 x.rs] ∧ Blk W (w.heap.size + 2) 25 [.int .i64 0, .int .i64 0, .slice none 0 0, .slice none 0 0]) (by kernel_rfl) ⟨HX0.out.drew, K3.out.drew, K4.out.drew⟩ (fun hHeld => ?_)
  change wpAnyH _ _ _ _ _ _ #[false, false, false, false, false, false, false, false, false, false, false] _ _
  refine wpAnyH_take (i := 0) (v := (.pointer (some ⟨w.heap.size, 2, none⟩))) rfl (by kernel_rfl) (by kernel_rfl) (by kernel_rfl) (fun _ _ _ h => h) (Or.inl ⟨by kernel_rfl, fun w hSw => ?_⟩) (by assumption) ?_
  · (try dsimp only at hSw); go_simp <;> (try rfl)
  change wpAnyH _ _ _ _ _ _ _ (Act.put _ (some (5 : Nat)) (.pointer (some ⟨w.heap.size, 2, none⟩))) _
  simp only [Act.put, List.setIfInBounds_toArray, List.set_cons_zero, List.set_cons_succ]
  refine wpAnyH_take (i := 3) (v := (.pointer (some ⟨w.heap.size, 3, none⟩))) rfl (by kernel_rfl) (by kernel_rfl) (by kernel_rfl) (fun _ _ _ h => h) (Or.inl ⟨by kernel_rfl, fun w hSw => ?_⟩) (by assumption) ?_
  · (try dsimp only at hSw); go_simp <;> (try rfl)
  change wpAnyH _ _ _ _ _ _ _ (Act.put _ (some (8 : Nat)) (.pointer (some ⟨w.heap.size, 3, none⟩))) _
  simp only [Act.put, List.setIfInBounds_toArray, List.set_cons_zero, List.set_cons_succ]
  refine wpAnyH_take (i := 5) (v := (.agg #[.int .i64 x.cl, .int .i64 x.sp, .int .i64 x.rs])) rfl (by kernel_rfl) (by kernel_rfl) (by kernel_rfl) (fun _ _ _ h => h) (yields_load_at (by kernel_rfl) 56 (.tmp 3) rfl (.pointer (some ⟨w.heap.size + 1, 0, none⟩)) (by simp [Act.eval]) (.agg #[.int .i64 x.cl, .int .i64 x.sp, .int .i64 x.rs]) (fun W hW => hW.2.1.loadAt 56 _ Tryz.underlying56 rfl (by kernel_rfl))) (by assumption) ?_
  change wpAnyH _ _ _ _ _ _ _ (Act.put _ (some (10 : Nat)) (.agg #[.int .i64 x.cl, .int .i64 x.sp, .int .i64 x.rs])) _
  simp only [Act.put, List.setIfInBounds_toArray, List.set_cons_zero, List.set_cons_succ]
  refine wpAnyH_ready (rs := [1, 4]) (by kernel_rfl) (by simp) ?_
  refine AllReadyH.cons (o := ⟨some 6, .load 22 (.tmp 5), _, _, _, none⟩) rfl (fun K hK => ?_) (AllReadyH.cons (o := ⟨some 9, .load 23 (.tmp 8), _, _, _, none⟩) rfl (fun K hK => ?_) AllReadyH.nil)
  · as_aux_lemma =>
    refine step_load_at rfl 22 (.tmp 5) rfl (.pointer (some ⟨w.heap.size, 2, none⟩)) rfl (.slice A n c) (load_one' (Tryz.agg_sl _) (K2.out.drew.cellAt rfl)) ?_
    refine hK.out _ _ hHeld (fun hHeld1 => ?_)
    clear hHeld hK K
    have hHeld := hHeld1
    clear hHeld1
    change wpAnyH _ _ _ _ _ _ _ (Act.put _ (some (6 : Nat)) (.slice A n c)) _
    simp only [Act.put, List.setIfInBounds_toArray, List.set_cons_zero, List.set_cons_succ]
    refine wpAnyH_ready (rs := [2, 4]) (by kernel_rfl) (by simp) ?_
    refine AllReadyH.cons rfl (fun K hK => ?_) (AllReadyH.cons (o := ⟨some 9, .load 23 (.tmp 8), _, _, _, none⟩) rfl (fun K hK => ?_) AllReadyH.nil)
    · as_aux_lemma =>
      go_simp
      refine ((HCl.out _ hHeld.1)).mono ?_
      rintro e w5 ⟨A5, n5, c5, rfl, hs5, hc5, hb5, hf5⟩; have HL5 := Lib.hid (K2.out.drew.through hb5); have HK5 := Lib.hid hb5; have HS5 := Lib.hid hs5; have HC5 := Lib.hid hc5; have HF5 := Lib.hid (fun a ha => Nat.le_trans hHeld.2.2.lt (hf5 a ha)); clear hb5 hs5 hc5 hf5
      go_wp2_with fail
      refine hK.out _ _ ⟨below_step hHeld.1 HK5.out, hHeld.2.1.through HK5.out, hHeld.2.2.through HK5.out⟩ (fun hHeld1 => ?_)
      clear hHeld hK K
      have hHeld := hHeld1
      clear hHeld1
      refine wpAnyH_ready (rs := [4]) (by kernel_rfl) (by simp) ?_
      refine AllReadyH.cons (o := ⟨some 9, .load 23 (.tmp 8), _, _, _, none⟩) rfl (fun K hK => ?_) AllReadyH.nil
      refine step_load_at rfl 23 (.tmp 8) rfl (.pointer (some ⟨w.heap.size, 3, none⟩)) rfl (.slice B m d) (load_one' (Tryz.agg_so _) (HL5.out.cellAt rfl)) ?_
      refine hK.out _ _ hHeld (fun hHeld1 => ?_)
      clear hHeld hK K
      have hHeld := hHeld1
      clear hHeld1
      change wpAnyH _ _ _ _ _ _ _ (Act.put _ (some (9 : Nat)) (.slice B m d)) _
      simp only [Act.put, List.setIfInBounds_toArray, List.set_cons_zero, List.set_cons_succ]
      refine wpAnyH_take (i := 7) (v := (.pointer (some ⟨w.heap.size, 2, none⟩))) rfl (by kernel_rfl) (by kernel_rfl) (by kernel_rfl) (fun _ _ _ h => h) (Or.inl ⟨by kernel_rfl, fun w hSw => ?_⟩) (by assumption) ?_
      · (try dsimp only at hSw); go_simp <;> (try rfl)
      change wpAnyH _ _ _ _ _ _ _ (Act.put _ (some (12 : Nat)) (.pointer (some ⟨w.heap.size, 2, none⟩))) _
      simp only [Act.put, List.setIfInBounds_toArray, List.set_cons_zero, List.set_cons_succ]
      refine wpAnyH_ready (rs := [6]) (by kernel_rfl) (by simp) ?_
      refine AllReadyH.cons rfl (fun K hK => ?_) AllReadyH.nil
      go_simp
      refine ((HP.out _ hHeld.1)).mono ?_
      rintro e w6 ⟨B6, m6, d6, rfl, hs6, hc6, hb6, hf6⟩; have HL6 := Lib.hid (HL5.out.through hb6); have HK6 := Lib.hid hb6; have HS6 := Lib.hid hs6; have HS5b := Lib.hid (HS5.out.through hb6); have HC6 := Lib.hid hc6; have HF6 := Lib.hid (fun a ha => Nat.le_trans hHeld.2.2.lt (hf6 a ha)); clear hb6 hs6 hc6 hf6
      go_wp2_with fail
      refine hK.out _ _ ⟨below_step hHeld.1 HK6.out, hHeld.2.1.through HK6.out, hHeld.2.2.through HK6.out⟩ (fun hHeld1 => ?_)
      clear hHeld hK K
      have hHeld := hHeld1
      clear hHeld1
      refine wpAnyH_ready (rs := [8]) (by kernel_rfl) (by simp) ?_
      refine AllReadyH.cons (o := ⟨none, .store 22 (.tmp 12) (.tmp 7), _, _, _, none⟩) rfl (fun K hK => ?_) AllReadyH.nil
      refine step_store_cell (by simp [Region.wanted]) 22 (.tmp 12) (.tmp 7) rfl w.heap.size 2 rfl (.slice A5 n5 c5) rfl rfl rfl (fun w => by kernel_rfl) 25 [.int .i64 l.sq, .int .i64 l.tt, .slice A n c, .slice B m d] HL6.out (by simp) ?_; intro w8 hb8 hg8; have HL8 : Hid (Blk w8 w.heap.size 25 [.int .i64 l.sq, .int .i64 l.tt, .slice A5 n5 c5, .slice B m d]) := Lib.hid hb8; have HG8 := Lib.hid hg8; clear hb8 hg8
      refine hK.out _ _ ⟨hHeld.1.grown HG8.out hHeld.1.size (fun k hk => by have := Option.some.inj hk; omega), hHeld.2.1.grown HG8.out (by simp), hHeld.2.2.grown HG8.out (by simp)⟩ (fun hHeld1 => ?_)
      clear hHeld hK K
      have hHeld := hHeld1
      clear hHeld1
      change wpAnyH _ _ _ _ _ _ _ (Act.put _ none undef) _
      simp only [Act.put]
      refine wpAnyH_take (i := 9) (v := (.pointer (some ⟨w.heap.size, 3, none⟩))) rfl (by kernel_rfl) (by kernel_rfl) (by kernel_rfl) (fun _ _ _ h => h) (Or.inl ⟨by kernel_rfl, fun w hSw => ?_⟩) (by assumption) ?_
      · (try dsimp only at hSw); go_simp <;> (try rfl)
      change wpAnyH _ _ _ _ _ _ _ (Act.put _ (some (13 : Nat)) (.pointer (some ⟨w.heap.size, 3, none⟩))) _
      simp only [Act.put, List.setIfInBounds_toArray, List.set_cons_zero, List.set_cons_succ]
      refine wpAnyH_ready (rs := [10]) (by kernel_rfl) (by simp) ?_
      refine AllReadyH.cons (o := ⟨none, .store 23 (.tmp 13) (.tmp 11), _, _, _, none⟩) rfl (fun K hK => ?_) AllReadyH.nil
      refine step_store_cell (by simp [Region.wanted]) 23 (.tmp 13) (.tmp 11) rfl w.heap.size 3 rfl (.slice B6 m6 d6) rfl rfl rfl (fun w => by kernel_rfl) 25 [.int .i64 l.sq, .int .i64 l.tt, .slice A5 n5 c5, .slice B m d] HL8.out (by simp) ?_; intro w10 hb10 hg10; have HL10 : Hid (Blk w10 w.heap.size 25 [.int .i64 l.sq, .int .i64 l.tt, .slice A5 n5 c5, .slice B6 m6 d6]) := Lib.hid hb10; have HG10 := Lib.hid hg10; clear hb10 hg10
      refine hK.out _ _ ⟨hHeld.1.grown HG10.out hHeld.1.size (fun k hk => by have := Option.some.inj hk; omega), hHeld.2.1.grown HG10.out (by simp), hHeld.2.2.grown HG10.out (by simp)⟩ (fun hHeld1 => ?_)
      clear hHeld hK K
      have hHeld := hHeld1
      clear hHeld1
      change wpAnyH _ _ _ _ _ _ _ (Act.put _ none undef) _
      simp only [Act.put]
      refine wpAnyH_done (by kernel_rfl) ?_ _
      have HXe := Lib.hid hHeld.1
      have HZ := Lib.hid hHeld.2.2
      clear hHeld
      go_wp2_with (first
  | (refine wpList_load_blk rfl 25 (.tmp 2) rfl w.heap.size rfl 25 [.int .i64 l.sq, .int .i64 l.tt, .slice A5 n5 c5, .slice B6 m6 d6] _ HL10.out Tryz.underlying25 rfl (by kernel_rfl) ?_)
  | (refine wpList_store_blk rfl 25 (.tmp 4) (.tmp 14) rfl (w.heap.size + 2) [.int .i64 l.sq, .int .i64 l.tt, .slice A5 n5 c5, .slice B6 m6 d6] rfl rfl 25 [.int .i64 0, .int .i64 0, .slice none 0 0, .slice none 0 0] (HZ.out) (by kernel_rfl) rfl (one4 _ _ _ _ _ _ _ _) ?_; intro w9 hb9 hg9; have HB9 := Lib.hid hb9; have HX9 : Hid (Below w.heap.size w w9) := Lib.hid (HXe.out.grown hg9 HXe.out.size (fun k hk => by have := Option.some.inj hk; omega)); have HG9 := Lib.hid hg9; clear hb9 hg9))
      (try simp only [Exit.inBlock, Exit.then]); refine bodyPost_ret (results_cell_row_0 rfl _ _ (w.heap.size + 2) 25 _ (0, 0) _ rfl HB9.out Tryz.underlying25 rfl (by kernel_rfl)) rfl ?_
      have f5 := HF5.out
      have f6 := HF6.out
      refine ⟨A5, n5, c5, B6, m6, d6, rfl, ⟨((HS5b.out.far HG8.out fun a ha => by have := f5 a ha; omega).far HG10.out fun a ha => by have := f5 a ha; omega).far HG9.out fun a ha => by have := f5 a ha; omega, ((HS6.out.far HG8.out fun a ha => by have := f6 a ha; omega).far HG10.out fun a ha => by have := f6 a ha; omega).far HG9.out fun a ha => by have := f6 a ha; omega⟩, HC5.out, HC6.out, HX9.out, (fun a ha => by have := f5 a ha; omega), fun a ha => by have := f6 a ha; omega⟩
    · as_aux_lemma =>
      refine step_load_at rfl 23 (.tmp 8) rfl (.pointer (some ⟨w.heap.size, 3, none⟩)) rfl (.slice B m d) (load_one' (Tryz.agg_so _) (K2.out.drew.cellAt rfl)) ?_
      refine hK.out _ _ hHeld (fun hHeld1 => ?_)
      clear hHeld hK K
      have hHeld := hHeld1
      clear hHeld1
      change wpAnyH _ _ _ _ _ _ _ (Act.put _ (some (9 : Nat)) (.slice B m d)) _
      simp only [Act.put, List.setIfInBounds_toArray, List.set_cons_zero, List.set_cons_succ]
      refine wpAnyH_ready (rs := [2]) (by kernel_rfl) (by simp) ?_
      refine AllReadyH.cons rfl (fun K hK => ?_) AllReadyH.nil
      go_simp
      refine ((HCl.out _ hHeld.1)).mono ?_
      rintro e w5 ⟨A5, n5, c5, rfl, hs5, hc5, hb5, hf5⟩; have HL5 := Lib.hid (K2.out.drew.through hb5); have HK5 := Lib.hid hb5; have HS5 := Lib.hid hs5; have HC5 := Lib.hid hc5; have HF5 := Lib.hid (fun a ha => Nat.le_trans hHeld.2.2.lt (hf5 a ha)); clear hb5 hs5 hc5 hf5
      go_wp2_with fail
      refine hK.out _ _ ⟨below_step hHeld.1 HK5.out, hHeld.2.1.through HK5.out, hHeld.2.2.through HK5.out⟩ (fun hHeld1 => ?_)
      clear hHeld hK K
      have hHeld := hHeld1
      clear hHeld1
      refine wpAnyH_take (i := 7) (v := (.pointer (some ⟨w.heap.size, 2, none⟩))) rfl (by kernel_rfl) (by kernel_rfl) (by kernel_rfl) (fun _ _ _ h => h) (Or.inl ⟨by kernel_rfl, fun w hSw => ?_⟩) (by assumption) ?_
      · (try dsimp only at hSw); go_simp <;> (try rfl)
      change wpAnyH _ _ _ _ _ _ _ (Act.put _ (some (12 : Nat)) (.pointer (some ⟨w.heap.size, 2, none⟩))) _
      simp only [Act.put, List.setIfInBounds_toArray, List.set_cons_zero, List.set_cons_succ]
      refine wpAnyH_ready (rs := [6]) (by kernel_rfl) (by simp) ?_
      refine AllReadyH.cons rfl (fun K hK => ?_) AllReadyH.nil
      go_simp
      refine ((HP.out _ hHeld.1)).mono ?_
      rintro e w6 ⟨B6, m6, d6, rfl, hs6, hc6, hb6, hf6⟩; have HL6 := Lib.hid (HL5.out.through hb6); have HK6 := Lib.hid hb6; have HS6 := Lib.hid hs6; have HS5b := Lib.hid (HS5.out.through hb6); have HC6 := Lib.hid hc6; have HF6 := Lib.hid (fun a ha => Nat.le_trans hHeld.2.2.lt (hf6 a ha)); clear hb6 hs6 hc6 hf6
      go_wp2_with fail
      refine hK.out _ _ ⟨below_step hHeld.1 HK6.out, hHeld.2.1.through HK6.out, hHeld.2.2.through HK6.out⟩ (fun hHeld1 => ?_)
      clear hHeld hK K
      have hHeld := hHeld1
      clear hHeld1
      refine wpAnyH_ready (rs := [8]) (by kernel_rfl) (by simp) ?_
      refine AllReadyH.cons (o := ⟨none, .store 22 (.tmp 12) (.tmp 7), _, _, _, none⟩) rfl (fun K hK => ?_) AllReadyH.nil
      refine step_store_cell (by simp [Region.wanted]) 22 (.tmp 12) (.tmp 7) rfl w.heap.size 2 rfl (.slice A5 n5 c5) rfl rfl rfl (fun w => by kernel_rfl) 25 [.int .i64 l.sq, .int .i64 l.tt, .slice A n c, .slice B m d] HL6.out (by simp) ?_; intro w8 hb8 hg8; have HL8 : Hid (Blk w8 w.heap.size 25 [.int .i64 l.sq, .int .i64 l.tt, .slice A5 n5 c5, .slice B m d]) := Lib.hid hb8; have HG8 := Lib.hid hg8; clear hb8 hg8
      refine hK.out _ _ ⟨hHeld.1.grown HG8.out hHeld.1.size (fun k hk => by have := Option.some.inj hk; omega), hHeld.2.1.grown HG8.out (by simp), hHeld.2.2.grown HG8.out (by simp)⟩ (fun hHeld1 => ?_)
      clear hHeld hK K
      have hHeld := hHeld1
      clear hHeld1
      change wpAnyH _ _ _ _ _ _ _ (Act.put _ none undef) _
      simp only [Act.put]
      refine wpAnyH_take (i := 9) (v := (.pointer (some ⟨w.heap.size, 3, none⟩))) rfl (by kernel_rfl) (by kernel_rfl) (by kernel_rfl) (fun _ _ _ h => h) (Or.inl ⟨by kernel_rfl, fun w hSw => ?_⟩) (by assumption) ?_
      · (try dsimp only at hSw); go_simp <;> (try rfl)
      change wpAnyH _ _ _ _ _ _ _ (Act.put _ (some (13 : Nat)) (.pointer (some ⟨w.heap.size, 3, none⟩))) _
      simp only [Act.put, List.setIfInBounds_toArray, List.set_cons_zero, List.set_cons_succ]
      refine wpAnyH_ready (rs := [10]) (by kernel_rfl) (by simp) ?_
      refine AllReadyH.cons (o := ⟨none, .store 23 (.tmp 13) (.tmp 11), _, _, _, none⟩) rfl (fun K hK => ?_) AllReadyH.nil
      refine step_store_cell (by simp [Region.wanted]) 23 (.tmp 13) (.tmp 11) rfl w.heap.size 3 rfl (.slice B6 m6 d6) rfl rfl rfl (fun w => by kernel_rfl) 25 [.int .i64 l.sq, .int .i64 l.tt, .slice A5 n5 c5, .slice B m d] HL8.out (by simp) ?_; intro w10 hb10 hg10; have HL10 : Hid (Blk w10 w.heap.size 25 [.int .i64 l.sq, .int .i64 l.tt, .slice A5 n5 c5, .slice B6 m6 d6]) := Lib.hid hb10; have HG10 := Lib.hid hg10; clear hb10 hg10
      refine hK.out _ _ ⟨hHeld.1.grown HG10.out hHeld.1.size (fun k hk => by have := Option.some.inj hk; omega), hHeld.2.1.grown HG10.out (by simp), hHeld.2.2.grown HG10.out (by simp)⟩ (fun hHeld1 => ?_)
      clear hHeld hK K
      have hHeld := hHeld1
      clear hHeld1
      change wpAnyH _ _ _ _ _ _ _ (Act.put _ none undef) _
      simp only [Act.put]
      refine wpAnyH_done (by kernel_rfl) ?_ _
      have HXe := Lib.hid hHeld.1
      have HZ := Lib.hid hHeld.2.2
      clear hHeld
      go_wp2_with (first
  | (refine wpList_load_blk rfl 25 (.tmp 2) rfl w.heap.size rfl 25 [.int .i64 l.sq, .int .i64 l.tt, .slice A5 n5 c5, .slice B6 m6 d6] _ HL10.out Tryz.underlying25 rfl (by kernel_rfl) ?_)
  | (refine wpList_store_blk rfl 25 (.tmp 4) (.tmp 14) rfl (w.heap.size + 2) [.int .i64 l.sq, .int .i64 l.tt, .slice A5 n5 c5, .slice B6 m6 d6] rfl rfl 25 [.int .i64 0, .int .i64 0, .slice none 0 0, .slice none 0 0] (HZ.out) (by kernel_rfl) rfl (one4 _ _ _ _ _ _ _ _) ?_; intro w9 hb9 hg9; have HB9 := Lib.hid hb9; have HX9 : Hid (Below w.heap.size w w9) := Lib.hid (HXe.out.grown hg9 HXe.out.size (fun k hk => by have := Option.some.inj hk; omega)); have HG9 := Lib.hid hg9; clear hb9 hg9))
      (try simp only [Exit.inBlock, Exit.then]); refine bodyPost_ret (results_cell_row_0 rfl _ _ (w.heap.size + 2) 25 _ (0, 0) _ rfl HB9.out Tryz.underlying25 rfl (by kernel_rfl)) rfl ?_
      have f5 := HF5.out
      have f6 := HF6.out
      refine ⟨A5, n5, c5, B6, m6, d6, rfl, ⟨((HS5b.out.far HG8.out fun a ha => by have := f5 a ha; omega).far HG10.out fun a ha => by have := f5 a ha; omega).far HG9.out fun a ha => by have := f5 a ha; omega, ((HS6.out.far HG8.out fun a ha => by have := f6 a ha; omega).far HG10.out fun a ha => by have := f6 a ha; omega).far HG9.out fun a ha => by have := f6 a ha; omega⟩, HC5.out, HC6.out, HX9.out, (fun a ha => by have := f5 a ha; omega), fun a ha => by have := f6 a ha; omega⟩
  · as_aux_lemma =>
    refine step_load_at rfl 23 (.tmp 8) rfl (.pointer (some ⟨w.heap.size, 3, none⟩)) rfl (.slice B m d) (load_one' (Tryz.agg_so _) (K2.out.drew.cellAt rfl)) ?_
    refine hK.out _ _ hHeld (fun hHeld1 => ?_)
    clear hHeld hK K
    have hHeld := hHeld1
    clear hHeld1
    change wpAnyH _ _ _ _ _ _ _ (Act.put _ (some (9 : Nat)) (.slice B m d)) _
    simp only [Act.put, List.setIfInBounds_toArray, List.set_cons_zero, List.set_cons_succ]
    refine wpAnyH_ready (rs := [1]) (by kernel_rfl) (by simp) ?_
    refine AllReadyH.cons (o := ⟨some 6, .load 22 (.tmp 5), _, _, _, none⟩) rfl (fun K hK => ?_) AllReadyH.nil
    refine step_load_at rfl 22 (.tmp 5) rfl (.pointer (some ⟨w.heap.size, 2, none⟩)) rfl (.slice A n c) (load_one' (Tryz.agg_sl _) (K2.out.drew.cellAt rfl)) ?_
    refine hK.out _ _ hHeld (fun hHeld1 => ?_)
    clear hHeld hK K
    have hHeld := hHeld1
    clear hHeld1
    change wpAnyH _ _ _ _ _ _ _ (Act.put _ (some (6 : Nat)) (.slice A n c)) _
    simp only [Act.put, List.setIfInBounds_toArray, List.set_cons_zero, List.set_cons_succ]
    refine wpAnyH_ready (rs := [2]) (by kernel_rfl) (by simp) ?_
    refine AllReadyH.cons rfl (fun K hK => ?_) AllReadyH.nil
    go_simp
    refine ((HCl.out _ hHeld.1)).mono ?_
    rintro e w5 ⟨A5, n5, c5, rfl, hs5, hc5, hb5, hf5⟩; have HL5 := Lib.hid (K2.out.drew.through hb5); have HK5 := Lib.hid hb5; have HS5 := Lib.hid hs5; have HC5 := Lib.hid hc5; have HF5 := Lib.hid (fun a ha => Nat.le_trans hHeld.2.2.lt (hf5 a ha)); clear hb5 hs5 hc5 hf5
    go_wp2_with fail
    refine hK.out _ _ ⟨below_step hHeld.1 HK5.out, hHeld.2.1.through HK5.out, hHeld.2.2.through HK5.out⟩ (fun hHeld1 => ?_)
    clear hHeld hK K
    have hHeld := hHeld1
    clear hHeld1
    refine wpAnyH_take (i := 7) (v := (.pointer (some ⟨w.heap.size, 2, none⟩))) rfl (by kernel_rfl) (by kernel_rfl) (by kernel_rfl) (fun _ _ _ h => h) (Or.inl ⟨by kernel_rfl, fun w hSw => ?_⟩) (by assumption) ?_
    · (try dsimp only at hSw); go_simp <;> (try rfl)
    change wpAnyH _ _ _ _ _ _ _ (Act.put _ (some (12 : Nat)) (.pointer (some ⟨w.heap.size, 2, none⟩))) _
    simp only [Act.put, List.setIfInBounds_toArray, List.set_cons_zero, List.set_cons_succ]
    refine wpAnyH_ready (rs := [6]) (by kernel_rfl) (by simp) ?_
    refine AllReadyH.cons rfl (fun K hK => ?_) AllReadyH.nil
    go_simp
    refine ((HP.out _ hHeld.1)).mono ?_
    rintro e w6 ⟨B6, m6, d6, rfl, hs6, hc6, hb6, hf6⟩; have HL6 := Lib.hid (HL5.out.through hb6); have HK6 := Lib.hid hb6; have HS6 := Lib.hid hs6; have HS5b := Lib.hid (HS5.out.through hb6); have HC6 := Lib.hid hc6; have HF6 := Lib.hid (fun a ha => Nat.le_trans hHeld.2.2.lt (hf6 a ha)); clear hb6 hs6 hc6 hf6
    go_wp2_with fail
    refine hK.out _ _ ⟨below_step hHeld.1 HK6.out, hHeld.2.1.through HK6.out, hHeld.2.2.through HK6.out⟩ (fun hHeld1 => ?_)
    clear hHeld hK K
    have hHeld := hHeld1
    clear hHeld1
    refine wpAnyH_ready (rs := [8]) (by kernel_rfl) (by simp) ?_
    refine AllReadyH.cons (o := ⟨none, .store 22 (.tmp 12) (.tmp 7), _, _, _, none⟩) rfl (fun K hK => ?_) AllReadyH.nil
    refine step_store_cell (by simp [Region.wanted]) 22 (.tmp 12) (.tmp 7) rfl w.heap.size 2 rfl (.slice A5 n5 c5) rfl rfl rfl (fun w => by kernel_rfl) 25 [.int .i64 l.sq, .int .i64 l.tt, .slice A n c, .slice B m d] HL6.out (by simp) ?_; intro w8 hb8 hg8; have HL8 : Hid (Blk w8 w.heap.size 25 [.int .i64 l.sq, .int .i64 l.tt, .slice A5 n5 c5, .slice B m d]) := Lib.hid hb8; have HG8 := Lib.hid hg8; clear hb8 hg8
    refine hK.out _ _ ⟨hHeld.1.grown HG8.out hHeld.1.size (fun k hk => by have := Option.some.inj hk; omega), hHeld.2.1.grown HG8.out (by simp), hHeld.2.2.grown HG8.out (by simp)⟩ (fun hHeld1 => ?_)
    clear hHeld hK K
    have hHeld := hHeld1
    clear hHeld1
    change wpAnyH _ _ _ _ _ _ _ (Act.put _ none undef) _
    simp only [Act.put]
    refine wpAnyH_take (i := 9) (v := (.pointer (some ⟨w.heap.size, 3, none⟩))) rfl (by kernel_rfl) (by kernel_rfl) (by kernel_rfl) (fun _ _ _ h => h) (Or.inl ⟨by kernel_rfl, fun w hSw => ?_⟩) (by assumption) ?_
    · (try dsimp only at hSw); go_simp <;> (try rfl)
    change wpAnyH _ _ _ _ _ _ _ (Act.put _ (some (13 : Nat)) (.pointer (some ⟨w.heap.size, 3, none⟩))) _
    simp only [Act.put, List.setIfInBounds_toArray, List.set_cons_zero, List.set_cons_succ]
    refine wpAnyH_ready (rs := [10]) (by kernel_rfl) (by simp) ?_
    refine AllReadyH.cons (o := ⟨none, .store 23 (.tmp 13) (.tmp 11), _, _, _, none⟩) rfl (fun K hK => ?_) AllReadyH.nil
    refine step_store_cell (by simp [Region.wanted]) 23 (.tmp 13) (.tmp 11) rfl w.heap.size 3 rfl (.slice B6 m6 d6) rfl rfl rfl (fun w => by kernel_rfl) 25 [.int .i64 l.sq, .int .i64 l.tt, .slice A5 n5 c5, .slice B m d] HL8.out (by simp) ?_; intro w10 hb10 hg10; have HL10 : Hid (Blk w10 w.heap.size 25 [.int .i64 l.sq, .int .i64 l.tt, .slice A5 n5 c5, .slice B6 m6 d6]) := Lib.hid hb10; have HG10 := Lib.hid hg10; clear hb10 hg10
    refine hK.out _ _ ⟨hHeld.1.grown HG10.out hHeld.1.size (fun k hk => by have := Option.some.inj hk; omega), hHeld.2.1.grown HG10.out (by simp), hHeld.2.2.grown HG10.out (by simp)⟩ (fun hHeld1 => ?_)
    clear hHeld hK K
    have hHeld := hHeld1
    clear hHeld1
    change wpAnyH _ _ _ _ _ _ _ (Act.put _ none undef) _
    simp only [Act.put]
    refine wpAnyH_done (by kernel_rfl) ?_ _
    have HXe := Lib.hid hHeld.1
    have HZ := Lib.hid hHeld.2.2
    clear hHeld
    go_wp2_with (first
  | (refine wpList_load_blk rfl 25 (.tmp 2) rfl w.heap.size rfl 25 [.int .i64 l.sq, .int .i64 l.tt, .slice A5 n5 c5, .slice B6 m6 d6] _ HL10.out Tryz.underlying25 rfl (by kernel_rfl) ?_)
  | (refine wpList_store_blk rfl 25 (.tmp 4) (.tmp 14) rfl (w.heap.size + 2) [.int .i64 l.sq, .int .i64 l.tt, .slice A5 n5 c5, .slice B6 m6 d6] rfl rfl 25 [.int .i64 0, .int .i64 0, .slice none 0 0, .slice none 0 0] (HZ.out) (by kernel_rfl) rfl (one4 _ _ _ _ _ _ _ _) ?_; intro w9 hb9 hg9; have HB9 := Lib.hid hb9; have HX9 : Hid (Below w.heap.size w w9) := Lib.hid (HXe.out.grown hg9 HXe.out.size (fun k hk => by have := Option.some.inj hk; omega)); have HG9 := Lib.hid hg9; clear hb9 hg9))
    (try simp only [Exit.inBlock, Exit.then]); refine bodyPost_ret (results_cell_row_0 rfl _ _ (w.heap.size + 2) 25 _ (0, 0) _ rfl HB9.out Tryz.underlying25 rfl (by kernel_rfl)) rfl ?_
    have f5 := HF5.out
    have f6 := HF6.out
    refine ⟨A5, n5, c5, B6, m6, d6, rfl, ⟨((HS5b.out.far HG8.out fun a ha => by have := f5 a ha; omega).far HG10.out fun a ha => by have := f5 a ha; omega).far HG9.out fun a ha => by have := f5 a ha; omega, ((HS6.out.far HG8.out fun a ha => by have := f6 a ha; omega).far HG10.out fun a ha => by have := f6 a ha; omega).far HG9.out fun a ha => by have := f6 a ha; omega⟩, HC5.out, HC6.out, HX9.out, (fun a ha => by have := f5 a ha; omega), fun a ha => by have := f6 a ha; omega⟩
end

section
open Go.RowKit
theorem Tryz.build_e_lt (w : World) : (Instr.buildSlice 22 0 #[]).run Tryz.prog w = .ok (.slice (some ⟨w.heap.size, 0, none⟩) 0 0) (w.alloc (.cells #[] 39)) := by kernel_rfl
theorem Tryz.build_e_oc (w : World) : (Instr.buildSlice 23 0 #[]).run Tryz.prog w = .ok (.slice (some ⟨w.heap.size, 0, none⟩) 0 0) (w.alloc (.cells #[] 56)) := by kernel_rfl
theorem Tryz.alloc_lg (w : World) : (Instr.alloc 25 true (.tuple #[])).run Tryz.prog w = .ok (.pointer (some ⟨w.heap.size, 0, none⟩)) (w.alloc (.cells #[.int .i64 0, .int .i64 0, .slice none 0 0, .slice none 0 0] 25)) := by kernel_rfl
theorem step_build_empty {P : Program} {s e : TypeId} {k : Nat} {ops : Array Oper} {o : Oper} {a : Act} {w : World} {K : Act → World → Prop} {Q : Exit → Act → World → Prop} {F : Prop} (hgd : o.guard = none) (ho : o.op = .buildSlice s 0 #[])
    (hrun : (Instr.buildSlice s 0 #[]).run P w = .ok (.slice (some ⟨w.heap.size, 0, none⟩) 0 0) (w.alloc (.cells #[] e)))
    (h : ∀ g w', Os w' w.heap.size e k (.slice (some ⟨g, 0, none⟩) 0 0) [] → Below w.heap.size w w' → K (a.put o.dst (.slice (some ⟨g, 0, none⟩) 0 0)) w') : if Region.wanted o (yielded ops a.tmps) = true then Oper.wp P o a w K Q else F := by
  have hw : Region.wanted o (yielded ops a.tmps) = true := by simp [Region.wanted, hgd]
  rw [if_pos hw]
  unfold Oper.wp execOp
  simp only [ho, Sem.run_bind, List.map_toArray, List.map_nil, hrun, Result.andThen_ok]
  exact h _ _ (Os.made w e k) ((Below.refl _ w).alloc (Nat.le_refl _) _)
theorem step_alloc_lg {P : Program} {T : TypeId} {cs : List Value} {ops : Array Oper} {o : Oper} {a : Act} {w : World} {K : Act → World → Prop} {Q : Exit → Act → World → Prop} {F : Prop} (hgd : o.guard = none) (ho : o.op = .alloc T)
    (hrun : (Instr.alloc T true (.tuple #[])).run P w = .ok (.pointer (some ⟨w.heap.size, 0, none⟩)) (w.alloc (.cells cs.toArray T)))
    (h : ∀ g w', w.heap.size ≤ g → Blk w' g T cs → Below w.heap.size w w' → K (a.put o.dst (.pointer (some ⟨g, 0, none⟩))) w') : if Region.wanted o (yielded ops a.tmps) = true then Oper.wp P o a w K Q else F := by
  have hw : Region.wanted o (yielded ops a.tmps) = true := by simp [Region.wanted, hgd]
  rw [if_pos hw]
  unfold Oper.wp execOp
  simp only [ho, Sem.run_bind, hrun, Result.andThen_ok]
  exact h _ _ (Nat.le_refl _) (Blk.fresh rfl rfl) ((Below.refl _ w).alloc (Nat.le_refl _) _)
/-- A row of one's own of another type grows. -/
theorem Os.apart {w w' : World} {B B' : Nat} {e e' : TypeId} {k k' : Nat} {v v' : Value} {xs xs' : List (List Value)} (h : Os w B e k v xs) (h' : Os w B' e' k' v' xs') (hne : e' ≠ e) (hg : w.grownBy w' v'.ownBlock) : Os w' B e k v xs := by
  rcases h'.1.2 with ⟨rfl, _⟩ | ⟨g, cap, cur, rfl, _, hg2, _⟩
  · exact h.keep fun b _ hl _ => hg.block b hl (by simp [Value.ownBlock])
  · exact h.only hg hg2 hne
theorem Blk.apart {w w' : World} {g : Nat} {t : TypeId} {cs : List Value} {B' : Nat} {e' : TypeId} {k' : Nat} {v' : Value} {xs' : List (List Value)} (h : Blk w g t cs) (h' : Os w B' e' k' v' xs') (hne : t ≠ e') (hg : w.grownBy w' v'.ownBlock) : Blk w' g t cs := by
  rcases h'.1.2 with ⟨rfl, _⟩ | ⟨g2, cap, cur, rfl, _, hg2, _⟩
  · exact h.grown hg (by simp [Value.ownBlock])
  · refine h.grown hg (fun e2 => ?_)
    have e3 : g = g2 := Option.some.inj e2
    subst e3
    unfold Blk at h
    rw [hg2] at h
    injection h with h
    injection h with _ ht
    exact hne ht.symm
theorem withL_lens (l : Lg) (x : Lt) : (withL l x).1.ls.length ≤ l.ls.length + 1 ∧ (withL l x).1.os.length ≤ l.os.length := by
  unfold withL
  split
  · exact ⟨by simp [Lg.no], by simp [Lg.no]⟩
  · split
    · exact ⟨by simp [Lg.no], by simp [Lg.no]⟩
    · exact ⟨putL_len _ _ _, Nat.le_refl _⟩
theorem toldL_lens (l : Lg) (o : Oc) : (toldL l o).ls.length ≤ l.ls.length ∧ (toldL l o).os.length ≤ l.os.length + 1 := ⟨Nat.le_refl _, putO_len _ _ _⟩
theorem LgIn.stored2 {w w' : World} {A : Option Addr} {n : Nat} {B : Option Addr} {m : Nat} {l : Lg} {g : Nat} {t : TypeId} {i j : Int} {A2 : Option Addr} {n2 c2 : Nat} {B2 : Option Addr} {m2 d2 : Nat} (h : LgIn w A n B m l) (hb : Blk w g t [.int .i64 i, .int .i64 j, .slice A2 n2 c2, .slice B2 m2 d2]) (hg : w.grownBy w' (some g)) : LgIn w' A n B m l := by
  refine ⟨⟨h.1.1, fun hn => ?_⟩, ⟨h.2.1, fun hm => ?_⟩⟩
  · obtain ⟨g', o, e, hc⟩ := h.1.2 hn
    have hne : g' ≠ g := by
      rintro rfl
      obtain ⟨g2, o2, x, e2, _, _, _, hr⟩ := h.lt_at (i := 0) hn
      rw [e] at e2
      obtain ⟨rfl, rfl⟩ : g' = g2 ∧ o = o2 := by simpa using e2
      have h1 := hr 0 (.string (ba x.nm)) rfl
      rw [hb.cell] at h1
      have h2 := List.mem_of_getElem? h1
      simp at h2
    exact ⟨g', o, e, fun i cs hi => rangeAt.only (hc i cs hi) hg hne⟩
  · obtain ⟨g', o, e, hc⟩ := h.2.2 hm
    have hne : g' ≠ g := by
      rintro rfl
      obtain ⟨g2, o2, x, e2, _, _, _, hr⟩ := h.oc_at (i := 0) hm
      rw [e] at e2
      obtain ⟨rfl, rfl⟩ : g' = g2 ∧ o = o2 := by simpa using e2
      have h1 := hr 2 (.int .i64 x.rs) rfl
      rw [hb.cell] at h1
      have h3 : o + 0 * 3 + 2 < 4 := (List.getElem?_eq_some_iff.1 h1).1
      have h4 : o = 0 ∨ o = 1 := by omega
      rcases h4 with rfl | rfl <;> simp at h1
    exact ⟨g', o, e, fun i cs hi => rangeAt.only (hc i cs hi) hg hne⟩
end

section
open Go.RowKit
theorem LgIn.stored {w w' : World} {A : Option Addr} {n : Nat} {B : Option Addr} {m : Nat} {l : Lg} {g : Nat} {t : TypeId} {i j : Int} {A2 : Option Addr} {n2 c2 : Nat} {B2 : Option Addr} {m2 d2 : Nat} (h : LgIn w A n B m l) (hb : Blk w g t [.int .i64 i, .int .i64 j, .slice A2 n2 c2, .slice B2 m2 d2]) (hg : w.grownBy w' (some g)) : LgIn w' A n B m l := by
  refine ⟨⟨h.1.1, fun hn => ?_⟩, ⟨h.2.1, fun hm => ?_⟩⟩
  · obtain ⟨g', o, e, hc⟩ := h.1.2 hn
    have hne : g' ≠ g := by
      rintro rfl
      obtain ⟨g2, o2, x, e2, _, _, _, hr⟩ := h.lt_at (i := 0) hn
      rw [e] at e2
      obtain ⟨rfl, rfl⟩ : g' = g2 ∧ o = o2 := by simpa using e2
      have h1 := hr 0 (.string (ba x.nm)) rfl
      rw [hb.cell] at h1
      have h2 := List.mem_of_getElem? h1
      simp at h2
    exact ⟨g', o, e, fun i cs hi => rangeAt.only (hc i cs hi) hg hne⟩
  · obtain ⟨g', o, e, hc⟩ := h.2.2 hm
    have hne : g' ≠ g := by
      rintro rfl
      obtain ⟨g2, o2, x, e2, _, _, _, hr⟩ := h.oc_at (i := 0) hm
      rw [e] at e2
      obtain ⟨rfl, rfl⟩ : g' = g2 ∧ o = o2 := by simpa using e2
      have h1 := hr 2 (.int .i64 x.rs) rfl
      rw [hb.cell] at h1
      have h3 : o + 0 * 3 + 2 < 4 := (List.getElem?_eq_some_iff.1 h1).1
      have h4 : o = 0 ∨ o = 1 := by omega
      rcases h4 with rfl | rfl <;> simp at h1
    exact ⟨g', o, e, fun i cs hi => rangeAt.only (hc i cs hi) hg hne⟩
theorem with_one {a : Lt} (h : isNm a.nm = true) : withL Lg.no a = (⟨0, 0, [a], []⟩, 0) := by simp [withL, h, Lg.no, putL, findL]
theorem two_lt {a b : Lt} (ha : isNm a.nm = true) (hb : isNm b.nm = true) (hne : a.nm ≠ b.nm) : ∃ s0 s1 : Lt, ltS s0.nm s1.nm = true ∧ withL ⟨0, 0, [a], []⟩ b = (⟨0, 0, [s0, s1], []⟩, 0) ∧ withL ⟨0, 0, [b], []⟩ a = (⟨0, 0, [s0, s1], []⟩, 0) := by
  have hne2 : b.nm ≠ a.nm := fun e => hne e.symm
  cases h : ltS a.nm b.nm with
  | true =>
    have h2 := ltS_asymm h
    exact ⟨a, b, h, by simp [withL, hb, findL, putL, hne, h2], by simp [withL, ha, findL, putL, hne2, h]⟩
  | false =>
    have h2 := ltS_total hne h
    exact ⟨b, a, h2, by simp [withL, hb, findL, putL, hne, h2], by simp [withL, ha, findL, putL, hne2, h]⟩
theorem told_one (S : List Lt) (o : Oc) : toldL ⟨0, 0, S, []⟩ o = ⟨0, 0, S, [o]⟩ := by simp [toldL, putO]
theorem two_oc {o p : Oc} (hne : o.cl ≠ p.cl) : ∃ q0 q1 : Oc, q0.cl < q1.cl ∧ (∀ S, toldL ⟨0, 0, S, [o]⟩ p = ⟨0, 0, S, [q0, q1]⟩) ∧ (∀ S, toldL ⟨0, 0, S, [p]⟩ o = ⟨0, 0, S, [q0, q1]⟩) := by
  have hne2 : p.cl ≠ o.cl := fun e => hne e.symm
  by_cases h : o.cl < p.cl
  · have h2 : ¬ p.cl < o.cl := by omega
    exact ⟨o, p, h, fun S => by simp [toldL, putO, lastL, hne, h2], fun S => by simp [toldL, putO, lastL, hne2, h]⟩
  · have h2 : p.cl < o.cl := by omega
    exact ⟨p, o, h2, fun S => by simp [toldL, putO, lastL, hne, h2], fun S => by simp [toldL, putO, lastL, hne2, h]⟩
end

end Go.Proofs.YtfflkodgojiklaaGreatDoor
