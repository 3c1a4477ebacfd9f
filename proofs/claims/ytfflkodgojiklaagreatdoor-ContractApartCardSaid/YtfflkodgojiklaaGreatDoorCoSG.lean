/-
  Stale; copyOf.
-/
import Derived.Test.YtfflkodgojiklaaGreatDoorCoF
namespace Go.Proofs.YtfflkodgojiklaaGreatDoor
open Go.RowKit

set_option maxHeartbeats 8000000 in
set_option maxRecDepth 100000 in
theorem stale_any (y : Ey) (l : Lg) (A : Option Addr) (nn c : Nat) (B : Option Addr) (m d : Nat) (w : World) (hL : LgIn w A nn B m l) (hm : m ≤ 1000000) :
    Calls Tryz.prog 15 #[.agg #[.int .i64 l.sq, .int .i64 l.tt, .slice A nn c, .slice B m d], .agg #[.int .i64 y.co.cl, .int .i64 y.co.sp, .int .i64 y.co.op, .string (ba y.co.lt), .int .i64 y.co.a, .int .i64 y.co.b, .string (ba y.co.tx)]] w fun e w' => e = .returned (.bool (staleL l y.co)) ∧ Below w.heap.size w w' := by
  have hf : ∀ W, Below w.heap.size w W → Calls Tryz.prog 32 #[l.val A nn c B m d, .int .i64 y.co.cl] W fun e w' => e = .returned (.tuple #[.agg (lastR (lastL y.co.cl l.os)).1.cells.toArray, .bool (lastR (lastL y.co.cl l.os)).2]) ∧ Below W.heap.size W w' := fun W hW => last_any l y.co.cl A nn c B m d W (hL.through hW) hm
  have hst : staleL l y.co = ((lastR (lastL y.co.cl l.os)).2 && decide (y.co.sp ≤ (lastR (lastL y.co.cl l.os)).1.sp)) := by
    unfold staleL
    cases lastL y.co.cl l.os <;> rfl
  rw [hst]
  obtain ⟨⟨z, bo⟩, hr⟩ : ∃ r, lastR (lastL y.co.cl l.os) = r := ⟨_, rfl⟩
  rw [hr] at hf ⊢
  simp only at hf ⊢
  have hf2 : ∀ W, Below w.heap.size w W → Calls Tryz.prog 32 #[.agg #[.int .i64 l.sq, .int .i64 l.tt, .slice A nn c, .slice B m d], .int .i64 y.co.cl] W fun e w' => e = .returned (.tuple #[.agg #[.int .i64 z.cl, .int .i64 z.sp, .int .i64 z.rs], .bool bo]) ∧ Below W.heap.size W w' := hf
  have HF := Lib.hid hf2
  have HX0 : Hid (Below w.heap.size w ((w.alloc (.cells #[.int .i64 l.sq, .int .i64 l.tt, .slice A nn c, .slice B m d] 25)).alloc (.cells #[.int .i64 y.co.cl, .int .i64 y.co.sp, .int .i64 y.co.op, .string (ba y.co.lt), .int .i64 y.co.a, .int .i64 y.co.b, .string (ba y.co.tx)] 27))) := Lib.hid (below2 w _ _)
  have H1 : Hid (Blk ((w.alloc (.cells #[.int .i64 l.sq, .int .i64 l.tt, .slice A nn c, .slice B m d] 25)).alloc (.cells #[.int .i64 y.co.cl, .int .i64 y.co.sp, .int .i64 y.co.op, .string (ba y.co.lt), .int .i64 y.co.a, .int .i64 y.co.b, .string (ba y.co.tx)] 27)) (w.heap.size + 1) 27 [.int .i64 y.co.cl, .int .i64 y.co.sp, .int .i64 y.co.op, .string (ba y.co.lt), .int .i64 y.co.a, .int .i64 y.co.b, .string (ba y.co.tx)]) := Lib.hid (Blk.fresh (by simp) rfl)
  clear hf hf2 hL hr hst
  cases bo with
  | true =>
    rw [Bool.true_and]
    go_enter Tryz.func15, Tryz.ntmps15
    go_wp2_with (first
      | (go_at_call 32; (with_reducible refine (HF.out _ HX0.out).mono ?_); rintro e w1 ⟨rfl, hb1⟩; have HX1 : Hid (Below w.heap.size w (w1.alloc (.cells #[.int .i64 z.cl, .int .i64 z.sp, .int .i64 z.rs] 56))) := Lib.hid ((below_step HX0.out hb1).alloc (Nat.le_trans HX0.out.size hb1.size) _); have cz : (w1.alloc (.cells #[.int .i64 z.cl, .int .i64 z.sp, .int .i64 z.rs] 56)).cell? ⟨w1.heap.size, 1, none⟩ = some (.int .i64 z.sp) := (Blk.fresh (w := w1) (g := w1.heap.size) (t := 56) (cs := [.int .i64 z.cl, .int .i64 z.sp, .int .i64 z.rs]) rfl rfl).cellAt (i := 1) rfl; have cy : (w1.alloc (.cells #[.int .i64 z.cl, .int .i64 z.sp, .int .i64 z.rs] 56)).cell? ⟨w.heap.size + 1, 1, none⟩ = some (.int .i64 y.co.sp) := ((H1.out.through hb1).alloc _).cellAt (i := 1) rfl; clear hb1))
    go_ret
    exact ⟨(by first | trivial | exact ret_b rfl), HX1.out⟩
  | false =>
    rw [Bool.false_and]
    go_enter Tryz.func15, Tryz.ntmps15
    go_wp2_with (first
      | (go_at_call 32; (with_reducible refine (HF.out _ HX0.out).mono ?_); rintro e w1 ⟨rfl, hb1⟩; have HX1 : Hid (Below w.heap.size w (w1.alloc (.cells #[.int .i64 z.cl, .int .i64 z.sp, .int .i64 z.rs] 56))) := Lib.hid ((below_step HX0.out hb1).alloc (Nat.le_trans HX0.out.size hb1.size) _); have cz : (w1.alloc (.cells #[.int .i64 z.cl, .int .i64 z.sp, .int .i64 z.rs] 56)).cell? ⟨w1.heap.size, 1, none⟩ = some (.int .i64 z.sp) := (Blk.fresh (w := w1) (g := w1.heap.size) (t := 56) (cs := [.int .i64 z.cl, .int .i64 z.sp, .int .i64 z.rs]) rfl rfl).cellAt (i := 1) rfl; have cy : (w1.alloc (.cells #[.int .i64 z.cl, .int .i64 z.sp, .int .i64 z.rs] 56)).cell? ⟨w.heap.size + 1, 1, none⟩ = some (.int .i64 y.co.sp) := ((H1.out.through hb1).alloc _).cellAt (i := 1) rfl; clear hb1))
    go_ret
    exact ⟨(by first | trivial | exact ret_b rfl), HX1.out⟩

set_option maxHeartbeats 8000000 in
set_option maxRecDepth 100000 in
theorem copy_any (l : Lg) (A : Option Addr) (n c : Nat) (B : Option Addr) (m d : Nat) (w : World) (h : LgIn w A n B m l) (hn : n ≤ 1000000) (hm : m ≤ 1000000) :
    Calls Tryz.prog 16 #[.agg #[.int .i64 l.sq, .int .i64 l.tt, .slice A n c, .slice B m d]] w (LgOutC w l) := by
  have hcl : ∀ W, Below w.heap.size w W → Calls Tryz.prog 33 #[.slice A n c] W (SlOut W 6 (l.ls.map Lt.cells)) := fun W hW => cloneL_any l.ls A n c W (h.1.through hW) hn
  have hco : ∀ W, Below w.heap.size w W → Calls Tryz.prog 34 #[.slice B m d] W (SlOut W 3 (l.os.map Oc.cells)) := fun W hW => cloneO_any l.os B m d W (h.2.through hW) hm
  have HX0 : Hid (Below w.heap.size w ((w.alloc (.cells #[.int .i64 l.sq, .int .i64 l.tt, .slice A n c, .slice B m d] 25)).alloc (.cells #[.int .i64 0, .int .i64 0, .slice none 0 0, .slice none 0 0] 25))) := Lib.hid (below2 w _ _)
  have K2 : Hid (Blk ((w.alloc (.cells #[.int .i64 l.sq, .int .i64 l.tt, .slice A n c, .slice B m d] 25)).alloc (.cells #[.int .i64 0, .int .i64 0, .slice none 0 0, .slice none 0 0] 25)) w.heap.size 25 [.int .i64 l.sq, .int .i64 l.tt, .slice A n c, .slice B m d]) := Lib.hid ((Blk.fresh rfl rfl).alloc _)
  have K3 : Hid (Blk ((w.alloc (.cells #[.int .i64 l.sq, .int .i64 l.tt, .slice A n c, .slice B m d] 25)).alloc (.cells #[.int .i64 0, .int .i64 0, .slice none 0 0, .slice none 0 0] 25)) (w.heap.size + 1) 25 [.int .i64 0, .int .i64 0, .slice none 0 0, .slice none 0 0]) := Lib.hid (Blk.fresh (by simp) rfl)
  have HCl := Lib.hid hcl
  have HCo := Lib.hid hco
  clear h hcl hco
  go_enter Tryz.func16, Tryz.ntmps16
  go_wp2
  try dsimp only [Act.put]
  generalize ((w.alloc (.cells #[.int .i64 l.sq, .int .i64 l.tt, .slice A n c, .slice B m d] 25)).alloc (.cells #[.int .i64 0, .int .i64 0, .slice none 0 0, .slice none 0 0] 25)) = w3 at *
  refine wp_region_held_drew (S := fun W => Below w.heap.size w W ∧ Blk W (w.heap.size + 1) 25 [.int .i64 0, .int .i64 0, .slice none 0 0, .slice none 0 0]) (by kernel_rfl) ⟨HX0.out.drew, K3.out.drew⟩ (fun hHeld => ?_)
  change wpAnyH _ _ _ _ _ _ #[false, false, false, false, false, false, false, false, false, false] _ _
  refine wpAnyH_take (i := 0) (v := (.pointer (some ⟨w.heap.size, 2, none⟩))) rfl (by kernel_rfl) (by kernel_rfl) (by kernel_rfl) (fun _ _ _ h => h) (Or.inl ⟨by kernel_rfl, fun w hSw => ?_⟩) (by assumption) ?_
  · (try dsimp only at hSw); go_simp <;> (try rfl)
  change wpAnyH _ _ _ _ _ _ _ (Act.put _ (some (3 : Nat)) (.pointer (some ⟨w.heap.size, 2, none⟩))) _
  simp only [Act.put, List.setIfInBounds_toArray, List.set_cons_zero, List.set_cons_succ]
  refine wpAnyH_take (i := 3) (v := (.pointer (some ⟨w.heap.size, 3, none⟩))) rfl (by kernel_rfl) (by kernel_rfl) (by kernel_rfl) (fun _ _ _ h => h) (Or.inl ⟨by kernel_rfl, fun w hSw => ?_⟩) (by assumption) ?_
  · (try dsimp only at hSw); go_simp <;> (try rfl)
  change wpAnyH _ _ _ _ _ _ _ (Act.put _ (some (6 : Nat)) (.pointer (some ⟨w.heap.size, 3, none⟩))) _
  simp only [Act.put, List.setIfInBounds_toArray, List.set_cons_zero, List.set_cons_succ]
  refine wpAnyH_ready (rs := [1, 4]) (by kernel_rfl) (by simp) ?_
  refine AllReadyH.cons (o := ⟨some 4, .load 22 (.tmp 3), _, _, _, none⟩) rfl (fun K hK => ?_) (AllReadyH.cons (o := ⟨some 7, .load 23 (.tmp 6), _, _, _, none⟩) rfl (fun K hK => ?_) AllReadyH.nil)
  · as_aux_lemma =>
    refine step_load_at rfl 22 (.tmp 3) rfl (.pointer (some ⟨w.heap.size, 2, none⟩)) rfl (.slice A n c) (load_one' (Tryz.agg_sl _) (K2.out.drew.cellAt rfl)) ?_
    refine hK.out _ _ hHeld (fun hHeld1 => ?_)
    clear hHeld hK K
    have hHeld := hHeld1
    clear hHeld1
    change wpAnyH _ _ _ _ _ _ _ (Act.put _ (some (4 : Nat)) (.slice A n c)) _
    simp only [Act.put, List.setIfInBounds_toArray, List.set_cons_zero, List.set_cons_succ]
    refine wpAnyH_ready (rs := [2, 4]) (by kernel_rfl) (by simp) ?_
    refine AllReadyH.cons rfl (fun K hK => ?_) (AllReadyH.cons (o := ⟨some 7, .load 23 (.tmp 6), _, _, _, none⟩) rfl (fun K hK => ?_) AllReadyH.nil)
    · as_aux_lemma =>
      go_simp
      refine ((HCl.out _ hHeld.1)).mono ?_
      rintro e w5 ⟨A5, n5, c5, rfl, hs5, hc5, hb5, hf5⟩; have HL5 := Lib.hid (K2.out.drew.through hb5); have HK5 := Lib.hid hb5; have HS5 := Lib.hid hs5; have HC5 := Lib.hid hc5; have HF5 := Lib.hid (fun a ha => Nat.le_trans hHeld.2.lt (hf5 a ha)); clear hb5 hs5 hc5 hf5
      go_wp2_with fail
      refine hK.out _ _ ⟨below_step hHeld.1 HK5.out, hHeld.2.through HK5.out⟩ (fun hHeld1 => ?_)
      clear hHeld hK K
      have hHeld := hHeld1
      clear hHeld1
      refine wpAnyH_ready (rs := [4]) (by kernel_rfl) (by simp) ?_
      refine AllReadyH.cons (o := ⟨some 7, .load 23 (.tmp 6), _, _, _, none⟩) rfl (fun K hK => ?_) AllReadyH.nil
      refine step_load_at rfl 23 (.tmp 6) rfl (.pointer (some ⟨w.heap.size, 3, none⟩)) rfl (.slice B m d) (load_one' (Tryz.agg_so _) (HL5.out.cellAt rfl)) ?_
      refine hK.out _ _ hHeld (fun hHeld1 => ?_)
      clear hHeld hK K
      have hHeld := hHeld1
      clear hHeld1
      change wpAnyH _ _ _ _ _ _ _ (Act.put _ (some (7 : Nat)) (.slice B m d)) _
      simp only [Act.put, List.setIfInBounds_toArray, List.set_cons_zero, List.set_cons_succ]
      refine wpAnyH_take (i := 6) (v := (.pointer (some ⟨w.heap.size, 2, none⟩))) rfl (by kernel_rfl) (by kernel_rfl) (by kernel_rfl) (fun _ _ _ h => h) (Or.inl ⟨by kernel_rfl, fun w hSw => ?_⟩) (by assumption) ?_
      · (try dsimp only at hSw); go_simp <;> (try rfl)
      change wpAnyH _ _ _ _ _ _ _ (Act.put _ (some (9 : Nat)) (.pointer (some ⟨w.heap.size, 2, none⟩))) _
      simp only [Act.put, List.setIfInBounds_toArray, List.set_cons_zero, List.set_cons_succ]
      refine wpAnyH_ready (rs := [5]) (by kernel_rfl) (by simp) ?_
      refine AllReadyH.cons rfl (fun K hK => ?_) AllReadyH.nil
      go_simp
      refine ((HCo.out _ hHeld.1)).mono ?_
      rintro e w6 ⟨B6, m6, d6, rfl, hs6, hc6, hb6, hf6⟩; have HL6 := Lib.hid (HL5.out.through hb6); have HK6 := Lib.hid hb6; have HS6 := Lib.hid hs6; have HS5b := Lib.hid (HS5.out.through hb6); have HC6 := Lib.hid hc6; have HF6 := Lib.hid (fun a ha => Nat.le_trans hHeld.2.lt (hf6 a ha)); clear hb6 hs6 hc6 hf6
      go_wp2_with fail
      refine hK.out _ _ ⟨below_step hHeld.1 HK6.out, hHeld.2.through HK6.out⟩ (fun hHeld1 => ?_)
      clear hHeld hK K
      have hHeld := hHeld1
      clear hHeld1
      refine wpAnyH_ready (rs := [7]) (by kernel_rfl) (by simp) ?_
      refine AllReadyH.cons (o := ⟨none, .store 22 (.tmp 9) (.tmp 5), _, _, _, none⟩) rfl (fun K hK => ?_) AllReadyH.nil
      refine step_store_cell (by simp [Region.wanted]) 22 (.tmp 9) (.tmp 5) rfl w.heap.size 2 rfl (.slice A5 n5 c5) rfl rfl rfl (fun w => by kernel_rfl) 25 [.int .i64 l.sq, .int .i64 l.tt, .slice A n c, .slice B m d] HL6.out (by simp) ?_; intro w7 hb7 hg7; have HL8 : Hid (Blk w7 w.heap.size 25 [.int .i64 l.sq, .int .i64 l.tt, .slice A5 n5 c5, .slice B m d]) := Lib.hid hb7; have HG7 := Lib.hid hg7; clear hb7 hg7
      refine hK.out _ _ ⟨hHeld.1.grown HG7.out hHeld.1.size (fun k hk => by have := Option.some.inj hk; omega), hHeld.2.grown HG7.out (by simp)⟩ (fun hHeld1 => ?_)
      clear hHeld hK K
      have hHeld := hHeld1
      clear hHeld1
      change wpAnyH _ _ _ _ _ _ _ (Act.put _ none undef) _
      simp only [Act.put]
      refine wpAnyH_take (i := 8) (v := (.pointer (some ⟨w.heap.size, 3, none⟩))) rfl (by kernel_rfl) (by kernel_rfl) (by kernel_rfl) (fun _ _ _ h => h) (Or.inl ⟨by kernel_rfl, fun w hSw => ?_⟩) (by assumption) ?_
      · (try dsimp only at hSw); go_simp <;> (try rfl)
      change wpAnyH _ _ _ _ _ _ _ (Act.put _ (some (10 : Nat)) (.pointer (some ⟨w.heap.size, 3, none⟩))) _
      simp only [Act.put, List.setIfInBounds_toArray, List.set_cons_zero, List.set_cons_succ]
      refine wpAnyH_ready (rs := [9]) (by kernel_rfl) (by simp) ?_
      refine AllReadyH.cons (o := ⟨none, .store 23 (.tmp 10) (.tmp 8), _, _, _, none⟩) rfl (fun K hK => ?_) AllReadyH.nil
      refine step_store_cell (by simp [Region.wanted]) 23 (.tmp 10) (.tmp 8) rfl w.heap.size 3 rfl (.slice B6 m6 d6) rfl rfl rfl (fun w => by kernel_rfl) 25 [.int .i64 l.sq, .int .i64 l.tt, .slice A5 n5 c5, .slice B m d] HL8.out (by simp) ?_; intro w9 hb9 hg9; have HG9x := Lib.hid hg9; have HL10 : Hid (Blk w9 w.heap.size 25 [.int .i64 l.sq, .int .i64 l.tt, .slice A5 n5 c5, .slice B6 m6 d6]) := Lib.hid hb9; have HG9 := Lib.hid hg9; clear hb9 hg9
      refine hK.out _ _ ⟨hHeld.1.grown HG9.out hHeld.1.size (fun k hk => by have := Option.some.inj hk; omega), hHeld.2.grown HG9.out (by simp)⟩ (fun hHeld1 => ?_)
      clear hHeld hK K
      have hHeld := hHeld1
      clear hHeld1
      change wpAnyH _ _ _ _ _ _ _ (Act.put _ none undef) _
      simp only [Act.put]
      refine wpAnyH_done (by kernel_rfl) ?_ _
      have HXe := Lib.hid hHeld.1
      have HZ := Lib.hid hHeld.2
      clear hHeld
      go_wp2_with (first
  | (refine wpList_load_blk rfl 25 (.tmp 1) rfl w.heap.size rfl 25 [.int .i64 l.sq, .int .i64 l.tt, .slice A5 n5 c5, .slice B6 m6 d6] _ HL10.out Tryz.underlying25 rfl (by kernel_rfl) ?_)
  | (refine wpList_store_blk rfl 25 (.tmp 2) (.tmp 11) rfl (w.heap.size + 1) [.int .i64 l.sq, .int .i64 l.tt, .slice A5 n5 c5, .slice B6 m6 d6] rfl rfl 25 [.int .i64 0, .int .i64 0, .slice none 0 0, .slice none 0 0] (HZ.out) (by kernel_rfl) rfl (one4 _ _ _ _ _ _ _ _) ?_; intro wz hbz hgz; have HB9 := Lib.hid hbz; have HX9 : Hid (Below w.heap.size w wz) := Lib.hid (HXe.out.grown hgz HXe.out.size (fun k hk => by have := Option.some.inj hk; omega)); have HG9 := Lib.hid hgz; clear hbz hgz))
      (try simp only [Exit.inBlock, Exit.then]); refine bodyPost_ret (results_cell_row_0 rfl _ _ (w.heap.size + 1) 25 _ (0, 0) _ rfl HB9.out Tryz.underlying25 rfl (by kernel_rfl)) rfl ?_
      have f5 := HF5.out
      have f6 := HF6.out
      refine ⟨A5, n5, c5, B6, m6, d6, rfl, ⟨((HS5b.out.far HG7.out fun a ha => by have := f5 a ha; omega).far HG9x.out fun a ha => by have := f5 a ha; omega).far HG9.out fun a ha => by have := f5 a ha; omega, ((HS6.out.far HG7.out fun a ha => by have := f6 a ha; omega).far HG9x.out fun a ha => by have := f6 a ha; omega).far HG9.out fun a ha => by have := f6 a ha; omega⟩, HC5.out, HC6.out, HX9.out, (fun a ha => by have := f5 a ha; omega), fun a ha => by have := f6 a ha; omega⟩
    · as_aux_lemma =>
      refine step_load_at rfl 23 (.tmp 6) rfl (.pointer (some ⟨w.heap.size, 3, none⟩)) rfl (.slice B m d) (load_one' (Tryz.agg_so _) (K2.out.drew.cellAt rfl)) ?_
      refine hK.out _ _ hHeld (fun hHeld1 => ?_)
      clear hHeld hK K
      have hHeld := hHeld1
      clear hHeld1
      change wpAnyH _ _ _ _ _ _ _ (Act.put _ (some (7 : Nat)) (.slice B m d)) _
      simp only [Act.put, List.setIfInBounds_toArray, List.set_cons_zero, List.set_cons_succ]
      refine wpAnyH_ready (rs := [2]) (by kernel_rfl) (by simp) ?_
      refine AllReadyH.cons rfl (fun K hK => ?_) AllReadyH.nil
      go_simp
      refine ((HCl.out _ hHeld.1)).mono ?_
      rintro e w5 ⟨A5, n5, c5, rfl, hs5, hc5, hb5, hf5⟩; have HL5 := Lib.hid (K2.out.drew.through hb5); have HK5 := Lib.hid hb5; have HS5 := Lib.hid hs5; have HC5 := Lib.hid hc5; have HF5 := Lib.hid (fun a ha => Nat.le_trans hHeld.2.lt (hf5 a ha)); clear hb5 hs5 hc5 hf5
      go_wp2_with fail
      refine hK.out _ _ ⟨below_step hHeld.1 HK5.out, hHeld.2.through HK5.out⟩ (fun hHeld1 => ?_)
      clear hHeld hK K
      have hHeld := hHeld1
      clear hHeld1
      refine wpAnyH_take (i := 6) (v := (.pointer (some ⟨w.heap.size, 2, none⟩))) rfl (by kernel_rfl) (by kernel_rfl) (by kernel_rfl) (fun _ _ _ h => h) (Or.inl ⟨by kernel_rfl, fun w hSw => ?_⟩) (by assumption) ?_
      · (try dsimp only at hSw); go_simp <;> (try rfl)
      change wpAnyH _ _ _ _ _ _ _ (Act.put _ (some (9 : Nat)) (.pointer (some ⟨w.heap.size, 2, none⟩))) _
      simp only [Act.put, List.setIfInBounds_toArray, List.set_cons_zero, List.set_cons_succ]
      refine wpAnyH_ready (rs := [5]) (by kernel_rfl) (by simp) ?_
      refine AllReadyH.cons rfl (fun K hK => ?_) AllReadyH.nil
      go_simp
      refine ((HCo.out _ hHeld.1)).mono ?_
      rintro e w6 ⟨B6, m6, d6, rfl, hs6, hc6, hb6, hf6⟩; have HL6 := Lib.hid (HL5.out.through hb6); have HK6 := Lib.hid hb6; have HS6 := Lib.hid hs6; have HS5b := Lib.hid (HS5.out.through hb6); have HC6 := Lib.hid hc6; have HF6 := Lib.hid (fun a ha => Nat.le_trans hHeld.2.lt (hf6 a ha)); clear hb6 hs6 hc6 hf6
      go_wp2_with fail
      refine hK.out _ _ ⟨below_step hHeld.1 HK6.out, hHeld.2.through HK6.out⟩ (fun hHeld1 => ?_)
      clear hHeld hK K
      have hHeld := hHeld1
      clear hHeld1
      refine wpAnyH_ready (rs := [7]) (by kernel_rfl) (by simp) ?_
      refine AllReadyH.cons (o := ⟨none, .store 22 (.tmp 9) (.tmp 5), _, _, _, none⟩) rfl (fun K hK => ?_) AllReadyH.nil
      refine step_store_cell (by simp [Region.wanted]) 22 (.tmp 9) (.tmp 5) rfl w.heap.size 2 rfl (.slice A5 n5 c5) rfl rfl rfl (fun w => by kernel_rfl) 25 [.int .i64 l.sq, .int .i64 l.tt, .slice A n c, .slice B m d] HL6.out (by simp) ?_; intro w7 hb7 hg7; have HL8 : Hid (Blk w7 w.heap.size 25 [.int .i64 l.sq, .int .i64 l.tt, .slice A5 n5 c5, .slice B m d]) := Lib.hid hb7; have HG7 := Lib.hid hg7; clear hb7 hg7
      refine hK.out _ _ ⟨hHeld.1.grown HG7.out hHeld.1.size (fun k hk => by have := Option.some.inj hk; omega), hHeld.2.grown HG7.out (by simp)⟩ (fun hHeld1 => ?_)
      clear hHeld hK K
      have hHeld := hHeld1
      clear hHeld1
      change wpAnyH _ _ _ _ _ _ _ (Act.put _ none undef) _
      simp only [Act.put]
      refine wpAnyH_take (i := 8) (v := (.pointer (some ⟨w.heap.size, 3, none⟩))) rfl (by kernel_rfl) (by kernel_rfl) (by kernel_rfl) (fun _ _ _ h => h) (Or.inl ⟨by kernel_rfl, fun w hSw => ?_⟩) (by assumption) ?_
      · (try dsimp only at hSw); go_simp <;> (try rfl)
      change wpAnyH _ _ _ _ _ _ _ (Act.put _ (some (10 : Nat)) (.pointer (some ⟨w.heap.size, 3, none⟩))) _
      simp only [Act.put, List.setIfInBounds_toArray, List.set_cons_zero, List.set_cons_succ]
      refine wpAnyH_ready (rs := [9]) (by kernel_rfl) (by simp) ?_
      refine AllReadyH.cons (o := ⟨none, .store 23 (.tmp 10) (.tmp 8), _, _, _, none⟩) rfl (fun K hK => ?_) AllReadyH.nil
      refine step_store_cell (by simp [Region.wanted]) 23 (.tmp 10) (.tmp 8) rfl w.heap.size 3 rfl (.slice B6 m6 d6) rfl rfl rfl (fun w => by kernel_rfl) 25 [.int .i64 l.sq, .int .i64 l.tt, .slice A5 n5 c5, .slice B m d] HL8.out (by simp) ?_; intro w9 hb9 hg9; have HG9x := Lib.hid hg9; have HL10 : Hid (Blk w9 w.heap.size 25 [.int .i64 l.sq, .int .i64 l.tt, .slice A5 n5 c5, .slice B6 m6 d6]) := Lib.hid hb9; have HG9 := Lib.hid hg9; clear hb9 hg9
      refine hK.out _ _ ⟨hHeld.1.grown HG9.out hHeld.1.size (fun k hk => by have := Option.some.inj hk; omega), hHeld.2.grown HG9.out (by simp)⟩ (fun hHeld1 => ?_)
      clear hHeld hK K
      have hHeld := hHeld1
      clear hHeld1
      change wpAnyH _ _ _ _ _ _ _ (Act.put _ none undef) _
      simp only [Act.put]
      refine wpAnyH_done (by kernel_rfl) ?_ _
      have HXe := Lib.hid hHeld.1
      have HZ := Lib.hid hHeld.2
      clear hHeld
      go_wp2_with (first
  | (refine wpList_load_blk rfl 25 (.tmp 1) rfl w.heap.size rfl 25 [.int .i64 l.sq, .int .i64 l.tt, .slice A5 n5 c5, .slice B6 m6 d6] _ HL10.out Tryz.underlying25 rfl (by kernel_rfl) ?_)
  | (refine wpList_store_blk rfl 25 (.tmp 2) (.tmp 11) rfl (w.heap.size + 1) [.int .i64 l.sq, .int .i64 l.tt, .slice A5 n5 c5, .slice B6 m6 d6] rfl rfl 25 [.int .i64 0, .int .i64 0, .slice none 0 0, .slice none 0 0] (HZ.out) (by kernel_rfl) rfl (one4 _ _ _ _ _ _ _ _) ?_; intro wz hbz hgz; have HB9 := Lib.hid hbz; have HX9 : Hid (Below w.heap.size w wz) := Lib.hid (HXe.out.grown hgz HXe.out.size (fun k hk => by have := Option.some.inj hk; omega)); have HG9 := Lib.hid hgz; clear hbz hgz))
      (try simp only [Exit.inBlock, Exit.then]); refine bodyPost_ret (results_cell_row_0 rfl _ _ (w.heap.size + 1) 25 _ (0, 0) _ rfl HB9.out Tryz.underlying25 rfl (by kernel_rfl)) rfl ?_
      have f5 := HF5.out
      have f6 := HF6.out
      refine ⟨A5, n5, c5, B6, m6, d6, rfl, ⟨((HS5b.out.far HG7.out fun a ha => by have := f5 a ha; omega).far HG9x.out fun a ha => by have := f5 a ha; omega).far HG9.out fun a ha => by have := f5 a ha; omega, ((HS6.out.far HG7.out fun a ha => by have := f6 a ha; omega).far HG9x.out fun a ha => by have := f6 a ha; omega).far HG9.out fun a ha => by have := f6 a ha; omega⟩, HC5.out, HC6.out, HX9.out, (fun a ha => by have := f5 a ha; omega), fun a ha => by have := f6 a ha; omega⟩
  · as_aux_lemma =>
    refine step_load_at rfl 23 (.tmp 6) rfl (.pointer (some ⟨w.heap.size, 3, none⟩)) rfl (.slice B m d) (load_one' (Tryz.agg_so _) (K2.out.drew.cellAt rfl)) ?_
    refine hK.out _ _ hHeld (fun hHeld1 => ?_)
    clear hHeld hK K
    have hHeld := hHeld1
    clear hHeld1
    change wpAnyH _ _ _ _ _ _ _ (Act.put _ (some (7 : Nat)) (.slice B m d)) _
    simp only [Act.put, List.setIfInBounds_toArray, List.set_cons_zero, List.set_cons_succ]
    refine wpAnyH_ready (rs := [1]) (by kernel_rfl) (by simp) ?_
    refine AllReadyH.cons (o := ⟨some 4, .load 22 (.tmp 3), _, _, _, none⟩) rfl (fun K hK => ?_) AllReadyH.nil
    refine step_load_at rfl 22 (.tmp 3) rfl (.pointer (some ⟨w.heap.size, 2, none⟩)) rfl (.slice A n c) (load_one' (Tryz.agg_sl _) (K2.out.drew.cellAt rfl)) ?_
    refine hK.out _ _ hHeld (fun hHeld1 => ?_)
    clear hHeld hK K
    have hHeld := hHeld1
    clear hHeld1
    change wpAnyH _ _ _ _ _ _ _ (Act.put _ (some (4 : Nat)) (.slice A n c)) _
    simp only [Act.put, List.setIfInBounds_toArray, List.set_cons_zero, List.set_cons_succ]
    refine wpAnyH_ready (rs := [2]) (by kernel_rfl) (by simp) ?_
    refine AllReadyH.cons rfl (fun K hK => ?_) AllReadyH.nil
    go_simp
    refine ((HCl.out _ hHeld.1)).mono ?_
    rintro e w5 ⟨A5, n5, c5, rfl, hs5, hc5, hb5, hf5⟩; have HL5 := Lib.hid (K2.out.drew.through hb5); have HK5 := Lib.hid hb5; have HS5 := Lib.hid hs5; have HC5 := Lib.hid hc5; have HF5 := Lib.hid (fun a ha => Nat.le_trans hHeld.2.lt (hf5 a ha)); clear hb5 hs5 hc5 hf5
    go_wp2_with fail
    refine hK.out _ _ ⟨below_step hHeld.1 HK5.out, hHeld.2.through HK5.out⟩ (fun hHeld1 => ?_)
    clear hHeld hK K
    have hHeld := hHeld1
    clear hHeld1
    refine wpAnyH_take (i := 6) (v := (.pointer (some ⟨w.heap.size, 2, none⟩))) rfl (by kernel_rfl) (by kernel_rfl) (by kernel_rfl) (fun _ _ _ h => h) (Or.inl ⟨by kernel_rfl, fun w hSw => ?_⟩) (by assumption) ?_
    · (try dsimp only at hSw); go_simp <;> (try rfl)
    change wpAnyH _ _ _ _ _ _ _ (Act.put _ (some (9 : Nat)) (.pointer (some ⟨w.heap.size, 2, none⟩))) _
    simp only [Act.put, List.setIfInBounds_toArray, List.set_cons_zero, List.set_cons_succ]
    refine wpAnyH_ready (rs := [5]) (by kernel_rfl) (by simp) ?_
    refine AllReadyH.cons rfl (fun K hK => ?_) AllReadyH.nil
    go_simp
    refine ((HCo.out _ hHeld.1)).mono ?_
    rintro e w6 ⟨B6, m6, d6, rfl, hs6, hc6, hb6, hf6⟩; have HL6 := Lib.hid (HL5.out.through hb6); have HK6 := Lib.hid hb6; have HS6 := Lib.hid hs6; have HS5b := Lib.hid (HS5.out.through hb6); have HC6 := Lib.hid hc6; have HF6 := Lib.hid (fun a ha => Nat.le_trans hHeld.2.lt (hf6 a ha)); clear hb6 hs6 hc6 hf6
    go_wp2_with fail
    refine hK.out _ _ ⟨below_step hHeld.1 HK6.out, hHeld.2.through HK6.out⟩ (fun hHeld1 => ?_)
    clear hHeld hK K
    have hHeld := hHeld1
    clear hHeld1
    refine wpAnyH_ready (rs := [7]) (by kernel_rfl) (by simp) ?_
    refine AllReadyH.cons (o := ⟨none, .store 22 (.tmp 9) (.tmp 5), _, _, _, none⟩) rfl (fun K hK => ?_) AllReadyH.nil
    refine step_store_cell (by simp [Region.wanted]) 22 (.tmp 9) (.tmp 5) rfl w.heap.size 2 rfl (.slice A5 n5 c5) rfl rfl rfl (fun w => by kernel_rfl) 25 [.int .i64 l.sq, .int .i64 l.tt, .slice A n c, .slice B m d] HL6.out (by simp) ?_; intro w7 hb7 hg7; have HL8 : Hid (Blk w7 w.heap.size 25 [.int .i64 l.sq, .int .i64 l.tt, .slice A5 n5 c5, .slice B m d]) := Lib.hid hb7; have HG7 := Lib.hid hg7; clear hb7 hg7
    refine hK.out _ _ ⟨hHeld.1.grown HG7.out hHeld.1.size (fun k hk => by have := Option.some.inj hk; omega), hHeld.2.grown HG7.out (by simp)⟩ (fun hHeld1 => ?_)
    clear hHeld hK K
    have hHeld := hHeld1
    clear hHeld1
    change wpAnyH _ _ _ _ _ _ _ (Act.put _ none undef) _
    simp only [Act.put]
    refine wpAnyH_take (i := 8) (v := (.pointer (some ⟨w.heap.size, 3, none⟩))) rfl (by kernel_rfl) (by kernel_rfl) (by kernel_rfl) (fun _ _ _ h => h) (Or.inl ⟨by kernel_rfl, fun w hSw => ?_⟩) (by assumption) ?_
    · (try dsimp only at hSw); go_simp <;> (try rfl)
    change wpAnyH _ _ _ _ _ _ _ (Act.put _ (some (10 : Nat)) (.pointer (some ⟨w.heap.size, 3, none⟩))) _
    simp only [Act.put, List.setIfInBounds_toArray, List.set_cons_zero, List.set_cons_succ]
    refine wpAnyH_ready (rs := [9]) (by kernel_rfl) (by simp) ?_
    refine AllReadyH.cons (o := ⟨none, .store 23 (.tmp 10) (.tmp 8), _, _, _, none⟩) rfl (fun K hK => ?_) AllReadyH.nil
    refine step_store_cell (by simp [Region.wanted]) 23 (.tmp 10) (.tmp 8) rfl w.heap.size 3 rfl (.slice B6 m6 d6) rfl rfl rfl (fun w => by kernel_rfl) 25 [.int .i64 l.sq, .int .i64 l.tt, .slice A5 n5 c5, .slice B m d] HL8.out (by simp) ?_; intro w9 hb9 hg9; have HG9x := Lib.hid hg9; have HL10 : Hid (Blk w9 w.heap.size 25 [.int .i64 l.sq, .int .i64 l.tt, .slice A5 n5 c5, .slice B6 m6 d6]) := Lib.hid hb9; have HG9 := Lib.hid hg9; clear hb9 hg9
    refine hK.out _ _ ⟨hHeld.1.grown HG9.out hHeld.1.size (fun k hk => by have := Option.some.inj hk; omega), hHeld.2.grown HG9.out (by simp)⟩ (fun hHeld1 => ?_)
    clear hHeld hK K
    have hHeld := hHeld1
    clear hHeld1
    change wpAnyH _ _ _ _ _ _ _ (Act.put _ none undef) _
    simp only [Act.put]
    refine wpAnyH_done (by kernel_rfl) ?_ _
    have HXe := Lib.hid hHeld.1
    have HZ := Lib.hid hHeld.2
    clear hHeld
    go_wp2_with (first
  | (refine wpList_load_blk rfl 25 (.tmp 1) rfl w.heap.size rfl 25 [.int .i64 l.sq, .int .i64 l.tt, .slice A5 n5 c5, .slice B6 m6 d6] _ HL10.out Tryz.underlying25 rfl (by kernel_rfl) ?_)
  | (refine wpList_store_blk rfl 25 (.tmp 2) (.tmp 11) rfl (w.heap.size + 1) [.int .i64 l.sq, .int .i64 l.tt, .slice A5 n5 c5, .slice B6 m6 d6] rfl rfl 25 [.int .i64 0, .int .i64 0, .slice none 0 0, .slice none 0 0] (HZ.out) (by kernel_rfl) rfl (one4 _ _ _ _ _ _ _ _) ?_; intro wz hbz hgz; have HB9 := Lib.hid hbz; have HX9 : Hid (Below w.heap.size w wz) := Lib.hid (HXe.out.grown hgz HXe.out.size (fun k hk => by have := Option.some.inj hk; omega)); have HG9 := Lib.hid hgz; clear hbz hgz))
    (try simp only [Exit.inBlock, Exit.then]); refine bodyPost_ret (results_cell_row_0 rfl _ _ (w.heap.size + 1) 25 _ (0, 0) _ rfl HB9.out Tryz.underlying25 rfl (by kernel_rfl)) rfl ?_
    have f5 := HF5.out
    have f6 := HF6.out
    refine ⟨A5, n5, c5, B6, m6, d6, rfl, ⟨((HS5b.out.far HG7.out fun a ha => by have := f5 a ha; omega).far HG9x.out fun a ha => by have := f5 a ha; omega).far HG9.out fun a ha => by have := f5 a ha; omega, ((HS6.out.far HG7.out fun a ha => by have := f6 a ha; omega).far HG9x.out fun a ha => by have := f6 a ha; omega).far HG9.out fun a ha => by have := f6 a ha; omega⟩, HC5.out, HC6.out, HX9.out, (fun a ha => by have := f5 a ha; omega), fun a ha => by have := f6 a ha; omega⟩


end Go.Proofs.YtfflkodgojiklaaGreatDoor
