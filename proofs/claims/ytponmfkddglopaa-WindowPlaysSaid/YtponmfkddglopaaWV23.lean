/-
  Joined: TwND.
-/
import Derived.Deep.RegionHeld
import Derived.Deep.CutBlock
import Derived.BigGuard
import Derived.Test.YtponmfkddglopaaWV22
import Derived.Test.YtponmfkddglopaaWVT
namespace Go.Proofs.Ytponmfkddglopaa
open Go.RowKit

theorem Try.agg_mvD (w : World) : (isAgg 73).run Try.prog w = .ok false w := by kernel_rfl
theorem Try.agg_mcD (w : World) : (isAgg 74).run Try.prog w = .ok false w := by kernel_rfl
theorem Try.mk_mvD (w : World) : (Instr.makeMap 73 none).run Try.prog w = .ok (.map (some w.heap.size)) (w.alloc (.map #[] 0)) := by kernel_rfl
theorem Try.mk_mcD (w : World) : (Instr.makeMap 74 none).run Try.prog w = .ok (.map (some w.heap.size)) (w.alloc (.map #[] 0)) := by kernel_rfl
theorem Try.mv_nilD (r : Nat) (w : World) : (binOp .eql 73 (.map (some r)) (.map none)).run Try.prog w = .ok (.bool false) w := by kernel_rfl
set_option maxHeartbeats 16000000 in
set_option maxRecDepth 100000 in
theorem new_D (w : World) :
  Calls Try.prog 26 #[] w fun e w' => ∃ g gv gc, e = .returned (.pointer (some ⟨g, 0, none⟩)) ∧ TlR 76 encD okD w' g gv gc [] ∧ Below w.heap.size w w' ∧ ∀ q, D3 g gv gc q → w.heap.size ≤ q := by
 have hmk1 := Try.mk_mvD
 have hmk2 := Try.mk_mcD
 go_enter Try.func26, Try.ntmps26
 go_wp2
 go_ret
 have x1 : Below w.heap.size w (w.alloc (.map #[] 0)) := below1_ w _
 have x2 : Below (w.alloc (.map #[] 0)).heap.size (w.alloc (.map #[] 0)) ((w.alloc (.map #[] 0)).alloc (.map #[] 0)) := below1_ _ _
 have x3 := below1_ ((w.alloc (.map #[] 0)).alloc (.map #[] 0)) (.cells #[.map (some w.heap.size), .map (some (w.heap.size + 1))] 76)
 have h1 : VMp encD okD (w.alloc (.map #[] 0)) w.heap.size [] := VMp.made w
 have h2 : CMp encD okD ((w.alloc (.map #[] 0)).alloc (.map #[] 0)) (w.heap.size + 1) (fun _ => 0) := by
  have := CMp.made (enc := encD) (ok := okD) (w.alloc (.map #[] 0))
  rwa [World.size_alloc] at this
 refine ⟨w.heap.size + 1 + 1, w.heap.size, w.heap.size + 1, rfl, ⟨Blk.fresh (by simp) rfl, (h1.through x2).through x3, (h2.through x3).congr (fun q => rfl), by omega, List.nodup_nil⟩, below_step (below_step x1 x2) x3, ?_⟩
 rintro q (rfl | rfl | rfl) <;> omega
set_option maxHeartbeats 16000000 in
set_option maxRecDepth 100000 in
theorem count_D (g gc : Nat) (a : Value) (f : (List UInt8) → Int) (k : (List UInt8)) (by_ : Int) (w : World) (hg : Blk w g 76 [a, .map (some gc)]) (hc : CMp encD okD w gc f) (hk : okD k) (hf1 : -1000000 ≤ f k) (hf2 : f k ≤ 1000000) (hby : by_ = 1 ∨ by_ = -1) :
  Calls Try.prog 50 #[(.pointer (some ⟨g, 0, none⟩)), encD k, .int .i64 by_] w fun e w' => e = .returned (.tuple #[]) ∧ CMp encD okD w' gc (upd f k (f k + by_)) ∧ Ft (fun q => q = gc) w w' := by
 obtain ⟨n, hn⟩ : ∃ n, f k = n := ⟨_, rfl⟩
 rw [hn] at hf1 hf2
 have HN := Lib.hid hn
 have hnn : upd f k (n + by_) = upd f k (f k + by_) := by rw [hn]
 have hw64 : IntKind.i64.wrap (n + by_) = n + by_ := IntWalk.i64_in _ (by omega)
 have hw65 : wrap64 (n + by_) = n + by_ := IntWalk.wrap64_in _ (by omega)
 have HKk := Lib.hid hk
 have HKl : Hid ((vs k).length = 32) := Lib.hid (D_len k hk)
 have HNE : Hid (g ≠ gc) := Lib.hid (cm_ne hg hc)
 have HNB : Hid (w.heap.size ≠ gc) := Lib.hid (by have := hc.lt; omega)
 have X0 : Below w.heap.size w (w.alloc (.cells (vs k).toArray 40)) := below1_ w _
 have HB0 : Hid (Blk (w.alloc (.cells (vs k).toArray 40)) w.heap.size 40 (vs k)) := Lib.hid (Blk.fresh rfl rfl)
 have HG0 := Lib.hid (hg.through X0)
 have HC0 := Lib.hid (hc.through X0)
 have HX0 := Lib.hid X0
 have hsm : ∀ W, Calls Try.prog 43 #[(.agg (vs k).toArray), (.agg (vs k).toArray)] W fun e w' => e = .returned (.bool true) ∧ Below W.heap.size W w' := fun W => (same_D k k hk hk W).mono (by rintro e w' ⟨rfl, h9⟩; exact ⟨by simp, h9⟩)
 rw [show encD k = (.agg (vs k).toArray) from rfl]
 have HSm := Lib.hid hsm
 clear hg hc hk hn X0 hsm
 go_enter Try.func50, Try.ntmps50
 go_upto_region 2 with (first | (refine wpList_load_blk rfl 40 (.tmp 4) rfl w.heap.size rfl 40 (vs k) _ HB0.out Try.underlying40 rfl (by rw [HKl.out]; kernel_rfl) ?_) | (go_at_call 43; (with_reducible refine (HSm.out _).mono ?_); rintro e w1 ⟨rfl, hb1⟩; have HB1 := Lib.hid (HB0.out.through hb1); have HG1 := Lib.hid (HG0.out.through hb1); have HCd : Hid (CMp encD okD w1.drew gc f) := Lib.hid ((HC0.out.through hb1).keep rfl); have HF1 : Hid (Ft (fun q => q = gc) w w1.drew) := Lib.hid ((Ft.of_below (below_step HX0.out hb1)).deep (Below.refl _ w1).drew); clear hb1))
 refine wp_region_held_drew (S := fun W => Blk W g 76 [a, .map (some gc)] ∧ Blk W w.heap.size 40 (vs k)) (by kernel_rfl) ⟨HG1.out.drew, HB1.out.drew⟩ (fun hHeld => ?_)
 change wpAnyH _ _ _ _ _ _ #[false, false, false, false, false, false, false, false, false, false, false] _ _
 refine tkq (i := 0) (d := 10) (v := (.pointer (some ⟨g, 0, none⟩))) rfl rfl (Or.inl ⟨by kernel_rfl, fun w hSw => ?_⟩) (by assumption) ?_
 ·(try dsimp only at hSw); go_simp <;> (try rfl)
 simp only [Act.put, sq1, sq2, sq3]
 refine tkq (i := 1) (d := 11) (v := (.pointer (some ⟨g, 0, none⟩))) rfl rfl (Or.inl ⟨by kernel_rfl, fun w hSw => ?_⟩) (by assumption) ?_
 ·(try dsimp only at hSw); go_simp <;> (try rfl)
 simp only [Act.put, sq1, sq2, sq3]
 refine tkq (i := 2) (d := 12) (v := (.pointer (some ⟨g, 1, none⟩))) rfl rfl (Or.inl ⟨by kernel_rfl, fun w hSw => ?_⟩) (by assumption) ?_
 ·(try dsimp only at hSw); go_simp <;> (try rfl)
 simp only [Act.put, sq1, sq2, sq3]
 refine tkq (i := 3) (d := 13) (v := (.map (some gc))) rfl rfl (yields_load_at (by kernel_rfl) 74 (.tmp 12) rfl (.pointer (some ⟨g, 1, none⟩)) (by simp [Act.eval]) (.map (some gc)) (fun W hW => load_one' (Try.agg_mcD W) (Blk.cellAt hW.1 rfl))) (by assumption) ?_
 simp only [Act.put, sq1, sq2, sq3]
 refine tkq (i := 4) (d := 14) (v := (.agg (vs k).toArray)) rfl rfl (yieldsIf_load_mid (by kernel_rfl) 40 (.tmp 4) rfl w.heap.size 0 (by simp [Act.eval]) (vs k) _ (fun W hW => Blk.range (pre := []) (post := []) (by simpa using hW.2)) Try.underlying40 rfl (by rw [HKl.out]; kernel_rfl)) (by assumption) ?_
 simp only [Act.put, sq1, sq2, sq3]
 refine tkq (i := 6) (d := 16) (v := (.int .i64 by_)) rfl rfl (Or.inl ⟨by kernel_rfl, fun w hSw => ?_⟩) (by assumption) ?_
 ·(try dsimp only at hSw); go_simp <;> (try rfl)
 simp only [Act.put, sq1, sq2, sq3]
 refine wpAnyH_ready (rs := [5, 8]) (by kernel_rfl) (by simp) ?_
 refine AllReadyH.cons (o := ⟨some 15, .lookup 74 (.tmp 13) (.tmp 14) false, _, _, _, none⟩) rfl (fun K hK => ?_) (AllReadyH.cons (o := ⟨some 18, .mapEntry 74 (.tmp 13) (.tmp 14), _, _, _, none⟩) rfl (fun K hK => ?_) AllReadyH.nil)
 ·as_aux_lemma =>
  refine step_look (by kernel_rfl) 74 (.tmp 13) (.tmp 14) false rfl (.map (some gc)) (.agg (vs k).toArray) (.int .i64 n) (by simp [Act.eval]) (by simp [Act.eval]) (by have h9 := HCd.out.look Try.key_d Try.underlying74 HKk.out (Try.zero_i _); rw [HN.out] at h9; exact h9) ?_
  refine hK.out _ _ hHeld (fun hHeld1 => ?_)
  clear hHeld hK K
  have hHeld := hHeld1
  clear hHeld1
  change wpAnyH _ _ _ _ _ _ _ (Act.put _ (some (15 : Nat)) (.int .i64 n)) _
  simp only [Act.put, sq1, sq2, sq3]
  refine tkq (i := 7) (d := 17) (v := (.int .i64 (n + by_))) rfl rfl (Or.inl ⟨by kernel_rfl, fun w hSw => ?_⟩) (by assumption) ?_
  ·(try dsimp only at hSw); go_simp <;> (try rfl)
  simp only [Act.put, sq1, sq2, sq3]
  refine wpAnyH_ready (rs := [8]) (by kernel_rfl) (by simp) ?_
  refine AllReadyH.cons (o := ⟨some 18, .mapEntry 74 (.tmp 13) (.tmp 14), _, _, _, none⟩) rfl (fun K hK => ?_) AllReadyH.nil
  obtain ⟨u8, s8, hr8, hs8, hg8⟩ := HCd.out.entry Try.key_d Try.underlying74 HKk.out (Try.zero_i _); rw [HN.out] at hr8; refine step_ent (by kernel_rfl) 74 (.tmp 13) (.tmp 14) rfl (.map (some gc)) (.agg (vs k).toArray) (.tuple #[.int .i64 n, .int .i64 (s8 : Nat)]) (by simp [Act.eval]) (by simp [Act.eval]) u8 hr8 ?_; have HS8 := Lib.hid hs8; have HG8 := Lib.hid (HG1.out.drew.grown hg8 (fun e => HNE.out (Option.some.inj e))); have HB8 := Lib.hid (HB1.out.drew.grown hg8 (fun e => HNB.out (Option.some.inj e))); have HF8 := Lib.hid hg8; clear hr8 hs8 hg8
  refine hK.out _ _ ⟨HG8.out, HB8.out⟩ (fun hHeld1 => ?_)
  clear hHeld hK K
  have hHeld := hHeld1
  clear hHeld1
  change wpAnyH _ _ _ _ _ _ _ (Act.put _ (some (18 : Nat)) (.tuple #[.int .i64 n, .int .i64 (s8 : Nat)])) _
  simp only [Act.put, sq1, sq2, sq3]
  refine tkq (i := 9) (d := 19) (v := (.int .i64 (s8 : Nat))) rfl rfl (Or.inl ⟨by kernel_rfl, fun w hSw => ?_⟩) (by assumption) ?_
  ·(try dsimp only at hSw); go_simp <;> (try rfl)
  simp only [Act.put, sq1, sq2, sq3]
  refine wpAnyH_ready (rs := [10]) (by kernel_rfl) (by simp) ?_
  refine AllReadyH.cons (o := ⟨none, .entryStore 74 (.tmp 13) (.tmp 19) (.tmp 17), _, _, _, none⟩) rfl (fun K hK => ?_) AllReadyH.nil
  obtain ⟨u10, hr10, hc10, hg10⟩ := HS8.out.store (P := Try.prog) (mt := 74) HKk.out (n + by_); refine step_sto (by kernel_rfl) 74 (.tmp 13) (.tmp 19) (.tmp 17) rfl (.map (some gc)) (.int .i64 (s8 : Nat)) (.int .i64 (n + by_)) (by simp [Act.eval]) (by simp [Act.eval]) (by simp [Act.eval]) u10 hr10 ?_; have HC10 := Lib.hid hc10; have HG10 := Lib.hid (HG8.out.grown hg10 (fun e => HNE.out (Option.some.inj e))); have HB10 := Lib.hid (HB8.out.grown hg10 (fun e => HNB.out (Option.some.inj e))); have HF10 : Hid (Ft (fun q => q = gc) w u10) := Lib.hid ((HF1.out.trans (Ft.of_grown HF8.out (fun b hb => .inl (Option.some.inj hb).symm)) (fun q hq => .inl hq)).trans (Ft.of_grown hg10 (fun b hb => .inl (Option.some.inj hb).symm)) (fun q hq => .inl hq)); clear hr10 hc10 hg10
  refine hK.out _ _ ⟨HG10.out, HB10.out⟩ (fun hHeld1 => ?_)
  clear hHeld hK K
  have hHeld := hHeld1
  clear hHeld1
  change wpAnyH _ _ _ _ _ _ _ (Act.put _ none undef) _
  simp only [Act.put]
  refine wpAnyH_done (by kernel_rfl) ?_ _
  go_upto_region 3 with fail
  refine wp_region_held_drew (S := fun W => (Blk W g 76 [a, .map (some gc)] ∧ Blk W w.heap.size 40 (vs k)) ∧ CMp encD okD W gc (upd f k (n + by_))) (by kernel_rfl) ⟨⟨HG10.out.drew, HB10.out.drew⟩, HC10.out.keep rfl⟩ (fun hHeld => ?_)
  change wpAnyH _ _ _ _ _ _ #[false, false, false, false, false, false, false] _ _
  refine tkq (i := 0) (d := 20) (v := (.pointer (some ⟨g, 0, none⟩))) rfl rfl (Or.inl ⟨by kernel_rfl, fun w hSw => ?_⟩) (by assumption) ?_
  ·(try dsimp only at hSw); go_simp <;> (try rfl)
  simp only [Act.put, sq1, sq2, sq3]
  refine tkq (i := 1) (d := 21) (v := (.pointer (some ⟨g, 0, none⟩))) rfl rfl (Or.inl ⟨by kernel_rfl, fun w hSw => ?_⟩) (by assumption) ?_
  ·(try dsimp only at hSw); go_simp <;> (try rfl)
  simp only [Act.put, sq1, sq2, sq3]
  refine tkq (i := 2) (d := 22) (v := (.pointer (some ⟨g, 1, none⟩))) rfl rfl (Or.inl ⟨by kernel_rfl, fun w hSw => ?_⟩) (by assumption) ?_
  ·(try dsimp only at hSw); go_simp <;> (try rfl)
  simp only [Act.put, sq1, sq2, sq3]
  refine tkq (i := 3) (d := 23) (v := (.map (some gc))) rfl rfl (yields_load_at (by kernel_rfl) 74 (.tmp 22) rfl (.pointer (some ⟨g, 1, none⟩)) (by simp [Act.eval]) (.map (some gc)) (fun W hW => load_one' (Try.agg_mcD W) (Blk.cellAt hW.1.1 rfl))) (by assumption) ?_
  simp only [Act.put, sq1, sq2, sq3]
  refine tkq (i := 4) (d := 24) (v := (.agg (vs k).toArray)) rfl rfl (yieldsIf_load_mid (by kernel_rfl) 40 (.tmp 4) rfl w.heap.size 0 (by simp [Act.eval]) (vs k) _ (fun W hW => Blk.range (pre := []) (post := []) (by simpa using hW.1.2)) Try.underlying40 rfl (by rw [HKl.out]; kernel_rfl)) (by assumption) ?_
  simp only [Act.put, sq1, sq2, sq3]
  refine tkq (i := 5) (d := 25) (v := (.int .i64 (n + by_))) rfl rfl (yields_look_to (by kernel_rfl) 74 (.tmp 23) (.tmp 24) false rfl (.map (some gc)) (.agg (vs k).toArray) (by simp [Act.eval]) (by simp [Act.eval]) (.int .i64 (n + by_)) (fun W hW => by have h9 := CMp.look Try.key_d Try.underlying74 hW.2 HKk.out (Try.zero_i W); rw [show upd f k (n + by_) k = n + by_ by simp [upd]] at h9; exact h9)) (by assumption) ?_
  simp only [Act.put, sq1, sq2, sq3]
  refine tkq (i := 6) (d := 26) (v := (.bool (n + by_ == 0))) rfl rfl (Or.inl ⟨by kernel_rfl, fun w hSw => ?_⟩) (by assumption) ?_
  ·(try dsimp only at hSw); go_simp <;> (try rfl)
  simp only [Act.put, sq1, sq2, sq3]
  refine wpAnyH_done (by kernel_rfl) ?_ _
  cases hz0 : (n + by_ == 0) with
  | false =>
   go_wp2
   go_end0
   exact ⟨rfl, by rw [← hnn]; exact HC10.out.keep rfl, HF10.out.deep (Below.refl _ u10).drew⟩
  | true =>
   have hz : n + by_ = 0 := by simpa using hz0
   have HC11 : Hid (CMp encD okD u10.drew.drew gc (upd f k (n + by_))) := Lib.hid (HC10.out.keep rfl)
   go_upto_region 4 with fail
   refine wp_region_held_drew (S := fun W => Blk W g 76 [a, .map (some gc)] ∧ Blk W w.heap.size 40 (vs k)) (by kernel_rfl) ⟨HG10.out.drew.drew, HB10.out.drew.drew⟩ (fun hHeld => ?_)
   change wpAnyH _ _ _ _ _ _ #[false, false, false, false, false, false] _ _
   refine tkq (i := 0) (d := 27) (v := (.pointer (some ⟨g, 0, none⟩))) rfl rfl (Or.inl ⟨by kernel_rfl, fun w hSw => ?_⟩) (by assumption) ?_
   ·(try dsimp only at hSw); go_simp <;> (try rfl)
   simp only [Act.put, sq1, sq2, sq3]
   refine tkq (i := 1) (d := 28) (v := (.pointer (some ⟨g, 0, none⟩))) rfl rfl (Or.inl ⟨by kernel_rfl, fun w hSw => ?_⟩) (by assumption) ?_
   ·(try dsimp only at hSw); go_simp <;> (try rfl)
   simp only [Act.put, sq1, sq2, sq3]
   refine tkq (i := 2) (d := 29) (v := (.pointer (some ⟨g, 1, none⟩))) rfl rfl (Or.inl ⟨by kernel_rfl, fun w hSw => ?_⟩) (by assumption) ?_
   ·(try dsimp only at hSw); go_simp <;> (try rfl)
   simp only [Act.put, sq1, sq2, sq3]
   refine tkq (i := 3) (d := 30) (v := (.map (some gc))) rfl rfl (yields_load_at (by kernel_rfl) 74 (.tmp 29) rfl (.pointer (some ⟨g, 1, none⟩)) (by simp [Act.eval]) (.map (some gc)) (fun W hW => load_one' (Try.agg_mcD W) (Blk.cellAt hW.1 rfl))) (by assumption) ?_
   simp only [Act.put, sq1, sq2, sq3]
   refine tkq (i := 4) (d := 31) (v := (.agg (vs k).toArray)) rfl rfl (yieldsIf_load_mid (by kernel_rfl) 40 (.tmp 4) rfl w.heap.size 0 (by simp [Act.eval]) (vs k) _ (fun W hW => Blk.range (pre := []) (post := []) (by simpa using hW.2)) Try.underlying40 rfl (by rw [HKl.out]; kernel_rfl)) (by assumption) ?_
   simp only [Act.put, sq1, sq2, sq3]
   refine wpAnyH_ready (rs := [5]) (by kernel_rfl) (by simp) ?_
   refine AllReadyH.cons (o := ⟨none, .call { callee := .builtin .delete, args := #[.tmp 30, .tmp 31], argTypes := #[74, 40] }, _, _, _, none⟩) rfl (fun K hK => ?_) AllReadyH.nil
   obtain ⟨u5, hr5, hc5, hg5⟩ := HC11.out.drop Try.key_d Try.underlying74 (x := k) HKk.out (by simp [upd, hz]) (0); refine step_del (by kernel_rfl) (.tmp 30) (.tmp 31) #[74, 40] rfl (.map (some gc)) (.agg (vs k).toArray) (by simp [Act.eval]) (by simp [Act.eval]) u5 hr5 ?_; have HC5 := Lib.hid hc5; have HG5 := Lib.hid (HG10.out.drew.drew.grown hg5 (fun e => HNE.out (Option.some.inj e))); have HB5 := Lib.hid (HB10.out.drew.drew.grown hg5 (fun e => HNB.out (Option.some.inj e))); have HF5 : Hid (Ft (fun q => q = gc) w u5) := Lib.hid ((HF10.out.deep (Below.refl _ u10).drew.drew).trans (Ft.of_grown hg5 (fun b hb => .inl (Option.some.inj hb).symm)) (fun q hq => .inl hq)); clear hr5 hc5 hg5
   refine hK.out _ _ ⟨HG5.out, HB5.out⟩ (fun hHeld1 => ?_)
   clear hHeld hK K
   have hHeld := hHeld1
   clear hHeld1
   change wpAnyH _ _ _ _ _ _ _ (Act.put _ none undef) _
   simp only [Act.put]
   refine wpAnyH_done (by kernel_rfl) ?_ _
   go_end0
   exact ⟨rfl, by rw [← hnn]; exact HC5.out, HF5.out⟩
 ·as_aux_lemma =>
  obtain ⟨u8, s8, hr8, hs8, hg8⟩ := HCd.out.entry Try.key_d Try.underlying74 HKk.out (Try.zero_i _); rw [HN.out] at hr8; refine step_ent (by kernel_rfl) 74 (.tmp 13) (.tmp 14) rfl (.map (some gc)) (.agg (vs k).toArray) (.tuple #[.int .i64 n, .int .i64 (s8 : Nat)]) (by simp [Act.eval]) (by simp [Act.eval]) u8 hr8 ?_; have HS8 := Lib.hid hs8; have HG8 := Lib.hid (HG1.out.drew.grown hg8 (fun e => HNE.out (Option.some.inj e))); have HB8 := Lib.hid (HB1.out.drew.grown hg8 (fun e => HNB.out (Option.some.inj e))); have HF8 := Lib.hid hg8; clear hr8 hs8 hg8
  refine hK.out _ _ ⟨HG8.out, HB8.out⟩ (fun hHeld1 => ?_)
  clear hHeld hK K
  have hHeld := hHeld1
  clear hHeld1
  change wpAnyH _ _ _ _ _ _ _ (Act.put _ (some (18 : Nat)) (.tuple #[.int .i64 n, .int .i64 (s8 : Nat)])) _
  simp only [Act.put, sq1, sq2, sq3]
  refine tkq (i := 9) (d := 19) (v := (.int .i64 (s8 : Nat))) rfl rfl (Or.inl ⟨by kernel_rfl, fun w hSw => ?_⟩) (by assumption) ?_
  ·(try dsimp only at hSw); go_simp <;> (try rfl)
  simp only [Act.put, sq1, sq2, sq3]
  refine wpAnyH_ready (rs := [5]) (by kernel_rfl) (by simp) ?_
  refine AllReadyH.cons (o := ⟨some 15, .lookup 74 (.tmp 13) (.tmp 14) false, _, _, _, none⟩) rfl (fun K hK => ?_) AllReadyH.nil
  refine step_look (by kernel_rfl) 74 (.tmp 13) (.tmp 14) false rfl (.map (some gc)) (.agg (vs k).toArray) (.int .i64 n) (by simp [Act.eval]) (by simp [Act.eval]) (by have h9 := HS8.out.is.look Try.key_d Try.underlying74 HKk.out (Try.zero_i _); rw [HN.out] at h9; exact h9) ?_
  refine hK.out _ _ ⟨HG8.out, HB8.out⟩ (fun hHeld1 => ?_)
  clear hHeld hK K
  have hHeld := hHeld1
  clear hHeld1
  change wpAnyH _ _ _ _ _ _ _ (Act.put _ (some (15 : Nat)) (.int .i64 n)) _
  simp only [Act.put, sq1, sq2, sq3]
  refine tkq (i := 7) (d := 17) (v := (.int .i64 (n + by_))) rfl rfl (Or.inl ⟨by kernel_rfl, fun w hSw => ?_⟩) (by assumption) ?_
  ·(try dsimp only at hSw); go_simp <;> (try rfl)
  simp only [Act.put, sq1, sq2, sq3]
  refine wpAnyH_ready (rs := [10]) (by kernel_rfl) (by simp) ?_
  refine AllReadyH.cons (o := ⟨none, .entryStore 74 (.tmp 13) (.tmp 19) (.tmp 17), _, _, _, none⟩) rfl (fun K hK => ?_) AllReadyH.nil
  obtain ⟨u10, hr10, hc10, hg10⟩ := HS8.out.store (P := Try.prog) (mt := 74) HKk.out (n + by_); refine step_sto (by kernel_rfl) 74 (.tmp 13) (.tmp 19) (.tmp 17) rfl (.map (some gc)) (.int .i64 (s8 : Nat)) (.int .i64 (n + by_)) (by simp [Act.eval]) (by simp [Act.eval]) (by simp [Act.eval]) u10 hr10 ?_; have HC10 := Lib.hid hc10; have HG10 := Lib.hid (HG8.out.grown hg10 (fun e => HNE.out (Option.some.inj e))); have HB10 := Lib.hid (HB8.out.grown hg10 (fun e => HNB.out (Option.some.inj e))); have HF10 : Hid (Ft (fun q => q = gc) w u10) := Lib.hid ((HF1.out.trans (Ft.of_grown HF8.out (fun b hb => .inl (Option.some.inj hb).symm)) (fun q hq => .inl hq)).trans (Ft.of_grown hg10 (fun b hb => .inl (Option.some.inj hb).symm)) (fun q hq => .inl hq)); clear hr10 hc10 hg10
  refine hK.out _ _ ⟨HG10.out, HB10.out⟩ (fun hHeld1 => ?_)
  clear hHeld hK K
  have hHeld := hHeld1
  clear hHeld1
  change wpAnyH _ _ _ _ _ _ _ (Act.put _ none undef) _
  simp only [Act.put]
  refine wpAnyH_done (by kernel_rfl) ?_ _
  go_upto_region 3 with fail
  refine wp_region_held_drew (S := fun W => (Blk W g 76 [a, .map (some gc)] ∧ Blk W w.heap.size 40 (vs k)) ∧ CMp encD okD W gc (upd f k (n + by_))) (by kernel_rfl) ⟨⟨HG10.out.drew, HB10.out.drew⟩, HC10.out.keep rfl⟩ (fun hHeld => ?_)
  change wpAnyH _ _ _ _ _ _ #[false, false, false, false, false, false, false] _ _
  refine tkq (i := 0) (d := 20) (v := (.pointer (some ⟨g, 0, none⟩))) rfl rfl (Or.inl ⟨by kernel_rfl, fun w hSw => ?_⟩) (by assumption) ?_
  ·(try dsimp only at hSw); go_simp <;> (try rfl)
  simp only [Act.put, sq1, sq2, sq3]
  refine tkq (i := 1) (d := 21) (v := (.pointer (some ⟨g, 0, none⟩))) rfl rfl (Or.inl ⟨by kernel_rfl, fun w hSw => ?_⟩) (by assumption) ?_
  ·(try dsimp only at hSw); go_simp <;> (try rfl)
  simp only [Act.put, sq1, sq2, sq3]
  refine tkq (i := 2) (d := 22) (v := (.pointer (some ⟨g, 1, none⟩))) rfl rfl (Or.inl ⟨by kernel_rfl, fun w hSw => ?_⟩) (by assumption) ?_
  ·(try dsimp only at hSw); go_simp <;> (try rfl)
  simp only [Act.put, sq1, sq2, sq3]
  refine tkq (i := 3) (d := 23) (v := (.map (some gc))) rfl rfl (yields_load_at (by kernel_rfl) 74 (.tmp 22) rfl (.pointer (some ⟨g, 1, none⟩)) (by simp [Act.eval]) (.map (some gc)) (fun W hW => load_one' (Try.agg_mcD W) (Blk.cellAt hW.1.1 rfl))) (by assumption) ?_
  simp only [Act.put, sq1, sq2, sq3]
  refine tkq (i := 4) (d := 24) (v := (.agg (vs k).toArray)) rfl rfl (yieldsIf_load_mid (by kernel_rfl) 40 (.tmp 4) rfl w.heap.size 0 (by simp [Act.eval]) (vs k) _ (fun W hW => Blk.range (pre := []) (post := []) (by simpa using hW.1.2)) Try.underlying40 rfl (by rw [HKl.out]; kernel_rfl)) (by assumption) ?_
  simp only [Act.put, sq1, sq2, sq3]
  refine tkq (i := 5) (d := 25) (v := (.int .i64 (n + by_))) rfl rfl (yields_look_to (by kernel_rfl) 74 (.tmp 23) (.tmp 24) false rfl (.map (some gc)) (.agg (vs k).toArray) (by simp [Act.eval]) (by simp [Act.eval]) (.int .i64 (n + by_)) (fun W hW => by have h9 := CMp.look Try.key_d Try.underlying74 hW.2 HKk.out (Try.zero_i W); rw [show upd f k (n + by_) k = n + by_ by simp [upd]] at h9; exact h9)) (by assumption) ?_
  simp only [Act.put, sq1, sq2, sq3]
  refine tkq (i := 6) (d := 26) (v := (.bool (n + by_ == 0))) rfl rfl (Or.inl ⟨by kernel_rfl, fun w hSw => ?_⟩) (by assumption) ?_
  ·(try dsimp only at hSw); go_simp <;> (try rfl)
  simp only [Act.put, sq1, sq2, sq3]
  refine wpAnyH_done (by kernel_rfl) ?_ _
  cases hz0 : (n + by_ == 0) with
  | false =>
   go_wp2
   go_end0
   exact ⟨rfl, by rw [← hnn]; exact HC10.out.keep rfl, HF10.out.deep (Below.refl _ u10).drew⟩
  | true =>
   have hz : n + by_ = 0 := by simpa using hz0
   have HC11 : Hid (CMp encD okD u10.drew.drew gc (upd f k (n + by_))) := Lib.hid (HC10.out.keep rfl)
   go_upto_region 4 with fail
   refine wp_region_held_drew (S := fun W => Blk W g 76 [a, .map (some gc)] ∧ Blk W w.heap.size 40 (vs k)) (by kernel_rfl) ⟨HG10.out.drew.drew, HB10.out.drew.drew⟩ (fun hHeld => ?_)
   change wpAnyH _ _ _ _ _ _ #[false, false, false, false, false, false] _ _
   refine tkq (i := 0) (d := 27) (v := (.pointer (some ⟨g, 0, none⟩))) rfl rfl (Or.inl ⟨by kernel_rfl, fun w hSw => ?_⟩) (by assumption) ?_
   ·(try dsimp only at hSw); go_simp <;> (try rfl)
   simp only [Act.put, sq1, sq2, sq3]
   refine tkq (i := 1) (d := 28) (v := (.pointer (some ⟨g, 0, none⟩))) rfl rfl (Or.inl ⟨by kernel_rfl, fun w hSw => ?_⟩) (by assumption) ?_
   ·(try dsimp only at hSw); go_simp <;> (try rfl)
   simp only [Act.put, sq1, sq2, sq3]
   refine tkq (i := 2) (d := 29) (v := (.pointer (some ⟨g, 1, none⟩))) rfl rfl (Or.inl ⟨by kernel_rfl, fun w hSw => ?_⟩) (by assumption) ?_
   ·(try dsimp only at hSw); go_simp <;> (try rfl)
   simp only [Act.put, sq1, sq2, sq3]
   refine tkq (i := 3) (d := 30) (v := (.map (some gc))) rfl rfl (yields_load_at (by kernel_rfl) 74 (.tmp 29) rfl (.pointer (some ⟨g, 1, none⟩)) (by simp [Act.eval]) (.map (some gc)) (fun W hW => load_one' (Try.agg_mcD W) (Blk.cellAt hW.1 rfl))) (by assumption) ?_
   simp only [Act.put, sq1, sq2, sq3]
   refine tkq (i := 4) (d := 31) (v := (.agg (vs k).toArray)) rfl rfl (yieldsIf_load_mid (by kernel_rfl) 40 (.tmp 4) rfl w.heap.size 0 (by simp [Act.eval]) (vs k) _ (fun W hW => Blk.range (pre := []) (post := []) (by simpa using hW.2)) Try.underlying40 rfl (by rw [HKl.out]; kernel_rfl)) (by assumption) ?_
   simp only [Act.put, sq1, sq2, sq3]
   refine wpAnyH_ready (rs := [5]) (by kernel_rfl) (by simp) ?_
   refine AllReadyH.cons (o := ⟨none, .call { callee := .builtin .delete, args := #[.tmp 30, .tmp 31], argTypes := #[74, 40] }, _, _, _, none⟩) rfl (fun K hK => ?_) AllReadyH.nil
   obtain ⟨u5, hr5, hc5, hg5⟩ := HC11.out.drop Try.key_d Try.underlying74 (x := k) HKk.out (by simp [upd, hz]) (0); refine step_del (by kernel_rfl) (.tmp 30) (.tmp 31) #[74, 40] rfl (.map (some gc)) (.agg (vs k).toArray) (by simp [Act.eval]) (by simp [Act.eval]) u5 hr5 ?_; have HC5 := Lib.hid hc5; have HG5 := Lib.hid (HG10.out.drew.drew.grown hg5 (fun e => HNE.out (Option.some.inj e))); have HB5 := Lib.hid (HB10.out.drew.drew.grown hg5 (fun e => HNB.out (Option.some.inj e))); have HF5 : Hid (Ft (fun q => q = gc) w u5) := Lib.hid ((HF10.out.deep (Below.refl _ u10).drew.drew).trans (Ft.of_grown hg5 (fun b hb => .inl (Option.some.inj hb).symm)) (fun q hq => .inl hq)); clear hr5 hc5 hg5
   refine hK.out _ _ ⟨HG5.out, HB5.out⟩ (fun hHeld1 => ?_)
   clear hHeld hK K
   have hHeld := hHeld1
   clear hHeld1
   change wpAnyH _ _ _ _ _ _ _ (Act.put _ none undef) _
   simp only [Act.put]
   refine wpAnyH_done (by kernel_rfl) ?_ _
   go_end0
   exact ⟨rfl, by rw [← hnn]; exact HC5.out, HF5.out⟩

end Go.Proofs.Ytponmfkddglopaa
