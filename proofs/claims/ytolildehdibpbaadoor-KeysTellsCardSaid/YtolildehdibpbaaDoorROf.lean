/-
  The document's Of.
-/
import Derived.Test.YtolildehdibpbaaDoorRWith
import Derived.RegionTactic
import Derived.ChangeAlike
import Derived.StillTailTactics
import Derived.Deep.QuietTactic
import Derived.Outline
namespace Go.Proofs.YtolildehdibpbaaDoor
open Go.RowKit

set_option maxHeartbeats 4000000 in
set_option maxRecDepth 100000 in
theorem rof_any (Q Q' : Nat → Prop) (key text : List UInt8) (A A' : Option Addr) (n c n' c' : Nat) (w : World) (hby : By w Q A n key) (hby' : By w Q' A' n' text) (hn : n ≤ 1000000) (hn' : n' ≤ 900000) :
    Calls Tryd.prog 14 #[.slice A n c, .slice A' n' c'] w fun e w' => e = .returned (dig (hmac key text)) ∧ Below w.heap.size w w' := by
  obtain ⟨i0, hi, hz0, hz1, hz2⟩ := info_parts Tryd.info_u8
  have HBy := Lib.hid hby
  have HBy' := Lib.hid hby'
  obtain ⟨m1, hm1⟩ : ∃ m1, m1 = mask (key64 key) 54 := ⟨_, rfl⟩
  obtain ⟨m2, hm2⟩ : ∃ m2, m2 = mask (key64 key) 92 := ⟨_, rfl⟩
  obtain ⟨inner, hin⟩ : ∃ inner, inner = sha (m1 ++ text) := ⟨_, rfl⟩
  have hil : inner.length = 32 := by rw [hin, sha_length]
  obtain ⟨q, hq⟩ : ∃ q, q = vs inner := ⟨_, rfl⟩
  have hql : q.length = 32 := by rw [hq, vs_length, hil]
  have hqo : q.toArray.all (·.oneCell') = true := by rw [hq]; exact one_u8
  obtain ⟨r, hr⟩ : ∃ r, r = vs (hmac key text) := ⟨_, rfl⟩
  have hrl : r.length = 32 := by rw [hr, vs_length, hmac_length]
  have hro : r.toArray.all (·.oneCell') = true := by rw [hr]; exact one_u8
  have hf : dig (hmac key text) = .agg r.toArray := by rw [hr]; rfl
  have hr2 : r = vs (sha (m2 ++ inner)) := by rw [hr, hm2, hin, hm1]; rfl
  have hw1 : ∀ W, By W Q A n key → Calls Tryd.prog 34 #[.slice A n c, .int .u8 54] W fun e w' => ∃ A c, e = .returned (.slice A 64 c) ∧ w'.ownsRow W.heap.size 5 1 (.slice A 64 c) 64 (vs m1) ∧ Below W.heap.size W w' := fun W h => by
    rw [hm1]; exact rwith_any Q key 54 A n c W h hn
  have hw2 : ∀ W, By W Q A n key → Calls Tryd.prog 34 #[.slice A n c, .int .u8 92] W fun e w' => ∃ A c, e = .returned (.slice A 64 c) ∧ w'.ownsRow W.heap.size 5 1 (.slice A 64 c) 64 (vs m2) ∧ Below W.heap.size W w' := fun W h => by
    rw [hm2]; exact rwith_any Q key 92 A n c W h hn
  have hbytes : ∀ W, Calls Tryd.prog 35 #[.agg q.toArray] W fun e w' => ∃ A c, e = .returned (.slice A 32 c) ∧ w'.ownsRow W.heap.size 5 1 (.slice A 32 c) 32 (vs inner) ∧ Below W.heap.size W w' := fun W => by
    rw [hq]; exact rbytes_any inner hil W
  have hs1 : ∀ W Q A c, By W Q A (64 + n') (m1 ++ text) → Calls Tryd.prog 11 #[.slice A (64 + n') c] W fun e w' => e = .returned (.agg q.toArray) ∧ Below W.heap.size W w' := fun W Q A c h => by
    rw [hq, hin]; exact rsum_any Q _ A _ c W h (by omega)
  have hs2 : ∀ W Q A c, By W Q A 96 (m2 ++ inner) → Calls Tryd.prog 11 #[.slice A 96 c] W fun e w' => e = .returned (.agg r.toArray) ∧ Below W.heap.size W w' := fun W Q A c h => by
    rw [hr2]; exact rsum_any Q _ A _ c W h (by omega)
  have HW1 := Lib.hid hw1
  have HW2 := Lib.hid hw2
  have HBytes := Lib.hid hbytes
  have HS1 := Lib.hid hs1
  have HS2 := Lib.hid hs2
  have HQl := Lib.hid hql
  have HQo := Lib.hid hqo
  have HRl := Lib.hid hrl
  have HRo := Lib.hid hro
  have HF := Lib.hid hf
  clear hby hby' hm1 hm2 hin hil hq hql hqo hr hrl hro hf hr2 hw1 hw2 hbytes hs1 hs2
  go_enter Tryd.func14, Tryd.ntmps14
  go_wp2_with (first
    | (go_at_call 34; (with_reducible refine (HW1.out _ (HBy.out.alloc _)).mono ?_); rintro e w1 ⟨A1, c1, rfl, ho1, hb1⟩; have HX1 : Hid (Below w.heap.size w w1) := Lib.hid (((Below.refl _ w).alloc (Nat.le_refl _) _).trans (hb1.mono (by simp))); have HO1 : Hid (w1.ownsRow (w.heap.size + 1) 5 1 (.slice A1 64 c1) 64 (vs m1)) := Lib.hid (own_weak ho1 (by simp)); have HB1 : Hid (Blk w1 w.heap.size 28 (vs zero32)) := Lib.hid ((Blk.fresh rfl (by kernel_rfl)).through hb1); clear hb1 ho1)
    | (at_builtin; refine wpList_append_by _ rfl (.tmp 7) (.tmp 8) 22 rfl (w.heap.size + 1) i0 Tryd.underlying22 hi hz0 hz1 hz2 (.slice A1 64 c1) 64 (vs m1) rfl (HO1.out) Q' A' n' c' text rfl (HBy'.out.through HX1.out) (by omega) HB1.out.lt ?_; intro v2 w2 hown2 hgrow2 _; have HX2 := Lib.hid (HX1.out.grown hgrow2 HX1.out.size (fun g hg => Nat.le_of_succ_le (HO1.out.lt g hg).1)); have HB2 := Lib.hid (HB1.out.grown hgrow2 (fun e => absurd (HO1.out.lt _ e.symm).1 (Nat.not_succ_le_self _))); rw [vs_append] at hown2; obtain ⟨A2, c2, rfl, _, _, _⟩ := own_form hown2; have HO2 := Lib.hid ((By.of_own hown2).weak (Q' := fun _ => True) fun _ _ => trivial); clear hown2 hgrow2)
    | (go_at_call 11; (with_reducible refine (HS1.out _ _ _ _ HO2.out).mono ?_); rintro e w3 ⟨rfl, hb3⟩; have HX3 := Lib.hid (HX2.out.trans (hb3.mono HX2.out.size)); have HB3 := Lib.hid (HB2.out.through hb3); clear hb3)
    | (refine wpList_store_blk rfl 25 (.tmp 5) (.tmp 10) rfl w3.heap.size q rfl rfl 25 (vs zero32) (Blk.fresh rfl (by kernel_rfl)) (by rw [HQl.out]; kernel_rfl) (by rw [HQl.out]; rfl) HQo.out ?_; intro w6 hb6 ho6; have HX6 := Lib.hid ((HX3.out.alloc HX3.out.size _).grown ho6 (Nat.le_trans HX3.out.size (by simp)) (fun g hg => Option.some.inj hg ▸ HX3.out.size)); have HB4 := Lib.hid ((HB3.out.alloc _).grown ho6 (fun e => absurd (Option.some.inj e) (Nat.ne_of_lt HB3.out.lt))); have hlt5 := HB3.out.lt; have HB5 := Lib.hid hb6; clear hb6 ho6))
  obtain ⟨g5, hg5⟩ : ∃ g5, g5 = w3.heap.size := ⟨_, rfl⟩
  rw [← hg5] at HB5 hlt5
  rw [← hg5]
  clear hg5
  dsimp only [Act.put]
  refine wp_region_held_drew (S := fun W => Blk W g5 25 q ∧ Below w.heap.size w W) (by kernel_rfl) ⟨HB5.out.drew, HX6.out.drew⟩ (fun hHeld => ?_)
  change wpAnyH _ _ _ _ _ _ #[false, false, false, false, false, false, false] _ _
  refine wpAnyH_take (i := 0) (v := (.slice A n c)) rfl (by kernel_rfl) (by kernel_rfl) (by kernel_rfl) (fun _ _ _ h => h) (Or.inl ⟨by kernel_rfl, fun w hSw => ?_⟩) (by assumption) ?_
  · (try dsimp only at hSw); go_simp <;> (try rfl)
  change wpAnyH _ _ _ _ _ _ _ (Act.put _ (some (11 : Nat)) (.slice A n c)) _
  simp only [Act.put, List.setIfInBounds_toArray, List.set_cons_zero, List.set_cons_succ]
  refine wpAnyH_take (i := 2) (v := (.agg q.toArray)) rfl (by kernel_rfl) (by kernel_rfl) (by kernel_rfl) (fun _ _ _ h => h) (yields_load_at (by kernel_rfl) 25 (.tmp 5) rfl (.pointer (some ⟨g5, 0, none⟩)) (by simp [Act.eval]) (.agg q.toArray) (fun W hW => hW.1.loadAt 25 _ Tryd.underlying25 rfl (by rw [HQl.out]; kernel_rfl))) (by assumption) ?_
  change wpAnyH _ _ _ _ _ _ _ (Act.put _ (some (13 : Nat)) (.agg q.toArray)) _
  simp only [Act.put, List.setIfInBounds_toArray, List.set_cons_zero, List.set_cons_succ]
  refine wpAnyH_ready (rs := [1]) (by kernel_rfl) (by simp) ?_
  refine AllReadyH.cons rfl (fun K hK => ?_) AllReadyH.nil
  go_simp
  refine (HW2.out _ (HBy.out.through HX6.out).drew).mono ?_
  rintro e w7 ⟨A7, c7, rfl, ho7, hb7⟩; have HX7 := Lib.hid (HX6.out.drew.trans (hb7.mono HX6.out.size)); have HB57 := Lib.hid (HB5.out.drew.through hb7); have HB47 := Lib.hid (HB4.out.drew.through hb7); have HO7 := Lib.hid ho7; have hs7 := hb7.size; clear ho7 hb7
  go_wp2_with fail
  refine hK.out _ _ ⟨HB57.out, HX7.out⟩ (fun hHeld1 => ?_)
  clear hHeld hK K
  have hHeld := hHeld1
  clear hHeld1
  refine wpAnyH_ready (rs := [3]) (by kernel_rfl) (by simp) ?_
  refine AllReadyH.cons rfl (fun K hK => ?_) AllReadyH.nil
  go_simp
  refine (HBytes.out _).mono ?_
  rintro e w8 ⟨A8, c8, rfl, ho8, hb8⟩; have HX8 := Lib.hid (HX7.out.trans (hb8.mono HX7.out.size)); have HB58 := Lib.hid (HB57.out.through hb8); have HB48 := Lib.hid (HB47.out.through hb8); have HO8 := Lib.hid (own_keepB HO7.out hb8); have HY8 := Lib.hid ((By.of_own ho8).weak (Q' := fun _ => True) fun _ _ => trivial); have hs8 := Nat.le_trans hs7 hb8.size; clear ho8 hb8
  go_wp2_with fail
  refine hK.out _ _ ⟨HB58.out, HX8.out⟩ (fun hHeld1 => ?_)
  clear hHeld hK K
  have hHeld := hHeld1
  clear hHeld1
  refine wpAnyH_ready (rs := [4]) (by kernel_rfl) (by simp) ?_
  refine AllReadyH.cons (o := ⟨some 15, .call { callee := .builtin .append, args := #[.tmp 12, .tmp 14], argTypes := #[22, 22] }, _, _, _, none⟩) rfl (fun K hK => ?_) AllReadyH.nil
  refine step_append_by (by kernel_rfl) (.tmp 12) (.tmp 14) 22 rfl w6.drew.heap.size i0 Tryd.underlying22 hi hz0 hz1 hz2 (.slice A7 64 c7) 64 m2 (by simp [Act.eval]) HO8.out (fun _ => True) A8 32 c8 inner (by simp [Act.eval]) HY8.out (by omega) hs8 96 rfl _ rfl ?_; intro A9 c9 w9 ho9 _ _ hb9; have HX9 := Lib.hid (HX8.out.trans (hb9.mono HX6.out.size)); have HB59 := Lib.hid (HB58.out.below hb9 HB5.out.lt); have HB49 := Lib.hid (HB48.out.below hb9 HB4.out.lt); have HY9 := Lib.hid ((By.of_own ho9).weak (Q' := fun _ => True) fun _ _ => trivial); clear ho9 hb9
  refine hK.out _ _ ⟨HB59.out, HX9.out⟩ (fun hHeld1 => ?_)
  clear hHeld hK K
  have hHeld := hHeld1
  clear hHeld1
  change wpAnyH _ _ _ _ _ _ _ (Act.put _ (some (15 : Nat)) (.slice A9 96 c9)) _
  simp only [Act.put, List.setIfInBounds_toArray, List.set_cons_zero, List.set_cons_succ]
  refine wpAnyH_ready (rs := [5]) (by kernel_rfl) (by simp) ?_
  refine AllReadyH.cons rfl (fun K hK => ?_) AllReadyH.nil
  go_simp
  refine (HS2.out _ _ _ _ HY9.out).mono ?_
  rintro e wa ⟨rfl, hba⟩; have HXa := Lib.hid (HX9.out.trans (hba.mono HX9.out.size)); have HB5a := Lib.hid (HB59.out.through hba); have HB4a := Lib.hid (HB49.out.through hba); clear hba
  go_wp2_with fail
  refine hK.out _ _ ⟨HB5a.out, HXa.out⟩ (fun hHeld1 => ?_)
  clear hHeld hK K
  have hHeld := hHeld1
  clear hHeld1
  refine wpAnyH_ready (rs := [6]) (by kernel_rfl) (by simp) ?_
  refine AllReadyH.cons (o := ⟨none, .store 28 (.tmp 4) (.tmp 16), _, _, _, none⟩) rfl (fun K hK => ?_) AllReadyH.nil
  refine step_store_blk rfl 28 (.tmp 4) (.tmp 16) rfl w.heap.size r (by simp [Act.eval]) (by simp [Act.eval]) 28 (vs zero32) HB4a.out (by rw [HRl.out]; kernel_rfl) (by rw [HRl.out]; rfl) HRo.out ?_; intro wb hbb hob; have HB5b := Lib.hid (HB5a.out.grown hob (fun e => absurd (Option.some.inj e) (Nat.ne_of_gt hlt5))); have HXb := Lib.hid (HXa.out.grown hob HXa.out.size (fun k hk => Option.some.inj hk ▸ Nat.le_refl _)); have HBb := Lib.hid hbb; clear hbb hob
  refine hK.out _ _ ⟨HB5b.out, HXb.out⟩ (fun hHeld1 => ?_)
  clear hHeld hK K
  have hHeld := hHeld1
  clear hHeld1
  change wpAnyH _ _ _ _ _ _ _ (Act.put _ none undef) _
  simp only [Act.put]
  refine wpAnyH_done (by kernel_rfl) ?_ _
  go_wp2
  refine bodyPost_ret (v := .agg r.toArray) (results_cell_row rfl _ _ w.heap.size 28 _ (0, 0) _ rfl HBb.out Tryd.underlying28 rfl ?r1) rfl ⟨by rw [HF.out], HXb.out⟩
  rw [List.size_toArray, HRl.out]; kernel_rfl

end Go.Proofs.YtolildehdibpbaaDoor
