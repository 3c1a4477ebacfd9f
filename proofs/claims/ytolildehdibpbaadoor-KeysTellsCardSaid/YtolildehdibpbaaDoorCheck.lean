/-
  The program's Check: whether a tag is the text's.
-/
import Derived.Test.YtolildehdibpbaaDoorOf
import Derived.Test.YtolildehdibpbaaDoorSame
namespace Go.Proofs.YtolildehdibpbaaDoor
open Go.RowKit

set_option maxHeartbeats 4000000 in
set_option maxRecDepth 100000 in
theorem check_any (Q Q' : Nat → Prop) (key text tg : List UInt8) (htg : tg.length = 32) (A A' : Option Addr) (n c n' c' : Nat) (w : World) (hby : By w Q A n key) (hnc : n ≤ c) (hcm : c ≤ maxLen) (hby' : By w Q' A' n' text) (hnc' : n' ≤ c') (hcm' : c' ≤ maxLen) (ht : Tab w) (hlen : n ≤ 274877906944) (hlen' : n' ≤ 274877906944) :
    Calls Tryd.prog 15 #[.slice A n c, .slice A' n' c', .agg (vs tg).toArray] w fun e w' => e = .returned (.bool (hmac key text == tg)) ∧ Below w.heap.size w w' := by
  have HBy := Lib.hid hby
  have HBy' := Lib.hid hby'
  have HT := Lib.hid ht
  obtain ⟨q, hq⟩ : ∃ q, q = vs tg := ⟨_, rfl⟩
  have hqb : Blk (w.alloc (.cells q.toArray 28)) w.heap.size 28 (vs tg) := by rw [hq]; exact Blk.fresh rfl rfl
  obtain ⟨r, hr⟩ : ∃ r, r = vs (hmac key text) := ⟨_, rfl⟩
  have hrl : r.length = 32 := by rw [hr, vs_length, hmac_length]
  have hro : r.toArray.all (·.oneCell') = true := by rw [hr]; exact one_u8
  obtain ⟨bb, hbb⟩ : ∃ bb, bb = (hmac key text == tg) := ⟨_, rfl⟩
  have hof : ∀ W, By W Q A n key → By W Q' A' n' text → Tab W → Calls Tryd.prog 13 #[.slice A n c, .slice A' n' c'] W fun e w' => e = .returned (.agg r.toArray) ∧ Below W.heap.size W w' := fun W h1 h2 h3 => by
    rw [hr]; exact of_any Q Q' key text A A' n c n' c' W h1 hnc hcm h2 hnc' hcm' h3 hlen hlen'
  have hsame : ∀ W g g', By W (fun _ => True) (some ⟨g, 0, none⟩) 32 (hmac key text) → By W (fun _ => True) (some ⟨g', 0, none⟩) 32 tg → Calls Tryd.prog 16 #[.slice (some ⟨g, 0, none⟩) 32 32, .slice (some ⟨g', 0, none⟩) 32 32] W fun e w' => e = .returned (.bool bb) ∧ Below W.heap.size W w' := fun W g g' h1 h2 => by
    rw [hbb]; exact same_any _ _ _ _ _ _ 32 32 32 32 W h1 h2 (by omega) (by omega)
  have hRe : ∀ W g, Blk W g 28 r → By W (fun _ => True) (some ⟨g, 0, none⟩) 32 (hmac key text) := fun W g h => by
    rw [hr] at h; exact By.of_blk_n h (hmac_length _ _) trivial
  rw [← hq]
  have HOf := Lib.hid hof
  have HSame := Lib.hid hsame
  have HRl := Lib.hid hrl
  have HRo := Lib.hid hro
  have HQb := Lib.hid hqb
  have HBb := Lib.hid hbb
  have HRe := Lib.hid hRe
  clear hby hby' ht hq hqb hr hrl hro hbb hof hsame hRe
  go_enter Tryd.func15, Tryd.ntmps15
  go_wp2_with (first
    | (go_at_call 13; (with_reducible refine (HOf.out _ (HBy.out.alloc _) (HBy'.out.alloc _) (HT.out.through ((Below.refl _ w).alloc (Nat.le_refl _) _))).mono ?_); rintro e w1 ⟨rfl, hb1⟩; have HX1 : Hid (Below w.heap.size w w1) := Lib.hid (((Below.refl _ w).alloc (Nat.le_refl _) _).trans (hb1.mono (by simp))); have HB1 : Hid (Blk w1 w.heap.size 28 (vs tg)) := Lib.hid (HQb.out.through hb1); clear hb1)
    | (refine wpList_store_blk rfl 28 (.tmp 7) (.tmp 10) rfl w1.heap.size r rfl rfl 28 (vs zero32) (Blk.fresh rfl (by kernel_rfl)) (by rw [HRl.out]; kernel_rfl) (by rw [HRl.out]; rfl) HRo.out ?_; intro w7 hb7 ho7; have HX7 := Lib.hid ((HX1.out.alloc HX1.out.size _).grown ho7 (Nat.le_trans HX1.out.size (by simp)) (fun g hg => Option.some.inj hg ▸ HX1.out.size)); have HT7 : Hid (By w7 (fun _ => True) (some ⟨w.heap.size, 0, none⟩) 32 tg) := Lib.hid (By.of_blk_n ((HB1.out.alloc _).grown ho7 (fun e => absurd (Option.some.inj e) (Nat.ne_of_lt HB1.out.lt))) htg trivial); have HR7 := Lib.hid (HRe.out w7 w1.heap.size hb7); clear hb7 ho7))
  obtain ⟨g7, hg7⟩ : ∃ g7, g7 = w1.heap.size := ⟨_, rfl⟩
  rw [← hg7] at HR7
  rw [← hg7]
  clear hg7
  dsimp only [Act.put]
  refine wp_region_held_drew (S := fun W => Below w.heap.size w W) (by kernel_rfl) HX7.out.drew (fun hHeld => ?_)
  change wpAnyH _ _ _ _ _ _ #[false, false, false, false] _ _
  refine wpAnyH_take (i := 0) (v := (.slice (some ⟨g7, 0, none⟩) 32 32)) rfl (by kernel_rfl) (by kernel_rfl) (by kernel_rfl) (fun _ _ _ h => h) (Or.inl ⟨by kernel_rfl, fun w hSw => ?_⟩) (by assumption) ?_
  · (try dsimp only at hSw); go_simp <;> (try rfl)
  change wpAnyH _ _ _ _ _ _ _ (Act.put _ (some (11 : Nat)) (.slice (some ⟨g7, 0, none⟩) 32 32)) _
  simp only [Act.put, List.setIfInBounds_toArray, List.set_cons_zero, List.set_cons_succ]
  refine wpAnyH_take (i := 1) (v := (.slice (some ⟨w.heap.size, 0, none⟩) 32 32)) rfl (by kernel_rfl) (by kernel_rfl) (by kernel_rfl) (fun _ _ _ h => h) (Or.inl ⟨by kernel_rfl, fun w hSw => ?_⟩) (by assumption) ?_
  · (try dsimp only at hSw); go_simp <;> (try rfl)
  change wpAnyH _ _ _ _ _ _ _ (Act.put _ (some (12 : Nat)) (.slice (some ⟨w.heap.size, 0, none⟩) 32 32)) _
  simp only [Act.put, List.setIfInBounds_toArray, List.set_cons_zero, List.set_cons_succ]
  refine wpAnyH_ready (rs := [2]) (by kernel_rfl) (by simp) ?_
  refine AllReadyH.cons rfl (fun K hK => ?_) AllReadyH.nil
  go_simp
  refine (HSame.out _ g7 w.heap.size HR7.out.drew HT7.out.drew).mono ?_
  rintro e w8 ⟨rfl, hb8⟩; have HX8 := Lib.hid (HX7.out.drew.trans (hb8.mono HX7.out.size)); clear hb8
  go_wp2_with fail
  refine hK.out _ _ HX8.out (fun hHeld1 => ?_)
  clear hHeld hK K
  have hHeld := hHeld1
  clear hHeld1
  refine wpAnyH_take (i := 3) (v := (.bool bb)) rfl (by kernel_rfl) (by kernel_rfl) (by kernel_rfl) (fun _ _ _ h => h) (Or.inl ⟨by kernel_rfl, fun w hSw => ?_⟩) (by assumption) ?_
  · (try dsimp only at hSw); go_simp <;> (try rfl)
  change wpAnyH _ _ _ _ _ _ _ (Act.put _ (some (6 : Nat)) (.bool bb)) _
  simp only [Act.put, List.setIfInBounds_toArray, List.set_cons_zero, List.set_cons_succ]
  refine wpAnyH_done (by kernel_rfl) ?_ _
  go_wp2
  go_ret
  exact ⟨by rw [HBb.out]; rfl, HX8.out⟩

end Go.Proofs.YtolildehdibpbaaDoor
