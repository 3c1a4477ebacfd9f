/-
  The program's Of: the tag of any text by any key is HMAC-SHA256's.
-/
import Derived.Test.YtolildehdibpbaaDoorFill
import Derived.Test.YtolildehdibpbaaDoorBehind
import Derived.RegionTactic
import Derived.ChangeAlike
import Derived.StillTailTactics
import Derived.Deep.QuietTactic
import Derived.Outline
namespace Go.Proofs.YtolildehdibpbaaDoor
open Go.RowKit

theorem Tab.drew_ {w : World} (h : Tab w) : Tab w.drew := h

set_option maxHeartbeats 4000000 in
set_option maxRecDepth 100000 in
theorem of_any (Q Q' : Nat → Prop) (key text : List UInt8) (A A' : Option Addr) (n c n' c' : Nat) (w : World) (hby : By w Q A n key) (hnc : n ≤ c) (hcm : c ≤ maxLen) (hby' : By w Q' A' n' text) (hnc' : n' ≤ c') (hcm' : c' ≤ maxLen) (ht : Tab w) (hlen : n ≤ 274877906944) (hlen' : n' ≤ 274877906944) :
    Calls Tryd.prog 13 #[.slice A n c, .slice A' n' c'] w fun e w' => e = .returned (dig (hmac key text)) ∧ Below w.heap.size w w' := by
  have HBy := Lib.hid hby
  have HBy' := Lib.hid hby'
  have HT := Lib.hid ht
  obtain ⟨kk, hkk⟩ : ∃ kk, kk = vs (key64 key) := ⟨_, rfl⟩
  have hkl : kk.length = 64 := by rw [hkk, vs_length, key64_length]
  have hko : kk.toArray.all (·.oneCell') = true := by rw [hkk]; exact one_u8
  obtain ⟨inner, hin⟩ : ∃ inner, inner = sha (mask (key64 key) 54 ++ text) := ⟨_, rfl⟩
  have hil : inner.length = 32 := by rw [hin, sha_length]
  obtain ⟨q, hq⟩ : ∃ q, q = vs inner := ⟨_, rfl⟩
  have hql : q.length = 32 := by rw [hq, vs_length, hil]
  have hqo : q.toArray.all (·.oneCell') = true := by rw [hq]; exact one_u8
  obtain ⟨r, hr⟩ : ∃ r, r = vs (hmac key text) := ⟨_, rfl⟩
  have hrl : r.length = 32 := by rw [hr, vs_length, hmac_length]
  have hro : r.toArray.all (·.oneCell') = true := by rw [hr]; exact one_u8
  have hf : dig (hmac key text) = .agg r.toArray := by rw [hr]; rfl
  have hfill : ∀ W, By W Q A n key → Tab W → Calls Tryd.prog 32 #[.slice A n c] W fun e w' => e = .returned (.agg kk.toArray) ∧ Below W.heap.size W w' := fun W h1 h2 => by
    rw [hkk]; exact fill_any Q key A n c W h1 hnc hcm h2 (by omega)
  have hof1 : ∀ W, By W Q' A' n' text → Tab W → Calls Tryd.prog 33 #[.agg kk.toArray, .int .u8 54, .slice A' n' c'] W fun e w' => e = .returned (.agg q.toArray) ∧ Below W.heap.size W w' := fun W h1 h2 => by
    have h := behind_any Q' (key64 key) (key64_length key) 54 text A' n' c' W h1 hnc' hcm' h2 hlen'
    rw [hkk, hq, hin]; exact h
  have hof2 : ∀ W g, By W (fun _ => True) (some ⟨g, 0, none⟩) 32 inner → Tab W → Calls Tryd.prog 33 #[.agg kk.toArray, .int .u8 92, .slice (some ⟨g, 0, none⟩) 32 32] W fun e w' => e = .returned (.agg r.toArray) ∧ Below W.heap.size W w' := fun W g h1 h2 => by
    have h := behind_any _ (key64 key) (key64_length key) 92 inner (some ⟨g, 0, none⟩) 32 32 W h1 (Nat.le_refl _) (by unfold maxLen; omega) h2 (by omega)
    rw [hkk, hr]
    unfold hmac
    rw [← hin]
    exact h
  have HFill := Lib.hid hfill
  have HOf1 := Lib.hid hof1
  have HOf2 := Lib.hid hof2
  have HKl := Lib.hid hkl
  have HKo := Lib.hid hko
  have HQl := Lib.hid hql
  have HQo := Lib.hid hqo
  have HRl := Lib.hid hrl
  have HRo := Lib.hid hro
  have HF := Lib.hid hf
  have HQe := Lib.hid hq
  have HIl := Lib.hid hil
  clear hby hby' ht hkk hkl hko hin hil hq hql hqo hr hrl hro hf hfill hof1 hof2
  go_enter Tryd.func13, Tryd.ntmps13
  go_wp2_with (first
    | (go_at_call 32; (with_reducible refine (HFill.out _ (HBy.out.alloc _) (HT.out.through ((Below.refl _ w).alloc (Nat.le_refl _) _))).mono ?_); rintro e w1 ⟨rfl, hb1⟩; have HX1 : Hid (Below w.heap.size w w1) := Lib.hid (((Below.refl _ w).alloc (Nat.le_refl _) _).trans (hb1.mono (by simp))); have hg1 : w.heap.size < w1.heap.size := Nat.lt_of_lt_of_le (by simp) hb1.size; have HB1 : Hid (Blk w1 w.heap.size 28 (vs zero32)) := Lib.hid ((Blk.fresh rfl (by kernel_rfl)).through hb1); clear hb1)
    | (refine wpList_store_blk rfl 58 (.tmp 5) (.tmp 8) rfl w1.heap.size kk rfl rfl 58 (vs zero64) (Blk.fresh rfl (by kernel_rfl)) (by rw [HKl.out]; kernel_rfl) (by rw [HKl.out]; rfl) HKo.out ?_; intro w2 hb2 ho2; have HX2 := Lib.hid ((HX1.out.alloc HX1.out.size _).grown ho2 (Nat.le_trans HX1.out.size (by simp)) (fun g hg => Option.some.inj hg ▸ HX1.out.size)); have HB2 := Lib.hid ((HB1.out.alloc _).grown ho2 (by simp; omega)); have HK2 := Lib.hid hb2; have hg2 : w1.heap.size < w2.heap.size := hb2.lt; clear hb2 ho2)
    | (refine wpList_load_blk rfl 58 (.tmp 5) rfl w1.heap.size rfl 58 kk _ HK2.out Tryd.underlying58 rfl (by rw [HKl.out]; kernel_rfl) ?_)
    | (go_at_call 33; (with_reducible refine (HOf1.out _ (HBy'.out.through HX2.out) (HT.out.through HX2.out)).mono ?_); rintro e w3 ⟨rfl, hb3⟩; have HX3 := Lib.hid (HX2.out.trans (hb3.mono HX2.out.size)); have HB3 := Lib.hid (HB2.out.through hb3); have HK3 := Lib.hid (HK2.out.through hb3); have hg3 : w1.heap.size < w3.heap.size := Nat.lt_of_lt_of_le hg2 hb3.size; clear hb3)
    | (refine wpList_store_blk rfl 25 (.tmp 6) (.tmp 11) rfl w3.heap.size q rfl rfl 25 (vs zero32) (Blk.fresh rfl (by kernel_rfl)) (by rw [HQl.out]; kernel_rfl) (by rw [HQl.out]; rfl) HQo.out ?_; intro w6 hb6 ho6; have HX6 := Lib.hid ((HX3.out.alloc HX3.out.size _).grown ho6 (Nat.le_trans HX3.out.size (by simp)) (fun g hg => Option.some.inj hg ▸ HX3.out.size)); have HB4 := Lib.hid ((HB3.out.alloc _).grown ho6 (by simp; omega)); have HB5 := Lib.hid ((HK3.out.alloc _).grown ho6 (by simp; omega)); have HI6 : Hid (By w6 (fun _ => True) (some ⟨w3.heap.size, 0, none⟩) 32 inner) := Lib.hid (by rw [HQe.out] at hb6; exact By.of_blk_n hb6 HIl.out trivial); clear hb6 ho6))
  have HT6 := Lib.hid (HT.out.through HX6.out)
  obtain ⟨g5, hg5⟩ : ∃ g5, g5 = w1.heap.size := ⟨_, rfl⟩
  obtain ⟨g6, hg6⟩ : ∃ g6, g6 = w3.heap.size := ⟨_, rfl⟩
  rw [← hg6] at HI6
  rw [← hg5] at HB5
  rw [← hg5, ← hg6]
  have hgg : w.heap.size < g5 := by rw [hg5]; exact hg1
  clear hg5 hg6 hg1 hg2 hg3
  dsimp only [Act.put]
  refine wp_region_held_drew (S := fun W => Blk W g5 58 kk ∧ Below w.heap.size w W) (by kernel_rfl) ⟨HB5.out, HX6.out.drew⟩ (fun hHeld => ?_)
  change wpAnyH _ _ _ _ _ _ #[false, false, false, false] _ _
  refine wpAnyH_take (i := 0) (v := (.agg kk.toArray)) rfl (by kernel_rfl) (by kernel_rfl) (by kernel_rfl) (fun _ _ _ h => h) (yields_load_at (by kernel_rfl) 58 (.tmp 5) rfl (.pointer (some ⟨g5, 0, none⟩)) (by simp [Act.eval]) (.agg kk.toArray) (fun W hW => hW.1.loadAt 58 _ Tryd.underlying58 rfl (by rw [HKl.out]; kernel_rfl))) (by assumption) ?_
  change wpAnyH _ _ _ _ _ _ _ (Act.put _ (some (12 : Nat)) (.agg kk.toArray)) _
  simp only [Act.put, List.setIfInBounds_toArray, List.set_cons_zero, List.set_cons_succ]
  refine wpAnyH_take (i := 1) (v := (.slice (some ⟨g6, 0, none⟩) 32 32)) rfl (by kernel_rfl) (by kernel_rfl) (by kernel_rfl) (fun _ _ _ h => h) (Or.inl ⟨by kernel_rfl, fun w hSw => ?_⟩) (by assumption) ?_
  · (try dsimp only at hSw); go_simp <;> (try rfl)
  change wpAnyH _ _ _ _ _ _ _ (Act.put _ (some (13 : Nat)) (.slice (some ⟨g6, 0, none⟩) 32 32)) _
  simp only [Act.put, List.setIfInBounds_toArray, List.set_cons_zero, List.set_cons_succ]
  refine wpAnyH_ready (rs := [2]) (by kernel_rfl) (by simp) ?_
  refine AllReadyH.cons rfl (fun K hK => ?_) AllReadyH.nil
  go_simp
  refine (HOf2.out _ g6 (HI6.out.drew) (HT6.out.drew_)).mono ?_
  rintro e w7 ⟨rfl, hb7⟩; have HX7 := Lib.hid (HX6.out.drew.trans (hb7.mono HX6.out.size)); have HB57 := Lib.hid (HB5.out.drew.through hb7); have HB47 := Lib.hid (HB4.out.drew.through hb7); clear hb7
  go_wp2_with fail
  refine hK.out _ _ ⟨HB57.out, HX7.out⟩ (fun hHeld1 => ?_)
  clear hHeld hK K
  have hHeld := hHeld1
  clear hHeld1
  refine wpAnyH_ready (rs := [3]) (by kernel_rfl) (by simp) ?_
  refine AllReadyH.cons (o := ⟨none, .store 28 (.tmp 4) (.tmp 14), _, _, _, none⟩) rfl (fun K hK => ?_) AllReadyH.nil
  refine step_store_blk rfl 28 (.tmp 4) (.tmp 14) rfl w.heap.size r (by simp [Act.eval]) (by simp [Act.eval]) 28 (vs zero32) HB47.out (by rw [HRl.out]; kernel_rfl) (by rw [HRl.out]; rfl) HRo.out ?_; intro w8 hb8 ho8; have HB58 := Lib.hid (HB57.out.grown ho8 (by simp; omega)); have HX8 := Lib.hid (HX7.out.grown ho8 HX7.out.size (fun k hk => Option.some.inj hk ▸ Nat.le_refl _)); have HB8 := Lib.hid hb8; clear hb8 ho8
  refine hK.out _ _ ⟨HB58.out, HX8.out⟩ (fun hHeld1 => ?_)
  clear hHeld hK K
  have hHeld := hHeld1
  clear hHeld1
  change wpAnyH _ _ _ _ _ _ _ (Act.put _ none undef) _
  simp only [Act.put]
  refine wpAnyH_done (by kernel_rfl) ?_ _
  go_wp2
  refine bodyPost_ret (v := .agg r.toArray) (results_cell_row rfl _ _ w.heap.size 28 _ (0, 0) _ rfl HB8.out Tryd.underlying28 rfl ?r1) rfl ⟨by rw [HF.out], HX8.out⟩
  rw [List.size_toArray, HRl.out]; kernel_rfl

end Go.Proofs.YtolildehdibpbaaDoor
