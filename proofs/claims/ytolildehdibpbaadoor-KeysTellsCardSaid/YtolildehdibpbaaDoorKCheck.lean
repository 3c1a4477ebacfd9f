/-
  The program's Check, of a table, and New.
-/
import Derived.Test.YtolildehdibpbaaDoorTag
namespace Go.Proofs.YtolildehdibpbaaDoor
open Go.RowKit

set_option maxHeartbeats 8000000 in
set_option maxRecDepth 100000 in
theorem kcheck_tab (g : Nat) (seed : List UInt8) (a b : Int) (text tg : List UInt8) (htg : tg.length = 32) (A : Option Addr) (n c : Nat) (w : World) (hts : TS w g seed) (hs : seed.length ≤ 1000000) (hgl0 : 0 < g) (hgl1 : 1 < g) (hby : By w (fun k => k < g) A n text) (ht : Tab w) (hn : n ≤ 1000000) :
    Calls Tryd.prog 24 #[.pointer (some ⟨g, 0, none⟩), .int .i64 a, .int .i64 b, .slice A n c, .agg (vs tg).toArray] w fun e w' => e = .returned (.bool (tagAB seed a b text == tg)) ∧ TS w' g seed ∧ KF g w w' := by
  have hgw' := hts.lt
  have hgw := Nat.le_of_lt hgw'
  have HTS := Lib.hid hts
  have HBy := Lib.hid hby
  have HT := Lib.hid ht
  obtain ⟨tq, htq⟩ : ∃ tq, tq = vs tg := ⟨_, rfl⟩
  have htl : tq.length = 32 := by rw [htq, vs_length, htg]
  have HTl := Lib.hid htl
  have hgt : Blk (w.alloc (.cells tq.toArray 28)) w.heap.size 28 tq := Blk.fresh rfl rfl
  have HGt := Lib.hid hgt
  obtain ⟨bb, hbb⟩ : ∃ bb, bb = (tagAB seed a b text == tg) := ⟨_, rfl⟩
  obtain ⟨q, hq⟩ : ∃ q, q = vs (keyAB seed a b) := ⟨_, rfl⟩
  have hql : q.length = 32 := by rw [hq, vs_length, keyAB_length]
  have hqo : q.toArray.all (·.oneCell') = true := by rw [hq]; exact one_u8
  have hqb : ∀ W k, Blk W k 28 q → By W (fun _ => True) (some ⟨k, 0, none⟩) 32 (keyAB seed a b) := fun W k h => by rw [hq] at h; exact By.of_blk_n h (keyAB_length _ _ _) trivial
  have hadr : ∀ W, By W (fun k => k < g) A n text → Calls Tryd.prog 41 #[.int .i64 a, .int .i64 b, .slice A n c] W fun e w' => ∃ A' c', e = .returned (.slice A' (4 + n) c') ∧ w'.ownsRow W.heap.size 5 1 (.slice A' (4 + n) c') (4 + n) (vs (addr a b text)) ∧ 4 + n ≤ c' ∧ c' ≤ maxLen ∧ Below W.heap.size W w' := fun W h => addressed_any _ a b text A n c W h hn
  have hkey : ∀ W, Tab W → TS W g seed → Calls Tryd.prog 19 #[.pointer (some ⟨g, 0, none⟩), .int .i64 a, .int .i64 b] W fun e w' => e = .returned (.agg q.toArray) ∧ TS w' g seed ∧ KF g W w' := fun W h1 h2 => by rw [hq]; exact key_tab g seed a b W h1 h2 hs
  have hck : ∀ W k A' c', By W (fun _ => True) (some ⟨k, 0, none⟩) 32 (keyAB seed a b) → By W (fun _ => True) A' (4 + n) (addr a b text) → 4 + n ≤ c' → c' ≤ maxLen → Tab W → Calls Tryd.prog 15 #[.slice (some ⟨k, 0, none⟩) 32 32, .slice A' (4 + n) c', .agg tq.toArray] W fun e w' => e = .returned (.bool bb) ∧ Below W.heap.size W w' := fun W k A' c' h1 h2 h3 h4 h5 => by
    rw [hbb, htq]; exact check_any _ _ (keyAB seed a b) (addr a b text) tg htg _ A' 32 32 _ c' W h1 (Nat.le_refl _) (by unfold maxLen; omega) h2 h3 h4 h5 (by omega) (by omega)
  have HKey := Lib.hid hkey
  have HAdr := Lib.hid hadr
  have HCk := Lib.hid hck
  have HQl := Lib.hid hql
  have HQo := Lib.hid hqo
  have HQb := Lib.hid hqb
  rw [← hbb, ← htq]
  clear hby ht hq hql hqo hqb hkey hadr hck hts htq htl hgt hbb
  go_enter Tryd.func24, Tryd.ntmps24
  go_wp2_with (first
    | (go_at_call 19; (with_reducible refine (HKey.out _ (HT.out.through ((Below.refl _ w).alloc (Nat.le_refl _) _)) (HTS.out.through ((Below.refl _ w).alloc (Nat.le_refl _) _))).mono ?_); rintro e w1 ⟨rfl, hts1, hkf1⟩; have HX1 : Hid (KF g w w1) := Lib.hid ((KF.of_below hgw ((Below.refl _ w).alloc (Nat.le_refl _) _)).trans hkf1); have HG1 : Hid (Blk w1 w.heap.size 28 tq) := Lib.hid (hkf1.blk HGt.out (Nat.ne_of_gt hgw')); have HS1 := Lib.hid hts1; have HY1 := Lib.hid ((HBy.out.alloc _).kf hkf1); have HTb1 := Lib.hid ((HT.out.through ((Below.refl _ w).alloc (Nat.le_refl _) _)).kf hkf1 hgl0 hgl1); clear hts1 hkf1)
    | (refine wpList_store_blk rfl 28 (.tmp 11) (.tmp 15) rfl w1.heap.size q rfl rfl 28 (vs zero32) (Blk.fresh rfl (by kernel_rfl)) (by rw [HQl.out]; kernel_rfl) (by rw [HQl.out]; rfl) HQo.out ?_; intro w2 hb2 ho2; have hx2 := below_new ho2; have HG2 := Lib.hid (HG1.out.through hx2); have HQ2 := Lib.hid hb2; have HY2 := Lib.hid (HY1.out.through hx2); have HTb2 := Lib.hid (HTb1.out.through hx2); have HX2 := Lib.hid (HX1.out.trans (KF.of_below (Nat.le_of_lt HS1.out.lt) hx2)); have HS2 := Lib.hid (HS1.out.through hx2); clear hb2 ho2 hx2))
  obtain ⟨b11, hb11⟩ : ∃ b11, b11 = w1.heap.size := ⟨_, rfl⟩
  rw [← hb11] at HQ2
  rw [← hb11]
  obtain ⟨b9, hb9⟩ : ∃ b9, b9 = w.heap.size := ⟨_, rfl⟩
  rw [← hb9] at HG2
  rw [← hb9]
  clear hb9 hb11
  try dsimp only [Act.put]
  refine wp_region_held_drew (S := fun W => Blk W b11 28 q ∧ Blk W b9 28 tq) (by kernel_rfl) ⟨HQ2.out.drew, HG2.out.drew⟩ (fun hHeld => ?_)
  change wpAnyH _ _ _ _ _ _ #[false, false, false, false, false, false, false, false] _ _
  refine wpAnyH_take (i := 0) (v := (.slice (some ⟨b11, 0, none⟩) 32 32)) rfl (by kernel_rfl) (by kernel_rfl) (by kernel_rfl) (fun _ _ _ h => h) (Or.inl ⟨by kernel_rfl, fun w hSw => ?_⟩) (by assumption) ?_
  · (try dsimp only at hSw); go_simp <;> (try rfl)
  change wpAnyH _ _ _ _ _ _ _ (Act.put _ (some (16 : Nat)) (.slice (some ⟨b11, 0, none⟩) 32 32)) _
  simp only [Act.put, List.setIfInBounds_toArray, List.set_cons_zero, List.set_cons_succ]
  refine wpAnyH_take (i := 1) (v := (.int .i64 a)) rfl (by kernel_rfl) (by kernel_rfl) (by kernel_rfl) (fun _ _ _ h => h) (Or.inl ⟨by kernel_rfl, fun w hSw => ?_⟩) (by assumption) ?_
  · (try dsimp only at hSw); go_simp <;> (try rfl)
  change wpAnyH _ _ _ _ _ _ _ (Act.put _ (some (17 : Nat)) (.int .i64 a)) _
  simp only [Act.put, List.setIfInBounds_toArray, List.set_cons_zero, List.set_cons_succ]
  refine wpAnyH_take (i := 2) (v := (.int .i64 b)) rfl (by kernel_rfl) (by kernel_rfl) (by kernel_rfl) (fun _ _ _ h => h) (Or.inl ⟨by kernel_rfl, fun w hSw => ?_⟩) (by assumption) ?_
  · (try dsimp only at hSw); go_simp <;> (try rfl)
  change wpAnyH _ _ _ _ _ _ _ (Act.put _ (some (18 : Nat)) (.int .i64 b)) _
  simp only [Act.put, List.setIfInBounds_toArray, List.set_cons_zero, List.set_cons_succ]
  refine wpAnyH_take (i := 3) (v := (.slice A n c)) rfl (by kernel_rfl) (by kernel_rfl) (by kernel_rfl) (fun _ _ _ h => h) (Or.inl ⟨by kernel_rfl, fun w hSw => ?_⟩) (by assumption) ?_
  · (try dsimp only at hSw); go_simp <;> (try rfl)
  change wpAnyH _ _ _ _ _ _ _ (Act.put _ (some (19 : Nat)) (.slice A n c)) _
  simp only [Act.put, List.setIfInBounds_toArray, List.set_cons_zero, List.set_cons_succ]
  refine wpAnyH_take (i := 5) (v := (.agg tq.toArray)) rfl (by kernel_rfl) (by kernel_rfl) (by kernel_rfl) (fun _ _ _ h => h) (yields_load_at (by kernel_rfl) 28 (.tmp 9) rfl (.pointer (some ⟨b9, 0, none⟩)) (by simp [Act.eval]) (.agg tq.toArray) (fun W hW => hW.2.loadAt 28 _ Tryd.underlying28 rfl (by rw [HTl.out]; kernel_rfl))) (by assumption) ?_
  change wpAnyH _ _ _ _ _ _ _ (Act.put _ (some (21 : Nat)) (.agg tq.toArray)) _
  simp only [Act.put, List.setIfInBounds_toArray, List.set_cons_zero, List.set_cons_succ]
  refine wpAnyH_ready (rs := [4]) (by kernel_rfl) (by simp) ?_
  refine AllReadyH.cons rfl (fun K hK => ?_) AllReadyH.nil
  go_simp
  refine (HAdr.out _ HY2.out.drew).mono ?_
  rintro e wa ⟨Aa, ca, rfl, hoa, hca, hma, hb⟩; have HXwa := Lib.hid (HX2.out.drew.trans (KF.of_below (Nat.le_of_lt HS2.out.lt) hb)); have HSwa := Lib.hid (TS.through (w := w2.drew) HS2.out hb); have HQwa := Lib.hid (HQ2.out.drew.through hb); have HGwa := Lib.hid (HG2.out.drew.through hb); have HTbwa := Lib.hid (HTb2.out.drew_.through hb); have HYa := Lib.hid ((By.of_own hoa).weak (Q' := fun _ => True) fun _ _ => trivial); clear hoa hb
  go_wp2_with fail
  refine hK.out _ _ ⟨HQwa.out, HGwa.out⟩ (fun hHeld1 => ?_)
  clear hHeld hK K
  have hHeld := hHeld1
  clear hHeld1
  refine wpAnyH_ready (rs := [6]) (by kernel_rfl) (by simp) ?_
  refine AllReadyH.cons rfl (fun K hK => ?_) AllReadyH.nil
  go_simp
  refine (HCk.out _ b11 Aa ca (HQb.out _ _ HQwa.out) HYa.out hca hma HTbwa.out).mono ?_
  rintro e wb ⟨rfl, hb⟩; have HXwb := Lib.hid (HXwa.out.trans (KF.of_below (Nat.le_of_lt HSwa.out.lt) hb)); have HSwb := Lib.hid (HSwa.out.through hb); have HQwb := Lib.hid (HQwa.out.through hb); have HGwb := Lib.hid (HGwa.out.through hb); have HTbwb := Lib.hid (HTbwa.out.through hb); clear hb
  go_wp2_with fail
  refine hK.out _ _ ⟨HQwb.out, HGwb.out⟩ (fun hHeld1 => ?_)
  clear hHeld hK K
  have hHeld := hHeld1
  clear hHeld1
  refine wpAnyH_take (i := 7) (v := (.bool bb)) rfl (by kernel_rfl) (by kernel_rfl) (by kernel_rfl) (fun _ _ _ h => h) (Or.inl ⟨by kernel_rfl, fun w hSw => ?_⟩) (by assumption) ?_
  · (try dsimp only at hSw); go_simp <;> (try rfl)
  change wpAnyH _ _ _ _ _ _ _ (Act.put _ (some (10 : Nat)) (.bool bb)) _
  simp only [Act.put, List.setIfInBounds_toArray, List.set_cons_zero, List.set_cons_succ]
  refine wpAnyH_done (by kernel_rfl) ?_ _
  go_wp2
  go_ret
  exact ⟨rfl, HSwb.out, HXwb.out⟩

set_option maxHeartbeats 2000000 in
set_option maxRecDepth 100000 in
theorem knew_any (Q : Nat → Prop) (seed : List UInt8) (A : Option Addr) (n c : Nat) (w : World) (hby : By w Q A n seed) (hn : n ≤ 1000000) :
    Calls Tryd.prog 18 #[.slice A n c] w fun e w' => ∃ g, e = .returned (.pointer (some ⟨g, 0, none⟩)) ∧ TS w' g seed ∧ w.heap.size ≤ g ∧ Below w.heap.size w w' := by
  have HBy := Lib.hid hby
  have hclone : ∀ W, By W Q A n seed → Calls Tryd.prog 37 #[.slice A n c] W fun e w' => ∃ A' c', e = .returned (.slice A' n c') ∧ w'.ownsRow W.heap.size 5 1 (.slice A' n c') n (vs seed) ∧ n ≤ c' ∧ c' ≤ maxLen ∧ Below W.heap.size W w' := fun W h => by
    refine (clone_any Q A n c seed W h (by omega)).mono ?_
    rintro e w' ⟨v, rfl, ho, hb⟩
    obtain ⟨A', c', rfl, h1, h2, _⟩ := own_form ho
    exact ⟨A', c', rfl, ho, h1, h2, hb⟩
  have HCl := Lib.hid hclone
  clear hby hclone
  go_enter Tryd.func18, Tryd.ntmps18
  go_wp2_with (first
    | (go_at_call 37; (with_reducible refine (HCl.out _ HBy.out).mono ?_); rintro e w1 ⟨A1, c1, rfl, ho1, hc1, hm1, hb1⟩; have HO1 := Lib.hid ho1; have HX1 := Lib.hid hb1; clear ho1 hb1))
  go_ret
  refine ⟨w1.heap.size, rfl, ⟨none, A1, n, c1, Blk.fresh rfl rfl, ((By.of_own HO1.out).weak (fun k hk => hk.2.1)).alloc _, hc1, hm1, MapIs.none_⟩, HX1.out.size, HX1.out.alloc HX1.out.size _⟩

end Go.Proofs.YtolildehdibpbaaDoor
