/-
  KeysChecks, walked.
-/
import Derived.Test.YtolildehdibpbaaDoorLG
namespace Go.Proofs.YtolildehdibpbaaDoor
open Go.RowKit

set_option maxHeartbeats 16000000 in
set_option maxRecDepth 100000 in
theorem kchecks_any (Q Q' : Nat → Prop) (seed text tg : List UInt8) (htg : tg.length = 32) (a b : Int) (A A' : Option Addr) (n c n' c' : Nat) (w : World) (ht : Tab w) (hby : By w Q A n seed) (hby' : By w Q' A' n' text) :
    Calls Tryd.prog 8 #[.slice A n c, .int .i64 a, .int .i64 b, .slice A' n' c', .agg (vs tg).toArray] w fun e w' => e = .returned (.bool true) ∧ Below w.heap.size w w' := by
  have HT := Lib.hid ht
  have HBy := Lib.hid hby
  have HBy' := Lib.hid hby'
  obtain ⟨tq, htq⟩ : ∃ tq, tq = vs tg := ⟨_, rfl⟩
  have htl : tq.length = 32 := by rw [htq, vs_length, htg]
  have hgt : Blk (w.alloc (.cells tq.toArray 28)) w.heap.size 28 tq := Blk.fresh rfl rfl
  have HTl := Lib.hid htl
  have HGt := Lib.hid hgt
  rw [← htq]
  by_cases hn : 100 < n
  · have hd : decide (100 < (n : Int)) = true := by simp; omega
    clear ht hby hby' htq htl hgt
    go_enter Tryd.func8, Tryd.ntmps8
    go_wp2_with (go_at_call 17; refine (kfixed_any _ (HT.out.through ((Below.refl _ w).alloc (Nat.le_refl _) _))).mono ?_; rintro e w1 ⟨rfl, hx1⟩)
    go_ret
    exact ⟨rfl, ((Below.refl _ w).alloc (Nat.le_refl _) _).trans (hx1.mono (by simp))⟩
  by_cases hn' : 100 < n'
  · have hd : decide (100 < (n : Int)) = false := by simp; omega
    have hd' : decide (100 < (n' : Int)) = true := by simp; omega
    clear ht hby hby' htq htl hgt
    go_enter Tryd.func8, Tryd.ntmps8
    go_wp2_with (go_at_call 17; refine (kfixed_any _ (HT.out.through ((Below.refl _ w).alloc (Nat.le_refl _) _))).mono ?_; rintro e w1 ⟨rfl, hx1⟩)
    go_ret
    exact ⟨rfl, ((Below.refl _ w).alloc (Nat.le_refl _) _).trans (hx1.mono (by simp))⟩
  have hd : decide (100 < (n : Int)) = false := by simp; omega
  have hd' : decide (100 < (n' : Int)) = false := by simp; omega
  have hgl0 := ht.lt.1
  have hgl1 := ht.lt.2
  have hsl : seed.length ≤ 1000000 := by rw [hby.len]; omega
  obtain ⟨own, hown⟩ : ∃ own, own = tagAB seed a b text := ⟨_, rfl⟩
  have hol : own.length = 32 := by rw [hown, tagAB_length]
  obtain ⟨q, hq⟩ : ∃ q, q = vs own := ⟨_, rfl⟩
  have hql : q.length = 32 := by rw [hq, vs_length, hol]
  have hqo : q.toArray.all (·.oneCell') = true := by rw [hq]; exact one_u8
  obtain ⟨ba, hba⟩ : ∃ ba, ba = vs (tagAB seed b a text) := ⟨_, rfl⟩
  obtain ⟨b3, hb3⟩ : ∃ b3, b3 = (tg == own) := ⟨_, rfl⟩
  obtain ⟨b4, hb4⟩ : ∃ b4, b4 = (own == tagAB seed b a text) := ⟨_, rfl⟩
  have heql3 : ∀ W, (binOp .eql 28 (.agg tq.toArray) (.agg q.toArray)).run Tryd.prog W = .ok (.bool b3) W := fun W => by
    rw [htq, hq, hb3]; exact tag_eql tg own htg hol W
  have heql4 : ∀ W, (binOp .eql 28 (.agg q.toArray) (.agg ba.toArray)).run Tryd.prog W = .ok (.bool b4) W := fun W => by
    rw [hq, hba, hb4]; exact tag_eql own _ hol (tagAB_length _ _ _ _) W
  have hck : ∀ W g (x y : Int) (t : List UInt8), t.length = 32 → w.heap.size ≤ g → TS W g seed → Tab W → By W (fun k => k < g) A' n' text → Calls Tryd.prog 24 #[.pointer (some ⟨g, 0, none⟩), .int .i64 x, .int .i64 y, .slice A' n' c', .agg (vs t).toArray] W fun e w' => e = .returned (.bool (tagAB seed x y text == t)) ∧ TS w' g seed ∧ KF g W w' := fun W g x y t h0 h1 h2 h3 h4 =>
    kcheck_tab g seed x y text t h0 A' n' c' W h2 hsl (Nat.lt_of_lt_of_le hgl0 h1) (Nat.lt_of_lt_of_le hgl1 h1) h4 h3 (by omega)
  have hc1 : ∀ W g, w.heap.size ≤ g → TS W g seed → Tab W → By W (fun k => k < g) A' n' text → Calls Tryd.prog 24 #[.pointer (some ⟨g, 0, none⟩), .int .i64 a, .int .i64 b, .slice A' n' c', .agg q.toArray] W fun e w' => e = .returned (.bool true) ∧ TS w' g seed ∧ KF g W w' := fun W g h1 h2 h3 h4 => by
    have h := hck W g a b own hol h1 h2 h3 h4
    rw [← hown, beq_self_eq_true] at h
    rw [hq]; exact h
  have hc2 : ∀ W g, w.heap.size ≤ g → TS W g seed → Tab W → By W (fun k => k < g) A' n' text → Calls Tryd.prog 24 #[.pointer (some ⟨g, 0, none⟩), .int .i64 a, .int .i64 b, .slice A' n' c', .agg tq.toArray] W fun e w' => e = .returned (.bool b3) ∧ TS w' g seed ∧ KF g W w' := fun W g h1 h2 h3 h4 => by
    have h := hck W g a b tg htg h1 h2 h3 h4
    have e : (tagAB seed a b text == tg) = b3 := by rw [hb3, hown, Bool.eq_iff_iff]; simp only [beq_iff_eq]; exact ⟨Eq.symm, Eq.symm⟩
    rw [e] at h
    rw [htq]; exact h
  have hc3 : ∀ W g, w.heap.size ≤ g → TS W g seed → Tab W → By W (fun k => k < g) A' n' text → Calls Tryd.prog 24 #[.pointer (some ⟨g, 0, none⟩), .int .i64 b, .int .i64 a, .slice A' n' c', .agg q.toArray] W fun e w' => e = .returned (.bool b4) ∧ TS w' g seed ∧ KF g W w' := fun W g h1 h2 h3 h4 => by
    have h := hck W g b a own hol h1 h2 h3 h4
    have e : (tagAB seed b a text == own) = b4 := by rw [hb4, Bool.eq_iff_iff]; simp only [beq_iff_eq]; exact ⟨Eq.symm, Eq.symm⟩
    rw [e] at h
    rw [hq]; exact h
  have hrt : ∀ W, By W Q A n seed → By W Q' A' n' text → Calls Tryd.prog 22 #[.slice A n c, .int .i64 b, .int .i64 a, .slice A' n' c'] W fun e w' => e = .returned (.agg ba.toArray) ∧ Below W.heap.size W w' := fun W h1 h2 => by
    rw [hba]; exact rtag_any Q Q' seed b a text A A' n c n' c' W h1 (by omega) h2 (by omega)
  have hro : ∀ W, By W Q A n seed → By W Q' A' n' text → Calls Tryd.prog 22 #[.slice A n c, .int .i64 a, .int .i64 b, .slice A' n' c'] W fun e w' => e = .returned (.agg q.toArray) ∧ Below W.heap.size W w' := fun W h1 h2 => by
    rw [hq, hown]; exact rtag_any Q Q' seed a b text A A' n c n' c' W h1 (by omega) h2 (by omega)
  have hnew : ∀ W, By W Q A n seed → Calls Tryd.prog 18 #[.slice A n c] W fun e w' => ∃ g, e = .returned (.pointer (some ⟨g, 0, none⟩)) ∧ TS w' g seed ∧ W.heap.size ≤ g ∧ Below W.heap.size W w' := fun W h => knew_any Q seed A n c W h (by omega)
  have HC1' := Lib.hid hc1
  have HC2' := Lib.hid hc2
  have HC3' := Lib.hid hc3
  have HRt := Lib.hid hrt
  have HRo := Lib.hid hro
  have HNew := Lib.hid hnew
  have HQl := Lib.hid hql
  have HQo := Lib.hid hqo
  clear ht hby hby' htq htl hgt hgl0 hgl1 hsl hown hol hq hql hqo hba hb3 hb4 hck hc1 hc2 hc3 hrt hro hnew
  go_enter Tryd.func8, Tryd.ntmps8
  go_wp2_with (first
    | (go_at_call 17; refine (kfixed_any _ (HT.out.through ((Below.refl _ w).alloc (Nat.le_refl _) _))).mono ?_; rintro e w1 ⟨rfl, hx1⟩; have HX1 : Hid (Below w.heap.size w w1) := Lib.hid (((Below.refl _ w).alloc (Nat.le_refl _) _).trans (hx1.mono (by simp))); have HG1 : Hid (Blk w1 w.heap.size 28 tq) := Lib.hid (HGt.out.through hx1); clear hx1)
    | (go_at_call 18; (with_reducible refine (HNew.out _ (HBy.out.through HX1.out)).mono ?_); rintro e w2 ⟨g, rfl, hts2, hg2, hb2⟩; have HS2 := Lib.hid hts2; have HX2 := Lib.hid (HX1.out.trans (hb2.mono HX1.out.size)); have HG2 := Lib.hid (HG1.out.through hb2); have hg9 : w.heap.size < g := Nat.lt_of_lt_of_le HG1.out.lt hg2; clear hts2 hb2 hg2)
    | (go_at_call 22; (with_reducible refine (HRo.out _ (HBy.out.through HX2.out) (HBy'.out.through HX2.out)).mono ?_); rintro e w3 ⟨rfl, hb3⟩; have HS3 := Lib.hid (HS2.out.through hb3); have HX3 := Lib.hid (HX2.out.trans (hb3.mono HX2.out.size)); have HG3 := Lib.hid (HG2.out.through hb3); have hgs3 := HS3.out.lt; clear hb3)
    | (refine wpList_store_blk rfl 28 (.tmp 12) (.tmp 29) rfl w3.heap.size q rfl rfl 28 (vs zero32) (Blk.fresh rfl (by kernel_rfl)) (by rw [HQl.out]; kernel_rfl) (by rw [HQl.out]; rfl) HQo.out ?_; intro w4 hb4 ho4; have hx4 := below_new ho4; have HX0 := Lib.hid (HX3.out.trans (hx4.mono HX3.out.size)); have HS0 := Lib.hid (HS3.out.through hx4); have H3' := Lib.hid (HG3.out.through hx4); have H2' := Lib.hid hb4; clear hb4 ho4 hx4))
  obtain ⟨b12, hb12⟩ : ∃ b12, b12 = w3.heap.size := ⟨_, rfl⟩
  rw [← hb12] at H2'
  have hn2 : b12 ≠ g := by rw [hb12]; exact Nat.ne_of_gt hgs3
  rw [← hb12]
  obtain ⟨b9, hb9⟩ : ∃ b9, b9 = w.heap.size := ⟨_, rfl⟩
  rw [← hb9] at H3'
  have hn3 : b9 ≠ g := by rw [hb9]; exact Nat.ne_of_lt hg9
  have hwg := Nat.le_of_lt hg9
  rw [← hb9]
  have H20 := H2'
  have H30 := H3'
  have HYg : Hid (By w (fun k => k < g) A' n' text) := Lib.hid (HBy'.out.lt.weak fun k h => Nat.lt_of_lt_of_le h.2 hwg)
  have HC1 := Lib.hid (fun W h1 h2 h3 => HC1'.out W g hwg h1 h2 h3)
  have HC2 := Lib.hid (fun W h1 h2 h3 => HC2'.out W g hwg h1 h2 h3)
  have HC3 := Lib.hid (fun W h1 h2 h3 => HC3'.out W g hwg h1 h2 h3)
  clear hb12 hb9 hgs3 hg9 H2' H3' HC1' HC2' HC3'
  try dsimp only [Act.put]
  refine wp_region_held_drew (S := fun W => Blk W b12 28 q ∧ Blk W b9 28 tq) (by kernel_rfl) ⟨H20.out.drew, H30.out.drew⟩ (fun hHeld => ?_)
  change wpAnyH _ _ _ _ _ _ #[false, false, false, false, false, false, false, false, false, false, false, false, false, false, false, false, false, false, false, false, false, false, false, false, false, false, false, false, false, false, false, false, false, false, false] _ _
  refine wpAnyH_take (i := 0) (v := (.pointer (some ⟨g, 0, none⟩))) rfl (by kernel_rfl) (by kernel_rfl) (by kernel_rfl) (fun _ _ _ h => h) (Or.inl ⟨by kernel_rfl, fun w hSw => ?_⟩) (by assumption) ?_
  · (try dsimp only at hSw); go_simp <;> (try rfl)
  change wpAnyH _ _ _ _ _ _ _ (Act.put _ (some (30 : Nat)) (.pointer (some ⟨g, 0, none⟩))) _
  simp only [Act.put, List.setIfInBounds_toArray, List.set_cons_zero, List.set_cons_succ]
  refine wpAnyH_take (i := 1) (v := (.int .i64 a)) rfl (by kernel_rfl) (by kernel_rfl) (by kernel_rfl) (fun _ _ _ h => h) (Or.inl ⟨by kernel_rfl, fun w hSw => ?_⟩) (by assumption) ?_
  · (try dsimp only at hSw); go_simp <;> (try rfl)
  change wpAnyH _ _ _ _ _ _ _ (Act.put _ (some (31 : Nat)) (.int .i64 a)) _
  simp only [Act.put, List.setIfInBounds_toArray, List.set_cons_zero, List.set_cons_succ]
  refine wpAnyH_take (i := 2) (v := (.int .i64 b)) rfl (by kernel_rfl) (by kernel_rfl) (by kernel_rfl) (fun _ _ _ h => h) (Or.inl ⟨by kernel_rfl, fun w hSw => ?_⟩) (by assumption) ?_
  · (try dsimp only at hSw); go_simp <;> (try rfl)
  change wpAnyH _ _ _ _ _ _ _ (Act.put _ (some (32 : Nat)) (.int .i64 b)) _
  simp only [Act.put, List.setIfInBounds_toArray, List.set_cons_zero, List.set_cons_succ]
  refine wpAnyH_take (i := 3) (v := (.slice A' n' c')) rfl (by kernel_rfl) (by kernel_rfl) (by kernel_rfl) (fun _ _ _ h => h) (Or.inl ⟨by kernel_rfl, fun w hSw => ?_⟩) (by assumption) ?_
  · (try dsimp only at hSw); go_simp <;> (try rfl)
  change wpAnyH _ _ _ _ _ _ _ (Act.put _ (some (33 : Nat)) (.slice A' n' c')) _
  simp only [Act.put, List.setIfInBounds_toArray, List.set_cons_zero, List.set_cons_succ]
  refine wpAnyH_take (i := 4) (v := (.agg q.toArray)) rfl (by kernel_rfl) (by kernel_rfl) (by kernel_rfl) (fun _ _ _ h => h) (yields_load_at (by kernel_rfl) 28 (.tmp 12) rfl (.pointer (some ⟨b12, 0, none⟩)) (by simp [Act.eval]) (.agg q.toArray) (fun W hW => hW.1.loadAt 28 _ Tryd.underlying28 rfl (by rw [HQl.out]; kernel_rfl))) (by assumption) ?_
  change wpAnyH _ _ _ _ _ _ _ (Act.put _ (some (34 : Nat)) (.agg q.toArray)) _
  simp only [Act.put, List.setIfInBounds_toArray, List.set_cons_zero, List.set_cons_succ]
  refine wpAnyH_ready (rs := [5]) (by kernel_rfl) (by simp) ?_
  refine AllReadyH.cons rfl (fun K hK => ?_) AllReadyH.nil
  go_simp
  refine (HC1.out _ (TS.drew_ HS0.out) (Tab.drew_ (HT.out.through HX0.out)) ((HYg.out.through HX0.out).drew)).mono ?_
  rintro e wa ⟨rfl, hts, hkf⟩; have HSwa := Lib.hid hts; have H2wa := Lib.hid (hkf.blk H20.out.drew hn2); have H3wa := Lib.hid (hkf.blk H30.out.drew hn3); have HXwa := Lib.hid (HX0.out.drew.trans (hkf.1.mono hwg)); clear hts hkf
  go_wp2_with fail
  refine hK.out _ _ ⟨H2wa.out, H3wa.out⟩ (fun hHeld1 => ?_)
  clear hHeld hK K
  have hHeld := hHeld1
  clear hHeld1
  refine wpAnyH_take (i := 6) (v := (.bool true)) rfl (by kernel_rfl) (by kernel_rfl) (by kernel_rfl) (fun _ _ _ h => h) (Or.inl ⟨by kernel_rfl, fun w hSw => ?_⟩) (by assumption) ?_
  · (try dsimp only at hSw); go_simp <;> (try rfl)
  change wpAnyH _ _ _ _ _ _ _ (Act.put _ (some (36 : Nat)) (.bool true)) _
  simp only [Act.put, List.setIfInBounds_toArray, List.set_cons_zero, List.set_cons_succ]
  refine wpAnyH_take (i := 7) (v := (.pointer (some ⟨g, 0, none⟩))) rfl (by kernel_rfl) (by kernel_rfl) (by kernel_rfl) (fun _ _ _ h => h) (Or.inl ⟨by kernel_rfl, fun w hSw => ?_⟩) (by assumption) ?_
  · (try dsimp only at hSw); go_simp <;> (try rfl)
  change wpAnyH _ _ _ _ _ _ _ (Act.put _ (some (37 : Nat)) (.pointer (some ⟨g, 0, none⟩))) _
  simp only [Act.put, List.setIfInBounds_toArray, List.set_cons_zero, List.set_cons_succ]
  refine wpAnyH_take (i := 8) (v := (.int .i64 a)) rfl (by kernel_rfl) (by kernel_rfl) (by kernel_rfl) (fun _ _ _ h => h) (Or.inl ⟨by kernel_rfl, fun w hSw => ?_⟩) (by assumption) ?_
  · (try dsimp only at hSw); go_simp <;> (try rfl)
  change wpAnyH _ _ _ _ _ _ _ (Act.put _ (some (38 : Nat)) (.int .i64 a)) _
  simp only [Act.put, List.setIfInBounds_toArray, List.set_cons_zero, List.set_cons_succ]
  refine wpAnyH_take (i := 9) (v := (.int .i64 b)) rfl (by kernel_rfl) (by kernel_rfl) (by kernel_rfl) (fun _ _ _ h => h) (Or.inl ⟨by kernel_rfl, fun w hSw => ?_⟩) (by assumption) ?_
  · (try dsimp only at hSw); go_simp <;> (try rfl)
  change wpAnyH _ _ _ _ _ _ _ (Act.put _ (some (39 : Nat)) (.int .i64 b)) _
  simp only [Act.put, List.setIfInBounds_toArray, List.set_cons_zero, List.set_cons_succ]
  refine wpAnyH_take (i := 10) (v := (.slice A' n' c')) rfl (by kernel_rfl) (by kernel_rfl) (by kernel_rfl) (fun _ _ _ h => h) (Or.inl ⟨by kernel_rfl, fun w hSw => ?_⟩) (by assumption) ?_
  · (try dsimp only at hSw); go_simp <;> (try rfl)
  change wpAnyH _ _ _ _ _ _ _ (Act.put _ (some (40 : Nat)) (.slice A' n' c')) _
  simp only [Act.put, List.setIfInBounds_toArray, List.set_cons_zero, List.set_cons_succ]
  refine wpAnyH_take (i := 11) (v := (.agg tq.toArray)) rfl (by kernel_rfl) (by kernel_rfl) (by kernel_rfl) (fun _ _ _ h => h) (yields_load_at (by kernel_rfl) 28 (.tmp 9) rfl (.pointer (some ⟨b9, 0, none⟩)) (by simp [Act.eval]) (.agg tq.toArray) (fun W hW => hW.2.loadAt 28 _ Tryd.underlying28 rfl (by rw [HTl.out]; kernel_rfl))) (by assumption) ?_
  change wpAnyH _ _ _ _ _ _ _ (Act.put _ (some (41 : Nat)) (.agg tq.toArray)) _
  simp only [Act.put, List.setIfInBounds_toArray, List.set_cons_zero, List.set_cons_succ]
  refine wpAnyH_take (i := 13) (v := (.agg tq.toArray)) rfl (by kernel_rfl) (by kernel_rfl) (by kernel_rfl) (fun _ _ _ h => h) (yields_load_at (by kernel_rfl) 28 (.tmp 9) rfl (.pointer (some ⟨b9, 0, none⟩)) (by simp [Act.eval]) (.agg tq.toArray) (fun W hW => hW.2.loadAt 28 _ Tryd.underlying28 rfl (by rw [HTl.out]; kernel_rfl))) (by assumption) ?_
  change wpAnyH _ _ _ _ _ _ _ (Act.put _ (some (43 : Nat)) (.agg tq.toArray)) _
  simp only [Act.put, List.setIfInBounds_toArray, List.set_cons_zero, List.set_cons_succ]
  refine wpAnyH_take (i := 14) (v := (.agg q.toArray)) rfl (by kernel_rfl) (by kernel_rfl) (by kernel_rfl) (fun _ _ _ h => h) (yields_load_at (by kernel_rfl) 28 (.tmp 12) rfl (.pointer (some ⟨b12, 0, none⟩)) (by simp [Act.eval]) (.agg q.toArray) (fun W hW => hW.1.loadAt 28 _ Tryd.underlying28 rfl (by rw [HQl.out]; kernel_rfl))) (by assumption) ?_
  change wpAnyH _ _ _ _ _ _ _ (Act.put _ (some (44 : Nat)) (.agg q.toArray)) _
  simp only [Act.put, List.setIfInBounds_toArray, List.set_cons_zero, List.set_cons_succ]
  refine wpAnyH_take (i := 15) (v := (.bool b3)) rfl (by kernel_rfl) (by kernel_rfl) (by kernel_rfl) (fun _ _ _ h => h) (Or.inl ⟨by kernel_rfl, fun w hSw => ?_⟩) (by assumption) ?_
  · (try dsimp only at hSw); go_simp <;> (try rfl)
  change wpAnyH _ _ _ _ _ _ _ (Act.put _ (some (45 : Nat)) (.bool b3)) _
  simp only [Act.put, List.setIfInBounds_toArray, List.set_cons_zero, List.set_cons_succ]
  refine wpAnyH_ready (rs := [12]) (by kernel_rfl) (by simp) ?_
  refine AllReadyH.cons rfl (fun K hK => ?_) AllReadyH.nil
  go_simp
  refine (HC2.out _ HSwa.out (HT.out.through HXwa.out) (HYg.out.through HXwa.out)).mono ?_
  rintro e wb ⟨rfl, hts, hkf⟩; have HSwb := Lib.hid hts; have H2wb := Lib.hid (hkf.blk H2wa.out hn2); have H3wb := Lib.hid (hkf.blk H3wa.out hn3); have HXwb := Lib.hid (HXwa.out.trans (hkf.1.mono hwg)); clear hts hkf
  go_wp2_with fail
  refine hK.out _ _ ⟨H2wb.out, H3wb.out⟩ (fun hHeld1 => ?_)
  clear hHeld hK K
  have hHeld := hHeld1
  clear hHeld1
  refine wpAnyH_take (i := 16) (v := (.bool true)) rfl (by kernel_rfl) (by kernel_rfl) (by kernel_rfl) (fun _ _ _ h => h) (Or.inl ⟨by kernel_rfl, fun w hSw => ?_⟩) (by assumption) ?_
  · (try dsimp only at hSw); go_simp <;> (try rfl)
  change wpAnyH _ _ _ _ _ _ _ (Act.put _ (some (46 : Nat)) (.bool true)) _
  simp only [Act.put, List.setIfInBounds_toArray, List.set_cons_zero, List.set_cons_succ]
  refine wpAnyH_take (i := 17) (v := (.bool true)) rfl (by kernel_rfl) (by kernel_rfl) (by kernel_rfl) (fun _ _ _ h => h) (Or.inl ⟨by kernel_rfl, fun w hSw => ?_⟩) (by assumption) ?_
  · (try dsimp only at hSw); go_simp <;> (try rfl)
  change wpAnyH _ _ _ _ _ _ _ (Act.put _ (some (47 : Nat)) (.bool true)) _
  simp only [Act.put, List.setIfInBounds_toArray, List.set_cons_zero, List.set_cons_succ]
  refine wpAnyH_take (i := 18) (v := (.bool true)) rfl (by kernel_rfl) (by kernel_rfl) (by kernel_rfl) (fun _ _ _ h => h) (Or.inl ⟨by kernel_rfl, fun w hSw => ?_⟩) (by assumption) ?_
  · (try dsimp only at hSw); go_simp <;> (try rfl)
  change wpAnyH _ _ _ _ _ _ _ (Act.put _ (some (48 : Nat)) (.bool true)) _
  simp only [Act.put, List.setIfInBounds_toArray, List.set_cons_zero, List.set_cons_succ]
  refine wpAnyH_take (i := 19) (v := (.pointer (some ⟨g, 0, none⟩))) rfl (by kernel_rfl) (by kernel_rfl) (by kernel_rfl) (fun _ _ _ h => h) (Or.inl ⟨by kernel_rfl, fun w hSw => ?_⟩) (by assumption) ?_
  · (try dsimp only at hSw); go_simp <;> (try rfl)
  change wpAnyH _ _ _ _ _ _ _ (Act.put _ (some (49 : Nat)) (.pointer (some ⟨g, 0, none⟩))) _
  simp only [Act.put, List.setIfInBounds_toArray, List.set_cons_zero, List.set_cons_succ]
  refine wpAnyH_take (i := 20) (v := (.int .i64 b)) rfl (by kernel_rfl) (by kernel_rfl) (by kernel_rfl) (fun _ _ _ h => h) (Or.inl ⟨by kernel_rfl, fun w hSw => ?_⟩) (by assumption) ?_
  · (try dsimp only at hSw); go_simp <;> (try rfl)
  change wpAnyH _ _ _ _ _ _ _ (Act.put _ (some (50 : Nat)) (.int .i64 b)) _
  simp only [Act.put, List.setIfInBounds_toArray, List.set_cons_zero, List.set_cons_succ]
  refine wpAnyH_take (i := 21) (v := (.int .i64 a)) rfl (by kernel_rfl) (by kernel_rfl) (by kernel_rfl) (fun _ _ _ h => h) (Or.inl ⟨by kernel_rfl, fun w hSw => ?_⟩) (by assumption) ?_
  · (try dsimp only at hSw); go_simp <;> (try rfl)
  change wpAnyH _ _ _ _ _ _ _ (Act.put _ (some (51 : Nat)) (.int .i64 a)) _
  simp only [Act.put, List.setIfInBounds_toArray, List.set_cons_zero, List.set_cons_succ]
  refine wpAnyH_take (i := 22) (v := (.slice A' n' c')) rfl (by kernel_rfl) (by kernel_rfl) (by kernel_rfl) (fun _ _ _ h => h) (Or.inl ⟨by kernel_rfl, fun w hSw => ?_⟩) (by assumption) ?_
  · (try dsimp only at hSw); go_simp <;> (try rfl)
  change wpAnyH _ _ _ _ _ _ _ (Act.put _ (some (52 : Nat)) (.slice A' n' c')) _
  simp only [Act.put, List.setIfInBounds_toArray, List.set_cons_zero, List.set_cons_succ]
  refine wpAnyH_take (i := 23) (v := (.agg q.toArray)) rfl (by kernel_rfl) (by kernel_rfl) (by kernel_rfl) (fun _ _ _ h => h) (yields_load_at (by kernel_rfl) 28 (.tmp 12) rfl (.pointer (some ⟨b12, 0, none⟩)) (by simp [Act.eval]) (.agg q.toArray) (fun W hW => hW.1.loadAt 28 _ Tryd.underlying28 rfl (by rw [HQl.out]; kernel_rfl))) (by assumption) ?_
  change wpAnyH _ _ _ _ _ _ _ (Act.put _ (some (53 : Nat)) (.agg q.toArray)) _
  simp only [Act.put, List.setIfInBounds_toArray, List.set_cons_zero, List.set_cons_succ]
  refine wpAnyH_take (i := 25) (v := (.agg q.toArray)) rfl (by kernel_rfl) (by kernel_rfl) (by kernel_rfl) (fun _ _ _ h => h) (yields_load_at (by kernel_rfl) 28 (.tmp 12) rfl (.pointer (some ⟨b12, 0, none⟩)) (by simp [Act.eval]) (.agg q.toArray) (fun W hW => hW.1.loadAt 28 _ Tryd.underlying28 rfl (by rw [HQl.out]; kernel_rfl))) (by assumption) ?_
  change wpAnyH _ _ _ _ _ _ _ (Act.put _ (some (55 : Nat)) (.agg q.toArray)) _
  simp only [Act.put, List.setIfInBounds_toArray, List.set_cons_zero, List.set_cons_succ]
  refine wpAnyH_take (i := 26) (v := (.slice A n c)) rfl (by kernel_rfl) (by kernel_rfl) (by kernel_rfl) (fun _ _ _ h => h) (Or.inl ⟨by kernel_rfl, fun w hSw => ?_⟩) (by assumption) ?_
  · (try dsimp only at hSw); go_simp <;> (try rfl)
  change wpAnyH _ _ _ _ _ _ _ (Act.put _ (some (56 : Nat)) (.slice A n c)) _
  simp only [Act.put, List.setIfInBounds_toArray, List.set_cons_zero, List.set_cons_succ]
  refine wpAnyH_take (i := 27) (v := (.int .i64 b)) rfl (by kernel_rfl) (by kernel_rfl) (by kernel_rfl) (fun _ _ _ h => h) (Or.inl ⟨by kernel_rfl, fun w hSw => ?_⟩) (by assumption) ?_
  · (try dsimp only at hSw); go_simp <;> (try rfl)
  change wpAnyH _ _ _ _ _ _ _ (Act.put _ (some (57 : Nat)) (.int .i64 b)) _
  simp only [Act.put, List.setIfInBounds_toArray, List.set_cons_zero, List.set_cons_succ]
  refine wpAnyH_take (i := 28) (v := (.int .i64 a)) rfl (by kernel_rfl) (by kernel_rfl) (by kernel_rfl) (fun _ _ _ h => h) (Or.inl ⟨by kernel_rfl, fun w hSw => ?_⟩) (by assumption) ?_
  · (try dsimp only at hSw); go_simp <;> (try rfl)
  change wpAnyH _ _ _ _ _ _ _ (Act.put _ (some (58 : Nat)) (.int .i64 a)) _
  simp only [Act.put, List.setIfInBounds_toArray, List.set_cons_zero, List.set_cons_succ]
  refine wpAnyH_take (i := 29) (v := (.slice A' n' c')) rfl (by kernel_rfl) (by kernel_rfl) (by kernel_rfl) (fun _ _ _ h => h) (Or.inl ⟨by kernel_rfl, fun w hSw => ?_⟩) (by assumption) ?_
  · (try dsimp only at hSw); go_simp <;> (try rfl)
  change wpAnyH _ _ _ _ _ _ _ (Act.put _ (some (59 : Nat)) (.slice A' n' c')) _
  simp only [Act.put, List.setIfInBounds_toArray, List.set_cons_zero, List.set_cons_succ]
  refine wpAnyH_ready (rs := [24]) (by kernel_rfl) (by simp) ?_
  refine AllReadyH.cons rfl (fun K hK => ?_) AllReadyH.nil
  go_simp
  refine (HC3.out _ HSwb.out (HT.out.through HXwb.out) (HYg.out.through HXwb.out)).mono ?_
  rintro e wc ⟨rfl, hts, hkf⟩; have HSwc := Lib.hid hts; have H2wc := Lib.hid (hkf.blk H2wb.out hn2); have H3wc := Lib.hid (hkf.blk H3wb.out hn3); have HXwc := Lib.hid (HXwb.out.trans (hkf.1.mono hwg)); clear hts hkf
  go_wp2_with fail
  refine hK.out _ _ ⟨H2wc.out, H3wc.out⟩ (fun hHeld1 => ?_)
  clear hHeld hK K
  have hHeld := hHeld1
  clear hHeld1
  refine wpAnyH_ready (rs := [30]) (by kernel_rfl) (by simp) ?_
  refine AllReadyH.cons rfl (fun K hK => ?_) AllReadyH.nil
  go_simp
  refine (HRt.out _ (HBy.out.through HXwc.out) (HBy'.out.through HXwc.out)).mono ?_
  rintro e wd ⟨rfl, hb⟩; have HSwd := Lib.hid (HSwc.out.through hb); have H2wd := Lib.hid (H2wc.out.through hb); have H3wd := Lib.hid (H3wc.out.through hb); have HXwd := Lib.hid (HXwc.out.trans (hb.mono HXwc.out.size)); clear hb
  go_wp2_with fail
  refine hK.out _ _ ⟨H2wd.out, H3wd.out⟩ (fun hHeld1 => ?_)
  clear hHeld hK K
  have hHeld := hHeld1
  clear hHeld1
  refine wpAnyH_take (i := 31) (v := (.bool b4)) rfl (by kernel_rfl) (by kernel_rfl) (by kernel_rfl) (fun _ _ _ h => h) (Or.inl ⟨by kernel_rfl, fun w hSw => ?_⟩) (by assumption) ?_
  · (try dsimp only at hSw); go_simp <;> (try rfl)
  change wpAnyH _ _ _ _ _ _ _ (Act.put _ (some (61 : Nat)) (.bool b4)) _
  simp only [Act.put, List.setIfInBounds_toArray, List.set_cons_zero, List.set_cons_succ]
  refine wpAnyH_take (i := 32) (v := (.bool true)) rfl (by kernel_rfl) (by kernel_rfl) (by kernel_rfl) (fun _ _ _ h => h) (Or.inl ⟨by kernel_rfl, fun w hSw => ?_⟩) (by assumption) ?_
  · (try dsimp only at hSw); go_simp <;> (try rfl)
  change wpAnyH _ _ _ _ _ _ _ (Act.put _ (some (62 : Nat)) (.bool true)) _
  simp only [Act.put, List.setIfInBounds_toArray, List.set_cons_zero, List.set_cons_succ]
  refine wpAnyH_take (i := 33) (v := (.bool true)) rfl (by kernel_rfl) (by kernel_rfl) (by kernel_rfl) (fun _ _ _ h => h) (Or.inl ⟨by kernel_rfl, fun w hSw => ?_⟩) (by assumption) ?_
  · (try dsimp only at hSw); go_simp <;> (try rfl)
  change wpAnyH _ _ _ _ _ _ _ (Act.put _ (some (63 : Nat)) (.bool true)) _
  simp only [Act.put, List.setIfInBounds_toArray, List.set_cons_zero, List.set_cons_succ]
  refine wpAnyH_take (i := 34) (v := (.bool true)) rfl (by kernel_rfl) (by kernel_rfl) (by kernel_rfl) (fun _ _ _ h => h) (Or.inl ⟨by kernel_rfl, fun w hSw => ?_⟩) (by assumption) ?_
  · (try dsimp only at hSw); go_simp <;> (try rfl)
  change wpAnyH _ _ _ _ _ _ _ (Act.put _ (some (10 : Nat)) (.bool true)) _
  simp only [Act.put, List.setIfInBounds_toArray, List.set_cons_zero, List.set_cons_succ]
  refine wpAnyH_done (by kernel_rfl) ?_ _
  go_wp2
  go_ret
  exact ⟨rfl, HXwd.out⟩

end Go.Proofs.YtolildehdibpbaaDoor
