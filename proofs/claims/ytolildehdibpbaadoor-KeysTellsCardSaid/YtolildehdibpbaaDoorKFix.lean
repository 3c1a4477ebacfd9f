/-
  The facts that stand ahead of each statement of keys.
-/
import Derived.Test.YtolildehdibpbaaDoorKCheck
import Derived.Test.YtolildehdibpbaaDoorTags
namespace Go.Proofs.YtolildehdibpbaaDoor
open Go.RowKit

def seed4 : List UInt8 := [115, 101, 101, 100]
theorem key_12_13 : keyAB seed4 1 2 ≠ keyAB seed4 1 3 := by decide +kernel
theorem dig_1_2 : digK 1 [] ≠ digK 2 [] := by decide +kernel
theorem arr_neq {t : TypeId} {A B : Array Value} {b : Bool} (h : ∀ w, (binOp .eql t (.agg A) (.agg B)).run Tryd.prog w = .ok (.bool b) w) (w : World) : (binOp .neq t (.agg A) (.agg B)).run Tryd.prog w = .ok (.bool (!b)) w := by
  have h := h w
  rw [run_eql_struct] at h
  rw [run_neq_struct]
  cases hq : (Op.equalIn 10000 t (.agg A) (.agg B)).run Tryd.prog w with
  | ok c w' =>
    rw [hq] at h
    simp at h
    obtain ⟨h1, h2⟩ := h
    subst h2
    simp [h1]
  | _ => rw [hq] at h; simp [Result.andThen] at h
theorem dig_eql2 (xs ys : List UInt8) (hx : xs.length = 32) (hy : ys.length = 32) (w : World) : (binOp .eql 25 (.agg (vs xs).toArray) (.agg (vs ys).toArray)).run Tryd.prog w = .ok (.bool (xs == ys)) w :=
  run_eql_bytes w 25 5 32 Tryd.underlying25 Tryd.underlying5 (by kernel_rfl) (by kernel_rfl) xs ys hx hy
theorem digK_length (k : Int) (t : List UInt8) : (digK k t).length = 32 := sha_length _
theorem TS.drew_ {w : World} {g : Nat} {seed : List UInt8} (h : TS w g seed) : TS w.drew g seed := h

theorem kfix_1 {w w3 w4 : World} {g : Nat} (hx : Below w.heap.size w w3) (hs : TS w3 g seed4) (ho : ((w3.alloc (.cells (vs zero32).toArray 28)).alloc (.cells (vs zero32).toArray 28)).grownBy w4 (some w3.heap.size)) :
    Hid (Below w.heap.size w w4) ∧ Hid (TS w4 g seed4) ∧ Hid (Blk w4 (w3.heap.size + 1) 28 (vs zero32)) := by
  have hx2 : Below w3.heap.size w3 w4 := (((Below.refl _ w3).alloc (Nat.le_refl _) _).alloc (by simp) _).grown ho (by simp only [World.size_alloc]; omega) (fun k hk => Option.some.inj hk ▸ Nat.le_refl _)
  exact ⟨Lib.hid (hx.trans (hx2.mono hx.size)), Lib.hid (hs.through hx2), Lib.hid ((Blk.fresh (by simp) rfl).grown ho (by simp))⟩

set_option maxHeartbeats 16000000 in
set_option maxRecDepth 100000 in
theorem kfixed_any (w : World) (ht : Tab w) :
    Calls Tryd.prog 17 #[] w fun e w' => e = .returned (.bool true) ∧ Below w.heap.size w w' := by
  have HT := Lib.hid ht
  have hgl0 := ht.lt.1
  have hgl1 := ht.lt.2
  have kc := fun (w : World) (C : Array Value) (n c : Nat) => Lib.run_convert_bytes_const (P := Tryd.prog) w 22 5 C n c Tryd.underlying22 Tryd.underlying5
  obtain ⟨q, hq⟩ : ∃ q, q = vs (keyAB seed4 1 2) := ⟨_, rfl⟩
  have hql : q.length = 32 := by rw [hq, vs_length, keyAB_length]
  have hqo : q.toArray.all (·.oneCell') = true := by rw [hq]; exact one_u8
  obtain ⟨q3, hq3⟩ : ∃ q3, q3 = vs (keyAB seed4 1 3) := ⟨_, rfl⟩
  obtain ⟨d1, hd1⟩ : ∃ d1, d1 = vs (digK 1 []) := ⟨_, rfl⟩
  obtain ⟨d2, hd2⟩ : ∃ d2, d2 = vs (digK 2 []) := ⟨_, rfl⟩
  obtain ⟨tq, htq⟩ : ∃ tq, tq = vs (tagAB seed4 1 2 []) := ⟨_, rfl⟩
  have heql : ∀ W, (binOp .eql 28 (.agg q.toArray) (.agg q.toArray)).run Tryd.prog W = .ok (.bool true) W := fun W => by
    rw [hq, tag_eql _ _ (keyAB_length _ _ _) (keyAB_length _ _ _), beq_self_eq_true]
  have hneq : ∀ W, (binOp .neq 28 (.agg q.toArray) (.agg q3.toArray)).run Tryd.prog W = .ok (.bool true) W := fun W => by
    have h := arr_neq (t := 28) (A := (vs (keyAB seed4 1 2)).toArray) (B := (vs (keyAB seed4 1 3)).toArray) (b := false) (fun w => by rw [tag_eql _ _ (keyAB_length _ _ _) (keyAB_length _ _ _), beq_eq_false_iff_ne.2 key_12_13]) W
    rw [hq, hq3]; exact h
  have hneqd : ∀ W, (binOp .neq 25 (.agg d1.toArray) (.agg d2.toArray)).run Tryd.prog W = .ok (.bool true) W := fun W => by
    have h := arr_neq (t := 25) (A := (vs (digK 1 [])).toArray) (B := (vs (digK 2 [])).toArray) (b := false) (fun w => by rw [dig_eql2 _ _ (digK_length _ _) (digK_length _ _), beq_eq_false_iff_ne.2 dig_1_2]) W
    rw [hd1, hd2]; exact h
  have hnew : ∀ W A, By W (fun _ => True) A 4 seed4 → Calls Tryd.prog 18 #[.slice A 4 4] W fun e w' => ∃ g, e = .returned (.pointer (some ⟨g, 0, none⟩)) ∧ TS w' g seed4 ∧ W.heap.size ≤ g ∧ Below W.heap.size W w' := fun W A h => knew_any _ seed4 A 4 4 W h (by omega)
  have hk12 : ∀ W g, Tab W → TS W g seed4 → Calls Tryd.prog 19 #[.pointer (some ⟨g, 0, none⟩), .int .i64 1, .int .i64 2] W fun e w' => e = .returned (.agg q.toArray) ∧ TS w' g seed4 ∧ KF g W w' := fun W g h1 h2 => by rw [hq]; exact key_tab g seed4 1 2 W h1 h2 (by decide)
  have hk21 : ∀ W g, Tab W → TS W g seed4 → Calls Tryd.prog 19 #[.pointer (some ⟨g, 0, none⟩), .int .i64 2, .int .i64 1] W fun e w' => e = .returned (.agg q.toArray) ∧ TS w' g seed4 ∧ KF g W w' := fun W g h1 h2 => by rw [hq, keyAB_comm]; exact key_tab g seed4 2 1 W h1 h2 (by decide)
  have hk13 : ∀ W g, Tab W → TS W g seed4 → Calls Tryd.prog 19 #[.pointer (some ⟨g, 0, none⟩), .int .i64 1, .int .i64 3] W fun e w' => e = .returned (.agg q3.toArray) ∧ TS w' g seed4 ∧ KF g W w' := fun W g h1 h2 => by rw [hq3]; exact key_tab g seed4 1 3 W h1 h2 (by decide)
  have hdg1 : ∀ W g, Tab W → Calls Tryd.prog 36 #[.pointer (some ⟨g, 0, none⟩), .int .i64 1, .slice none 0 0] W fun e w' => e = .returned (.agg d1.toArray) ∧ Below W.heap.size W w' := fun W g h => by rw [hd1]; exact digest_any (fun _ => True) _ 1 [] none 0 0 W By.none_ h (by omega)
  have hdg2 : ∀ W g, Tab W → Calls Tryd.prog 36 #[.pointer (some ⟨g, 0, none⟩), .int .i64 2, .slice none 0 0] W fun e w' => e = .returned (.agg d2.toArray) ∧ Below W.heap.size W w' := fun W g h => by rw [hd2]; exact digest_any (fun _ => True) _ 2 [] none 0 0 W By.none_ h (by omega)
  have htg : ∀ W g, w.heap.size ≤ g → TS W g seed4 → Tab W → Calls Tryd.prog 23 #[.pointer (some ⟨g, 0, none⟩), .int .i64 1, .int .i64 2, .slice none 0 0] W fun e w' => e = .returned (.agg tq.toArray) ∧ TS w' g seed4 ∧ KF g W w' := fun W g h0 h1 h2 => by rw [htq]; exact tag_tab g seed4 1 2 [] none 0 0 W h1 (by decide) (Nat.lt_of_lt_of_le hgl0 h0) (Nat.lt_of_lt_of_le hgl1 h0) By.none_ h2 (by omega)
  have hck : ∀ W g, w.heap.size ≤ g → TS W g seed4 → Tab W → Calls Tryd.prog 24 #[.pointer (some ⟨g, 0, none⟩), .int .i64 1, .int .i64 2, .slice none 0 0, .agg tq.toArray] W fun e w' => e = .returned (.bool true) ∧ TS w' g seed4 ∧ KF g W w' := fun W g h0 h1 h2 => by
    have h := kcheck_tab g seed4 1 2 [] (tagAB seed4 1 2 []) (tagAB_length _ _ _ _) none 0 0 W h1 (by decide) (Nat.lt_of_lt_of_le hgl0 h0) (Nat.lt_of_lt_of_le hgl1 h0) By.none_ h2 (by omega)
    rw [beq_self_eq_true] at h
    rw [htq]; exact h
  have HNew := Lib.hid hnew
  have HK12 := Lib.hid hk12
  have HK21 := Lib.hid hk21
  have HK13' := Lib.hid hk13
  have HDg1 := Lib.hid hdg1
  have HDg2 := Lib.hid hdg2
  have HTg := Lib.hid htg
  have HCk' := Lib.hid hck
  have HQl := Lib.hid hql
  have HQo := Lib.hid hqo
  clear ht hgl0 hgl1 hq hql hqo hq3 hd1 hd2 htq hnew hk12 hk21 hk13 hdg1 hdg2 htg hck
  go_enter Tryd.func17, Tryd.ntmps17
  go_wp2_with (first
    | (go_at_call 18; refine (HNew.out _ (some ⟨w.heap.size, 0, none⟩) (by exact By.fresh seed4 (by kernel_rfl))).mono ?_; rintro e w1 ⟨g, rfl, hts1, hg1, hb1⟩; have HS1 := Lib.hid hts1; have HX1 : Hid (Below w.heap.size w w1) := Lib.hid (((Below.refl _ w).alloc (Nat.le_refl _) _).trans (hb1.mono (by simp))); have hwg : w.heap.size ≤ g := Nat.le_trans (by simp) hg1; clear hts1 hb1 hg1)
    | (go_at_call 19; (with_reducible refine (HK12.out _ g (HT.out.through HX1.out) HS1.out).mono ?_); rintro e w2 ⟨rfl, hts2, hkf2⟩; have HS2 := Lib.hid hts2; have HX2 := Lib.hid (HX1.out.trans (hkf2.1.mono hwg)); clear hts2 hkf2)
    | (go_at_call 19; (with_reducible refine (HK21.out _ g (HT.out.through HX2.out) HS2.out).mono ?_); rintro e w3 ⟨rfl, hts3, hkf3⟩; have HS3 := Lib.hid hts3; have HX3 := Lib.hid (HX2.out.trans (hkf3.1.mono hwg)); have hgs3 := hts3.lt; clear hts3 hkf3)
    | (refine wpList_store_blk rfl 28 (.tmp 2) (.tmp 8) rfl w3.heap.size q rfl rfl 28 (vs zero32) ((Blk.fresh rfl (by kernel_rfl)).alloc _) (by rw [HQl.out]; kernel_rfl) (by rw [HQl.out]; rfl) HQo.out ?_; intro w4 hb4 ho4; obtain ⟨HX4, HS4, H34⟩ := kfix_1 HX3.out HS3.out ho4; have H24 := Lib.hid hb4; clear hb4 ho4)
    | (refine wpList_store_blk rfl 28 (.tmp 3) (.tmp 10) rfl (w3.heap.size + 1) q rfl rfl 28 (vs zero32) H34.out (by rw [HQl.out]; kernel_rfl) (by rw [HQl.out]; rfl) HQo.out ?_; intro w5 hb5 ho5; have H20' := Lib.hid (H24.out.grown ho5 (by simp)); have H30' := Lib.hid hb5; have HX0 := Lib.hid (HX4.out.grown ho5 HX4.out.size (fun k hk => Option.some.inj hk ▸ Nat.le_succ_of_le HX3.out.size)); have HS0 := Lib.hid (HS4.out.grown H34.out ho5 (Nat.lt_succ_of_lt hgs3)); clear hb5 ho5))
  obtain ⟨b3, hb3⟩ : ∃ b3, b3 = w3.heap.size + 1 := ⟨_, rfl⟩
  rw [← hb3] at H30'
  rw [← hb3]
  obtain ⟨b2, hb2⟩ : ∃ b2, b2 = w3.heap.size := ⟨_, rfl⟩
  rw [← hb2] at H20'
  have hn2 : b2 ≠ g := by rw [hb2]; exact Nat.ne_of_gt hgs3
  have hn3 : b3 ≠ g := by rw [hb3]; exact Nat.ne_of_gt (Nat.lt_succ_of_lt hgs3)
  rw [← hb2]
  have H20 := H20'
  have H30 := H30'
  have HKey13 := Lib.hid (fun W h1 h2 => HK13'.out W g h1 h2)
  have HD1 := Lib.hid (fun W h => HDg1.out W g h)
  have HD2 := Lib.hid (fun W h => HDg2.out W g h)
  have HTag := Lib.hid (fun W h1 h2 => HTg.out W g hwg h1 h2)
  have HCk := Lib.hid (fun W h1 h2 => HCk'.out W g hwg h1 h2)
  clear hb2 hb3 hgs3 H20' H30'
  try dsimp only [Act.put]
  refine wp_region_held_drew (S := fun W => Blk W b2 28 q ∧ Blk W b3 28 q) (by kernel_rfl) ⟨H20.out.drew, H30.out.drew⟩ (fun hHeld => ?_)
  change wpAnyH _ _ _ _ _ _ #[false, false, false, false, false, false, false, false, false, false, false, false, false, false, false, false, false, false, false, false, false, false, false] _ _
  refine wpAnyH_take (i := 0) (v := (.agg q.toArray)) rfl (by kernel_rfl) (by kernel_rfl) (by kernel_rfl) (fun _ _ _ h => h) (yields_load_at (by kernel_rfl) 28 (.tmp 2) rfl (.pointer (some ⟨b2, 0, none⟩)) (by simp [Act.eval]) (.agg q.toArray) (fun W hW => hW.1.loadAt 28 _ Tryd.underlying28 rfl (by rw [HQl.out]; kernel_rfl))) (by assumption) ?_
  change wpAnyH _ _ _ _ _ _ _ (Act.put _ (some (11 : Nat)) (.agg q.toArray)) _
  simp only [Act.put, List.setIfInBounds_toArray, List.set_cons_zero, List.set_cons_succ]
  refine wpAnyH_take (i := 1) (v := (.agg q.toArray)) rfl (by kernel_rfl) (by kernel_rfl) (by kernel_rfl) (fun _ _ _ h => h) (yields_load_at (by kernel_rfl) 28 (.tmp 3) rfl (.pointer (some ⟨b3, 0, none⟩)) (by simp [Act.eval]) (.agg q.toArray) (fun W hW => hW.2.loadAt 28 _ Tryd.underlying28 rfl (by rw [HQl.out]; kernel_rfl))) (by assumption) ?_
  change wpAnyH _ _ _ _ _ _ _ (Act.put _ (some (12 : Nat)) (.agg q.toArray)) _
  simp only [Act.put, List.setIfInBounds_toArray, List.set_cons_zero, List.set_cons_succ]
  refine wpAnyH_take (i := 2) (v := (.bool true)) rfl (by kernel_rfl) (by kernel_rfl) (by kernel_rfl) (fun _ _ _ h => h) (Or.inl ⟨by kernel_rfl, fun w hSw => ?_⟩) (by assumption) ?_
  · (try dsimp only at hSw); go_simp <;> (try rfl)
  change wpAnyH _ _ _ _ _ _ _ (Act.put _ (some (13 : Nat)) (.bool true)) _
  simp only [Act.put, List.setIfInBounds_toArray, List.set_cons_zero, List.set_cons_succ]
  refine wpAnyH_take (i := 3) (v := (.bool true)) rfl (by kernel_rfl) (by kernel_rfl) (by kernel_rfl) (fun _ _ _ h => h) (Or.inl ⟨by kernel_rfl, fun w hSw => ?_⟩) (by assumption) ?_
  · (try dsimp only at hSw); go_simp <;> (try rfl)
  change wpAnyH _ _ _ _ _ _ _ (Act.put _ (some (14 : Nat)) (.bool true)) _
  simp only [Act.put, List.setIfInBounds_toArray, List.set_cons_zero, List.set_cons_succ]
  refine wpAnyH_take (i := 4) (v := (.agg q.toArray)) rfl (by kernel_rfl) (by kernel_rfl) (by kernel_rfl) (fun _ _ _ h => h) (yields_load_at (by kernel_rfl) 28 (.tmp 2) rfl (.pointer (some ⟨b2, 0, none⟩)) (by simp [Act.eval]) (.agg q.toArray) (fun W hW => hW.1.loadAt 28 _ Tryd.underlying28 rfl (by rw [HQl.out]; kernel_rfl))) (by assumption) ?_
  change wpAnyH _ _ _ _ _ _ _ (Act.put _ (some (15 : Nat)) (.agg q.toArray)) _
  simp only [Act.put, List.setIfInBounds_toArray, List.set_cons_zero, List.set_cons_succ]
  refine wpAnyH_take (i := 5) (v := (.pointer (some ⟨g, 0, none⟩))) rfl (by kernel_rfl) (by kernel_rfl) (by kernel_rfl) (fun _ _ _ h => h) (Or.inl ⟨by kernel_rfl, fun w hSw => ?_⟩) (by assumption) ?_
  · (try dsimp only at hSw); go_simp <;> (try rfl)
  change wpAnyH _ _ _ _ _ _ _ (Act.put _ (some (16 : Nat)) (.pointer (some ⟨g, 0, none⟩))) _
  simp only [Act.put, List.setIfInBounds_toArray, List.set_cons_zero, List.set_cons_succ]
  refine wpAnyH_ready (rs := [6]) (by kernel_rfl) (by simp) ?_
  refine AllReadyH.cons rfl (fun K hK => ?_) AllReadyH.nil
  go_simp
  refine (HKey13.out _ (HT.out.through HX0.out).drew_ (TS.drew_ HS0.out)).mono ?_
  rintro e wa ⟨rfl, hts, hkf⟩; have HSwa := Lib.hid hts; have H2wa := Lib.hid (hkf.blk H20.out.drew hn2); have H3wa := Lib.hid (hkf.blk H30.out.drew hn3); have HXwa := Lib.hid (HX0.out.drew.trans (hkf.1.mono hwg)); clear hts hkf
  go_wp2_with fail
  refine hK.out _ _ ⟨H2wa.out, H3wa.out⟩ (fun hHeld1 => ?_)
  clear hHeld hK K
  have hHeld := hHeld1
  clear hHeld1
  refine wpAnyH_take (i := 7) (v := (.bool true)) rfl (by kernel_rfl) (by kernel_rfl) (by kernel_rfl) (fun _ _ _ h => h) (Or.inl ⟨by kernel_rfl, fun w hSw => ?_⟩) (by assumption) ?_
  · (try dsimp only at hSw); go_simp <;> (try rfl)
  change wpAnyH _ _ _ _ _ _ _ (Act.put _ (some (18 : Nat)) (.bool true)) _
  simp only [Act.put, List.setIfInBounds_toArray, List.set_cons_zero, List.set_cons_succ]
  refine wpAnyH_take (i := 8) (v := (.bool true)) rfl (by kernel_rfl) (by kernel_rfl) (by kernel_rfl) (fun _ _ _ h => h) (Or.inl ⟨by kernel_rfl, fun w hSw => ?_⟩) (by assumption) ?_
  · (try dsimp only at hSw); go_simp <;> (try rfl)
  change wpAnyH _ _ _ _ _ _ _ (Act.put _ (some (19 : Nat)) (.bool true)) _
  simp only [Act.put, List.setIfInBounds_toArray, List.set_cons_zero, List.set_cons_succ]
  refine wpAnyH_take (i := 9) (v := (.bool true)) rfl (by kernel_rfl) (by kernel_rfl) (by kernel_rfl) (fun _ _ _ h => h) (Or.inl ⟨by kernel_rfl, fun w hSw => ?_⟩) (by assumption) ?_
  · (try dsimp only at hSw); go_simp <;> (try rfl)
  change wpAnyH _ _ _ _ _ _ _ (Act.put _ (some (20 : Nat)) (.bool true)) _
  simp only [Act.put, List.setIfInBounds_toArray, List.set_cons_zero, List.set_cons_succ]
  refine wpAnyH_take (i := 10) (v := (.pointer (some ⟨g, 0, none⟩))) rfl (by kernel_rfl) (by kernel_rfl) (by kernel_rfl) (fun _ _ _ h => h) (Or.inl ⟨by kernel_rfl, fun w hSw => ?_⟩) (by assumption) ?_
  · (try dsimp only at hSw); go_simp <;> (try rfl)
  change wpAnyH _ _ _ _ _ _ _ (Act.put _ (some (21 : Nat)) (.pointer (some ⟨g, 0, none⟩))) _
  simp only [Act.put, List.setIfInBounds_toArray, List.set_cons_zero, List.set_cons_succ]
  refine wpAnyH_take (i := 12) (v := (.pointer (some ⟨g, 0, none⟩))) rfl (by kernel_rfl) (by kernel_rfl) (by kernel_rfl) (fun _ _ _ h => h) (Or.inl ⟨by kernel_rfl, fun w hSw => ?_⟩) (by assumption) ?_
  · (try dsimp only at hSw); go_simp <;> (try rfl)
  change wpAnyH _ _ _ _ _ _ _ (Act.put _ (some (23 : Nat)) (.pointer (some ⟨g, 0, none⟩))) _
  simp only [Act.put, List.setIfInBounds_toArray, List.set_cons_zero, List.set_cons_succ]
  refine wpAnyH_ready (rs := [11]) (by kernel_rfl) (by simp) ?_
  refine AllReadyH.cons rfl (fun K hK => ?_) AllReadyH.nil
  go_simp
  refine (HD1.out _ (HT.out.through HXwa.out)).mono ?_
  rintro e wb ⟨rfl, hb⟩; have HSwb := Lib.hid (HSwa.out.through hb); have H2wb := Lib.hid (H2wa.out.through hb); have H3wb := Lib.hid (H3wa.out.through hb); have HXwb := Lib.hid (HXwa.out.trans (hb.mono HXwa.out.size)); clear hb
  go_wp2_with fail
  refine hK.out _ _ ⟨H2wb.out, H3wb.out⟩ (fun hHeld1 => ?_)
  clear hHeld hK K
  have hHeld := hHeld1
  clear hHeld1
  refine wpAnyH_ready (rs := [13]) (by kernel_rfl) (by simp) ?_
  refine AllReadyH.cons rfl (fun K hK => ?_) AllReadyH.nil
  go_simp
  refine (HD2.out _ (HT.out.through HXwb.out)).mono ?_
  rintro e wc ⟨rfl, hb⟩; have HSwc := Lib.hid (HSwb.out.through hb); have H2wc := Lib.hid (H2wb.out.through hb); have H3wc := Lib.hid (H3wb.out.through hb); have HXwc := Lib.hid (HXwb.out.trans (hb.mono HXwb.out.size)); clear hb
  go_wp2_with fail
  refine hK.out _ _ ⟨H2wc.out, H3wc.out⟩ (fun hHeld1 => ?_)
  clear hHeld hK K
  have hHeld := hHeld1
  clear hHeld1
  refine wpAnyH_take (i := 14) (v := (.bool true)) rfl (by kernel_rfl) (by kernel_rfl) (by kernel_rfl) (fun _ _ _ h => h) (Or.inl ⟨by kernel_rfl, fun w hSw => ?_⟩) (by assumption) ?_
  · (try dsimp only at hSw); go_simp <;> (try rfl)
  change wpAnyH _ _ _ _ _ _ _ (Act.put _ (some (25 : Nat)) (.bool true)) _
  simp only [Act.put, List.setIfInBounds_toArray, List.set_cons_zero, List.set_cons_succ]
  refine wpAnyH_take (i := 15) (v := (.bool true)) rfl (by kernel_rfl) (by kernel_rfl) (by kernel_rfl) (fun _ _ _ h => h) (Or.inl ⟨by kernel_rfl, fun w hSw => ?_⟩) (by assumption) ?_
  · (try dsimp only at hSw); go_simp <;> (try rfl)
  change wpAnyH _ _ _ _ _ _ _ (Act.put _ (some (26 : Nat)) (.bool true)) _
  simp only [Act.put, List.setIfInBounds_toArray, List.set_cons_zero, List.set_cons_succ]
  refine wpAnyH_take (i := 16) (v := (.bool true)) rfl (by kernel_rfl) (by kernel_rfl) (by kernel_rfl) (fun _ _ _ h => h) (Or.inl ⟨by kernel_rfl, fun w hSw => ?_⟩) (by assumption) ?_
  · (try dsimp only at hSw); go_simp <;> (try rfl)
  change wpAnyH _ _ _ _ _ _ _ (Act.put _ (some (27 : Nat)) (.bool true)) _
  simp only [Act.put, List.setIfInBounds_toArray, List.set_cons_zero, List.set_cons_succ]
  refine wpAnyH_take (i := 17) (v := (.pointer (some ⟨g, 0, none⟩))) rfl (by kernel_rfl) (by kernel_rfl) (by kernel_rfl) (fun _ _ _ h => h) (Or.inl ⟨by kernel_rfl, fun w hSw => ?_⟩) (by assumption) ?_
  · (try dsimp only at hSw); go_simp <;> (try rfl)
  change wpAnyH _ _ _ _ _ _ _ (Act.put _ (some (28 : Nat)) (.pointer (some ⟨g, 0, none⟩))) _
  simp only [Act.put, List.setIfInBounds_toArray, List.set_cons_zero, List.set_cons_succ]
  refine wpAnyH_take (i := 18) (v := (.pointer (some ⟨g, 0, none⟩))) rfl (by kernel_rfl) (by kernel_rfl) (by kernel_rfl) (fun _ _ _ h => h) (Or.inl ⟨by kernel_rfl, fun w hSw => ?_⟩) (by assumption) ?_
  · (try dsimp only at hSw); go_simp <;> (try rfl)
  change wpAnyH _ _ _ _ _ _ _ (Act.put _ (some (29 : Nat)) (.pointer (some ⟨g, 0, none⟩))) _
  simp only [Act.put, List.setIfInBounds_toArray, List.set_cons_zero, List.set_cons_succ]
  refine wpAnyH_ready (rs := [19]) (by kernel_rfl) (by simp) ?_
  refine AllReadyH.cons rfl (fun K hK => ?_) AllReadyH.nil
  go_simp
  refine (HTag.out _ HSwc.out (HT.out.through HXwc.out)).mono ?_
  rintro e wd ⟨rfl, hts, hkf⟩; have HSwd := Lib.hid hts; have H2wd := Lib.hid (hkf.blk H2wc.out hn2); have H3wd := Lib.hid (hkf.blk H3wc.out hn3); have HXwd := Lib.hid (HXwc.out.trans (hkf.1.mono hwg)); clear hts hkf
  go_wp2_with fail
  refine hK.out _ _ ⟨H2wd.out, H3wd.out⟩ (fun hHeld1 => ?_)
  clear hHeld hK K
  have hHeld := hHeld1
  clear hHeld1
  refine wpAnyH_ready (rs := [20]) (by kernel_rfl) (by simp) ?_
  refine AllReadyH.cons rfl (fun K hK => ?_) AllReadyH.nil
  go_simp
  refine (HCk.out _ HSwd.out (HT.out.through HXwd.out)).mono ?_
  rintro e we ⟨rfl, hts, hkf⟩; have HSwe := Lib.hid hts; have H2we := Lib.hid (hkf.blk H2wd.out hn2); have H3we := Lib.hid (hkf.blk H3wd.out hn3); have HXwe := Lib.hid (HXwd.out.trans (hkf.1.mono hwg)); clear hts hkf
  go_wp2_with fail
  refine hK.out _ _ ⟨H2we.out, H3we.out⟩ (fun hHeld1 => ?_)
  clear hHeld hK K
  have hHeld := hHeld1
  clear hHeld1
  refine wpAnyH_take (i := 21) (v := (.bool true)) rfl (by kernel_rfl) (by kernel_rfl) (by kernel_rfl) (fun _ _ _ h => h) (Or.inl ⟨by kernel_rfl, fun w hSw => ?_⟩) (by assumption) ?_
  · (try dsimp only at hSw); go_simp <;> (try rfl)
  change wpAnyH _ _ _ _ _ _ _ (Act.put _ (some (32 : Nat)) (.bool true)) _
  simp only [Act.put, List.setIfInBounds_toArray, List.set_cons_zero, List.set_cons_succ]
  refine wpAnyH_take (i := 22) (v := (.bool true)) rfl (by kernel_rfl) (by kernel_rfl) (by kernel_rfl) (fun _ _ _ h => h) (Or.inl ⟨by kernel_rfl, fun w hSw => ?_⟩) (by assumption) ?_
  · (try dsimp only at hSw); go_simp <;> (try rfl)
  change wpAnyH _ _ _ _ _ _ _ (Act.put _ (some (0 : Nat)) (.bool true)) _
  simp only [Act.put, List.setIfInBounds_toArray, List.set_cons_zero, List.set_cons_succ]
  refine wpAnyH_done (by kernel_rfl) ?_ _
  go_wp2
  go_ret
  exact ⟨rfl, HXwe.out⟩

end Go.Proofs.YtolildehdibpbaaDoor
