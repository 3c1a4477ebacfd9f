/-
  Joined: KFix, RKeys.
-/
import Derived.Test.YtolildehdibpbaaDoorLF
import Derived.Test.YtolildehdibpbaaDoorLE
namespace Go.Proofs.YtolildehdibpbaaDoor
open Go.RowKit

def seed4 : List UInt8 := [115, 101, 101, 100]
theorem key_12_13 : keyAB seed4 1 2 ≠ keyAB seed4 1 3 := by decide +kernel
theorem dig_1_2 : digK 1 [] ≠ digK 2 [] := by decide +kernel
theorem arr_neq {t : TypeId} {A B : Array Value} {b : Bool} (h : ∀ w, (binOp .eql t (.agg A) (.agg B)).run Tryd.prog w = .ok (.bool b) w) (w : World) : (binOp .neq t (.agg A) (.agg B)).run Tryd.prog w = .ok (.bool (!b)) w := by
  have h := h w
  rw [run_eql_struct] at h
  rw [run_neq_struct]
  cases hq : (Op.equalIn 10000 t (.agg A) (.agg B)).run Tryd.prog w with
  | ok c w' =>
    rw [hq] at h
    simp at h
    obtain ⟨h1, h2⟩ := h
    subst h2
    simp [h1]
  | _ => rw [hq] at h; simp [Result.andThen] at h
theorem dig_eql2 (xs ys : List UInt8) (hx : xs.length = 32) (hy : ys.length = 32) (w : World) : (binOp .eql 25 (.agg (vs xs).toArray) (.agg (vs ys).toArray)).run Tryd.prog w = .ok (.bool (xs == ys)) w :=
  run_eql_bytes w 25 5 32 Tryd.underlying25 Tryd.underlying5 (by kernel_rfl) (by kernel_rfl) xs ys hx hy
theorem digK_length (k : Int) (t : List UInt8) : (digK k t).length = 32 := sha_length _
theorem TS.drew_ {w : World} {g : Nat} {seed : List UInt8} (h : TS w g seed) : TS w.drew g seed := h

theorem kfix_1 {w w3 w4 : World} {g : Nat} (hx : Below w.heap.size w w3) (hs : TS w3 g seed4) (ho : ((w3.alloc (.cells (vs zero32).toArray 28)).alloc (.cells (vs zero32).toArray 28)).grownBy w4 (some w3.heap.size)) :
    Hid (Below w.heap.size w w4) ∧ Hid (TS w4 g seed4) ∧ Hid (Blk w4 (w3.heap.size + 1) 28 (vs zero32)) := by
  have hx2 : Below w3.heap.size w3 w4 := (((Below.refl _ w3).alloc (Nat.le_refl _) _).alloc (by simp) _).grown ho (by simp only [World.size_alloc]; omega) (fun k hk => Option.some.inj hk ▸ Nat.le_refl _)
  exact ⟨Lib.hid (hx.trans (hx2.mono hx.size)), Lib.hid (hs.through hx2), Lib.hid ((Blk.fresh (by simp) rfl).grown ho (by simp))⟩

set_option maxHeartbeats 16000000 in
set_option maxRecDepth 100000 in
theorem kfixed_any (w : World) (ht : Tab w) :
    Calls Tryd.prog 17 #[] w fun e w' => e = .returned (.bool true) ∧ Below w.heap.size w w' := by
  have HT := Lib.hid ht
  have hgl0 := ht.lt.1
  have hgl1 := ht.lt.2
  have kc := fun (w : World) (C : Array Value) (n c : Nat) => Lib.run_convert_bytes_const (P := Tryd.prog) w 22 5 C n c Tryd.underlying22 Tryd.underlying5
  obtain ⟨q, hq⟩ : ∃ q, q = vs (keyAB seed4 1 2) := ⟨_, rfl⟩
  have hql : q.length = 32 := by rw [hq, vs_length, keyAB_length]
  have hqo : q.toArray.all (·.oneCell') = true := by rw [hq]; exact one_u8
  obtain ⟨q3, hq3⟩ : ∃ q3, q3 = vs (keyAB seed4 1 3) := ⟨_, rfl⟩
  obtain ⟨d1, hd1⟩ : ∃ d1, d1 = vs (digK 1 []) := ⟨_, rfl⟩
  obtain ⟨d2, hd2⟩ : ∃ d2, d2 = vs (digK 2 []) := ⟨_, rfl⟩
  obtain ⟨tq, htq⟩ : ∃ tq, tq = vs (tagAB seed4 1 2 []) := ⟨_, rfl⟩
  have heql : ∀ W, (binOp .eql 28 (.agg q.toArray) (.agg q.toArray)).run Tryd.prog W = .ok (.bool true) W := fun W => by
    rw [hq, tag_eql _ _ (keyAB_length _ _ _) (keyAB_length _ _ _), beq_self_eq_true]
  have hneq : ∀ W, (binOp .neq 28 (.agg q.toArray) (.agg q3.toArray)).run Tryd.prog W = .ok (.bool true) W := fun W => by
    have h := arr_neq (t := 28) (A := (vs (keyAB seed4 1 2)).toArray) (B := (vs (keyAB seed4 1 3)).toArray) (b := false) (fun w => by rw [tag_eql _ _ (keyAB_length _ _ _) (keyAB_length _ _ _), beq_eq_false_iff_ne.2 key_12_13]) W
    rw [hq, hq3]; exact h
  have hneqd : ∀ W, (binOp .neq 25 (.agg d1.toArray) (.agg d2.toArray)).run Tryd.prog W = .ok (.bool true) W := fun W => by
    have h := arr_neq (t := 25) (A := (vs (digK 1 [])).toArray) (B := (vs (digK 2 [])).toArray) (b := false) (fun w => by rw [dig_eql2 _ _ (digK_length _ _) (digK_length _ _), beq_eq_false_iff_ne.2 dig_1_2]) W
    rw [hd1, hd2]; exact h
  have hnew : ∀ W A, By W (fun _ => True) A 4 seed4 → Calls Tryd.prog 18 #[.slice A 4 4] W fun e w' => ∃ g, e = .returned (.pointer (some ⟨g, 0, none⟩)) ∧ TS w' g seed4 ∧ W.heap.size ≤ g ∧ Below W.heap.size W w' := fun W A h => knew_any _ seed4 A 4 4 W h (by omega)
  have hk12 : ∀ W g, Tab W → TS W g seed4 → Calls Tryd.prog 19 #[.pointer (some ⟨g, 0, none⟩), .int .i64 1, .int .i64 2] W fun e w' => e = .returned (.agg q.toArray) ∧ TS w' g seed4 ∧ KF g W w' := fun W g h1 h2 => by rw [hq]; exact key_tab g seed4 1 2 W h1 h2 (by decide)
  have hk21 : ∀ W g, Tab W → TS W g seed4 → Calls Tryd.prog 19 #[.pointer (some ⟨g, 0, none⟩), .int .i64 2, .int .i64 1] W fun e w' => e = .returned (.agg q.toArray) ∧ TS w' g seed4 ∧ KF g W w' := fun W g h1 h2 => by rw [hq, keyAB_comm]; exact key_tab g seed4 2 1 W h1 h2 (by decide)
  have hk13 : ∀ W g, Tab W → TS W g seed4 → Calls Tryd.prog 19 #[.pointer (some ⟨g, 0, none⟩), .int .i64 1, .int .i64 3] W fun e w' => e = .returned (.agg q3.toArray) ∧ TS w' g seed4 ∧ KF g W w' := fun W g h1 h2 => by rw [hq3]; exact key_tab g seed4 1 3 W h1 h2 (by decide)
  have hdg1 : ∀ W g, Tab W → Calls Tryd.prog 36 #[.pointer (some ⟨g, 0, none⟩), .int .i64 1, .slice none 0 0] W fun e w' => e = .returned (.agg d1.toArray) ∧ Below W.heap.size W w' := fun W g h => by rw [hd1]; exact digest_any (fun _ => True) _ 1 [] none 0 0 W By.none_ h (by omega)
  have hdg2 : ∀ W g, Tab W → Calls Tryd.prog 36 #[.pointer (some ⟨g, 0, none⟩), .int .i64 2, .slice none 0 0] W fun e w' => e = .returned (.agg d2.toArray) ∧ Below W.heap.size W w' := fun W g h => by rw [hd2]; exact digest_any (fun _ => True) _ 2 [] none 0 0 W By.none_ h (by omega)
  have htg : ∀ W g, w.heap.size ≤ g → TS W g seed4 → Tab W → Calls Tryd.prog 23 #[.pointer (some ⟨g, 0, none⟩), .int .i64 1, .int .i64 2, .slice none 0 0] W fun e w' => e = .returned (.agg tq.toArray) ∧ TS w' g seed4 ∧ KF g W w' := fun W g h0 h1 h2 => by rw [htq]; exact tag_tab g seed4 1 2 [] none 0 0 W h1 (by decide) (Nat.lt_of_lt_of_le hgl0 h0) (Nat.lt_of_lt_of_le hgl1 h0) By.none_ h2 (by omega)
  have hck : ∀ W g, w.heap.size ≤ g → TS W g seed4 → Tab W → Calls Tryd.prog 24 #[.pointer (some ⟨g, 0, none⟩), .int .i64 1, .int .i64 2, .slice none 0 0, .agg tq.toArray] W fun e w' => e = .returned (.bool true) ∧ TS w' g seed4 ∧ KF g W w' := fun W g h0 h1 h2 => by
    have h := kcheck_tab g seed4 1 2 [] (tagAB seed4 1 2 []) (tagAB_length _ _ _ _) none 0 0 W h1 (by decide) (Nat.lt_of_lt_of_le hgl0 h0) (Nat.lt_of_lt_of_le hgl1 h0) By.none_ h2 (by omega)
    rw [beq_self_eq_true] at h
    rw [htq]; exact h
  have HNew := Lib.hid hnew
  have HK12 := Lib.hid hk12
  have HK21 := Lib.hid hk21
  have HK13' := Lib.hid hk13
  have HDg1 := Lib.hid hdg1
  have HDg2 := Lib.hid hdg2
  have HTg := Lib.hid htg
  have HCk' := Lib.hid hck
  have HQl := Lib.hid hql
  have HQo := Lib.hid hqo
  clear ht hgl0 hgl1 hq hql hqo hq3 hd1 hd2 htq hnew hk12 hk21 hk13 hdg1 hdg2 htg hck
  go_enter Tryd.func17, Tryd.ntmps17
  go_wp2_with (first
    | (go_at_call 18; refine (HNew.out _ (some ⟨w.heap.size, 0, none⟩) (by exact By.fresh seed4 (by kernel_rfl))).mono ?_; rintro e w1 ⟨g, rfl, hts1, hg1, hb1⟩; have HS1 := Lib.hid hts1; have HX1 : Hid (Below w.heap.size w w1) := Lib.hid (((Below.refl _ w).alloc (Nat.le_refl _) _).trans (hb1.mono (by simp))); have hwg : w.heap.size ≤ g := Nat.le_trans (by simp) hg1; clear hts1 hb1 hg1)
    | (go_at_call 19; (with_reducible refine (HK12.out _ g (HT.out.through HX1.out) HS1.out).mono ?_); rintro e w2 ⟨rfl, hts2, hkf2⟩; have HS2 := Lib.hid hts2; have HX2 := Lib.hid (HX1.out.trans (hkf2.1.mono hwg)); clear hts2 hkf2)
    | (go_at_call 19; (with_reducible refine (HK21.out _ g (HT.out.through HX2.out) HS2.out).mono ?_); rintro e w3 ⟨rfl, hts3, hkf3⟩; have HS3 := Lib.hid hts3; have HX3 := Lib.hid (HX2.out.trans (hkf3.1.mono hwg)); have hgs3 := hts3.lt; clear hts3 hkf3)
    | (refine wpList_store_blk rfl 28 (.tmp 2) (.tmp 8) rfl w3.heap.size q rfl rfl 28 (vs zero32) ((Blk.fresh rfl (by kernel_rfl)).alloc _) (by rw [HQl.out]; kernel_rfl) (by rw [HQl.out]; rfl) HQo.out ?_; intro w4 hb4 ho4; obtain ⟨HX4, HS4, H34⟩ := kfix_1 HX3.out HS3.out ho4; have H24 := Lib.hid hb4; clear hb4 ho4)
    | (refine wpList_store_blk rfl 28 (.tmp 3) (.tmp 10) rfl (w3.heap.size + 1) q rfl rfl 28 (vs zero32) H34.out (by rw [HQl.out]; kernel_rfl) (by rw [HQl.out]; rfl) HQo.out ?_; intro w5 hb5 ho5; have H20' := Lib.hid (H24.out.grown ho5 (by simp)); have H30' := Lib.hid hb5; have HX0 := Lib.hid (HX4.out.grown ho5 HX4.out.size (fun k hk => Option.some.inj hk ▸ Nat.le_succ_of_le HX3.out.size)); have HS0 := Lib.hid (HS4.out.grown H34.out ho5 (Nat.lt_succ_of_lt hgs3)); clear hb5 ho5))
  obtain ⟨b3, hb3⟩ : ∃ b3, b3 = w3.heap.size + 1 := ⟨_, rfl⟩
  rw [← hb3] at H30'
  rw [← hb3]
  obtain ⟨b2, hb2⟩ : ∃ b2, b2 = w3.heap.size := ⟨_, rfl⟩
  rw [← hb2] at H20'
  have hn2 : b2 ≠ g := by rw [hb2]; exact Nat.ne_of_gt hgs3
  have hn3 : b3 ≠ g := by rw [hb3]; exact Nat.ne_of_gt (Nat.lt_succ_of_lt hgs3)
  rw [← hb2]
  have H20 := H20'
  have H30 := H30'
  have HKey13 := Lib.hid (fun W h1 h2 => HK13'.out W g h1 h2)
  have HD1 := Lib.hid (fun W h => HDg1.out W g h)
  have HD2 := Lib.hid (fun W h => HDg2.out W g h)
  have HTag := Lib.hid (fun W h1 h2 => HTg.out W g hwg h1 h2)
  have HCk := Lib.hid (fun W h1 h2 => HCk'.out W g hwg h1 h2)
  clear hb2 hb3 hgs3 H20' H30'
  try dsimp only [Act.put]
  refine wp_region_held_drew (S := fun W => Blk W b2 28 q ∧ Blk W b3 28 q) (by kernel_rfl) ⟨H20.out.drew, H30.out.drew⟩ (fun hHeld => ?_)
  change wpAnyH _ _ _ _ _ _ #[false, false, false, false, false, false, false, false, false, false, false, false, false, false, false, false, false, false, false, false, false, false, false] _ _
  refine wpAnyH_take (i := 0) (v := (.agg q.toArray)) rfl (by kernel_rfl) (by kernel_rfl) (by kernel_rfl) (fun _ _ _ h => h) (yields_load_at (by kernel_rfl) 28 (.tmp 2) rfl (.pointer (some ⟨b2, 0, none⟩)) (by simp [Act.eval]) (.agg q.toArray) (fun W hW => hW.1.loadAt 28 _ Tryd.underlying28 rfl (by rw [HQl.out]; kernel_rfl))) (by assumption) ?_
  change wpAnyH _ _ _ _ _ _ _ (Act.put _ (some (11 : Nat)) (.agg q.toArray)) _
  simp only [Act.put, List.setIfInBounds_toArray, List.set_cons_zero, List.set_cons_succ]
  refine wpAnyH_take (i := 1) (v := (.agg q.toArray)) rfl (by kernel_rfl) (by kernel_rfl) (by kernel_rfl) (fun _ _ _ h => h) (yields_load_at (by kernel_rfl) 28 (.tmp 3) rfl (.pointer (some ⟨b3, 0, none⟩)) (by simp [Act.eval]) (.agg q.toArray) (fun W hW => hW.2.loadAt 28 _ Tryd.underlying28 rfl (by rw [HQl.out]; kernel_rfl))) (by assumption) ?_
  change wpAnyH _ _ _ _ _ _ _ (Act.put _ (some (12 : Nat)) (.agg q.toArray)) _
  simp only [Act.put, List.setIfInBounds_toArray, List.set_cons_zero, List.set_cons_succ]
  refine wpAnyH_take (i := 2) (v := (.bool true)) rfl (by kernel_rfl) (by kernel_rfl) (by kernel_rfl) (fun _ _ _ h => h) (Or.inl ⟨by kernel_rfl, fun w hSw => ?_⟩) (by assumption) ?_
  · (try dsimp only at hSw); go_simp <;> (try rfl)
  change wpAnyH _ _ _ _ _ _ _ (Act.put _ (some (13 : Nat)) (.bool true)) _
  simp only [Act.put, List.setIfInBounds_toArray, List.set_cons_zero, List.set_cons_succ]
  refine wpAnyH_take (i := 3) (v := (.bool true)) rfl (by kernel_rfl) (by kernel_rfl) (by kernel_rfl) (fun _ _ _ h => h) (Or.inl ⟨by kernel_rfl, fun w hSw => ?_⟩) (by assumption) ?_
  · (try dsimp only at hSw); go_simp <;> (try rfl)
  change wpAnyH _ _ _ _ _ _ _ (Act.put _ (some (14 : Nat)) (.bool true)) _
  simp only [Act.put, List.setIfInBounds_toArray, List.set_cons_zero, List.set_cons_succ]
  refine wpAnyH_take (i := 4) (v := (.agg q.toArray)) rfl (by kernel_rfl) (by kernel_rfl) (by kernel_rfl) (fun _ _ _ h => h) (yields_load_at (by kernel_rfl) 28 (.tmp 2) rfl (.pointer (some ⟨b2, 0, none⟩)) (by simp [Act.eval]) (.agg q.toArray) (fun W hW => hW.1.loadAt 28 _ Tryd.underlying28 rfl (by rw [HQl.out]; kernel_rfl))) (by assumption) ?_
  change wpAnyH _ _ _ _ _ _ _ (Act.put _ (some (15 : Nat)) (.agg q.toArray)) _
  simp only [Act.put, List.setIfInBounds_toArray, List.set_cons_zero, List.set_cons_succ]
  refine wpAnyH_take (i := 5) (v := (.pointer (some ⟨g, 0, none⟩))) rfl (by kernel_rfl) (by kernel_rfl) (by kernel_rfl) (fun _ _ _ h => h) (Or.inl ⟨by kernel_rfl, fun w hSw => ?_⟩) (by assumption) ?_
  · (try dsimp only at hSw); go_simp <;> (try rfl)
  change wpAnyH _ _ _ _ _ _ _ (Act.put _ (some (16 : Nat)) (.pointer (some ⟨g, 0, none⟩))) _
  simp only [Act.put, List.setIfInBounds_toArray, List.set_cons_zero, List.set_cons_succ]
  refine wpAnyH_ready (rs := [6]) (by kernel_rfl) (by simp) ?_
  refine AllReadyH.cons rfl (fun K hK => ?_) AllReadyH.nil
  go_simp
  refine (HKey13.out _ (HT.out.through HX0.out).drew_ (TS.drew_ HS0.out)).mono ?_
  rintro e wa ⟨rfl, hts, hkf⟩; have HSwa := Lib.hid hts; have H2wa := Lib.hid (hkf.blk H20.out.drew hn2); have H3wa := Lib.hid (hkf.blk H30.out.drew hn3); have HXwa := Lib.hid (HX0.out.drew.trans (hkf.1.mono hwg)); clear hts hkf
  go_wp2_with fail
  refine hK.out _ _ ⟨H2wa.out, H3wa.out⟩ (fun hHeld1 => ?_)
  clear hHeld hK K
  have hHeld := hHeld1
  clear hHeld1
  refine wpAnyH_take (i := 7) (v := (.bool true)) rfl (by kernel_rfl) (by kernel_rfl) (by kernel_rfl) (fun _ _ _ h => h) (Or.inl ⟨by kernel_rfl, fun w hSw => ?_⟩) (by assumption) ?_
  · (try dsimp only at hSw); go_simp <;> (try rfl)
  change wpAnyH _ _ _ _ _ _ _ (Act.put _ (some (18 : Nat)) (.bool true)) _
  simp only [Act.put, List.setIfInBounds_toArray, List.set_cons_zero, List.set_cons_succ]
  refine wpAnyH_take (i := 8) (v := (.bool true)) rfl (by kernel_rfl) (by kernel_rfl) (by kernel_rfl) (fun _ _ _ h => h) (Or.inl ⟨by kernel_rfl, fun w hSw => ?_⟩) (by assumption) ?_
  · (try dsimp only at hSw); go_simp <;> (try rfl)
  change wpAnyH _ _ _ _ _ _ _ (Act.put _ (some (19 : Nat)) (.bool true)) _
  simp only [Act.put, List.setIfInBounds_toArray, List.set_cons_zero, List.set_cons_succ]
  refine wpAnyH_take (i := 9) (v := (.bool true)) rfl (by kernel_rfl) (by kernel_rfl) (by kernel_rfl) (fun _ _ _ h => h) (Or.inl ⟨by kernel_rfl, fun w hSw => ?_⟩) (by assumption) ?_
  · (try dsimp only at hSw); go_simp <;> (try rfl)
  change wpAnyH _ _ _ _ _ _ _ (Act.put _ (some (20 : Nat)) (.bool true)) _
  simp only [Act.put, List.setIfInBounds_toArray, List.set_cons_zero, List.set_cons_succ]
  refine wpAnyH_take (i := 10) (v := (.pointer (some ⟨g, 0, none⟩))) rfl (by kernel_rfl) (by kernel_rfl) (by kernel_rfl) (fun _ _ _ h => h) (Or.inl ⟨by kernel_rfl, fun w hSw => ?_⟩) (by assumption) ?_
  · (try dsimp only at hSw); go_simp <;> (try rfl)
  change wpAnyH _ _ _ _ _ _ _ (Act.put _ (some (21 : Nat)) (.pointer (some ⟨g, 0, none⟩))) _
  simp only [Act.put, List.setIfInBounds_toArray, List.set_cons_zero, List.set_cons_succ]
  refine wpAnyH_take (i := 12) (v := (.pointer (some ⟨g, 0, none⟩))) rfl (by kernel_rfl) (by kernel_rfl) (by kernel_rfl) (fun _ _ _ h => h) (Or.inl ⟨by kernel_rfl, fun w hSw => ?_⟩) (by assumption) ?_
  · (try dsimp only at hSw); go_simp <;> (try rfl)
  change wpAnyH _ _ _ _ _ _ _ (Act.put _ (some (23 : Nat)) (.pointer (some ⟨g, 0, none⟩))) _
  simp only [Act.put, List.setIfInBounds_toArray, List.set_cons_zero, List.set_cons_succ]
  refine wpAnyH_ready (rs := [11]) (by kernel_rfl) (by simp) ?_
  refine AllReadyH.cons rfl (fun K hK => ?_) AllReadyH.nil
  go_simp
  refine (HD1.out _ (HT.out.through HXwa.out)).mono ?_
  rintro e wb ⟨rfl, hb⟩; have HSwb := Lib.hid (HSwa.out.through hb); have H2wb := Lib.hid (H2wa.out.through hb); have H3wb := Lib.hid (H3wa.out.through hb); have HXwb := Lib.hid (HXwa.out.trans (hb.mono HXwa.out.size)); clear hb
  go_wp2_with fail
  refine hK.out _ _ ⟨H2wb.out, H3wb.out⟩ (fun hHeld1 => ?_)
  clear hHeld hK K
  have hHeld := hHeld1
  clear hHeld1
  refine wpAnyH_ready (rs := [13]) (by kernel_rfl) (by simp) ?_
  refine AllReadyH.cons rfl (fun K hK => ?_) AllReadyH.nil
  go_simp
  refine (HD2.out _ (HT.out.through HXwb.out)).mono ?_
  rintro e wc ⟨rfl, hb⟩; have HSwc := Lib.hid (HSwb.out.through hb); have H2wc := Lib.hid (H2wb.out.through hb); have H3wc := Lib.hid (H3wb.out.through hb); have HXwc := Lib.hid (HXwb.out.trans (hb.mono HXwb.out.size)); clear hb
  go_wp2_with fail
  refine hK.out _ _ ⟨H2wc.out, H3wc.out⟩ (fun hHeld1 => ?_)
  clear hHeld hK K
  have hHeld := hHeld1
  clear hHeld1
  refine wpAnyH_take (i := 14) (v := (.bool true)) rfl (by kernel_rfl) (by kernel_rfl) (by kernel_rfl) (fun _ _ _ h => h) (Or.inl ⟨by kernel_rfl, fun w hSw => ?_⟩) (by assumption) ?_
  · (try dsimp only at hSw); go_simp <;> (try rfl)
  change wpAnyH _ _ _ _ _ _ _ (Act.put _ (some (25 : Nat)) (.bool true)) _
  simp only [Act.put, List.setIfInBounds_toArray, List.set_cons_zero, List.set_cons_succ]
  refine wpAnyH_take (i := 15) (v := (.bool true)) rfl (by kernel_rfl) (by kernel_rfl) (by kernel_rfl) (fun _ _ _ h => h) (Or.inl ⟨by kernel_rfl, fun w hSw => ?_⟩) (by assumption) ?_
  · (try dsimp only at hSw); go_simp <;> (try rfl)
  change wpAnyH _ _ _ _ _ _ _ (Act.put _ (some (26 : Nat)) (.bool true)) _
  simp only [Act.put, List.setIfInBounds_toArray, List.set_cons_zero, List.set_cons_succ]
  refine wpAnyH_take (i := 16) (v := (.bool true)) rfl (by kernel_rfl) (by kernel_rfl) (by kernel_rfl) (fun _ _ _ h => h) (Or.inl ⟨by kernel_rfl, fun w hSw => ?_⟩) (by assumption) ?_
  · (try dsimp only at hSw); go_simp <;> (try rfl)
  change wpAnyH _ _ _ _ _ _ _ (Act.put _ (some (27 : Nat)) (.bool true)) _
  simp only [Act.put, List.setIfInBounds_toArray, List.set_cons_zero, List.set_cons_succ]
  refine wpAnyH_take (i := 17) (v := (.pointer (some ⟨g, 0, none⟩))) rfl (by kernel_rfl) (by kernel_rfl) (by kernel_rfl) (fun _ _ _ h => h) (Or.inl ⟨by kernel_rfl, fun w hSw => ?_⟩) (by assumption) ?_
  · (try dsimp only at hSw); go_simp <;> (try rfl)
  change wpAnyH _ _ _ _ _ _ _ (Act.put _ (some (28 : Nat)) (.pointer (some ⟨g, 0, none⟩))) _
  simp only [Act.put, List.setIfInBounds_toArray, List.set_cons_zero, List.set_cons_succ]
  refine wpAnyH_take (i := 18) (v := (.pointer (some ⟨g, 0, none⟩))) rfl (by kernel_rfl) (by kernel_rfl) (by kernel_rfl) (fun _ _ _ h => h) (Or.inl ⟨by kernel_rfl, fun w hSw => ?_⟩) (by assumption) ?_
  · (try dsimp only at hSw); go_simp <;> (try rfl)
  change wpAnyH _ _ _ _ _ _ _ (Act.put _ (some (29 : Nat)) (.pointer (some ⟨g, 0, none⟩))) _
  simp only [Act.put, List.setIfInBounds_toArray, List.set_cons_zero, List.set_cons_succ]
  refine wpAnyH_ready (rs := [19]) (by kernel_rfl) (by simp) ?_
  refine AllReadyH.cons rfl (fun K hK => ?_) AllReadyH.nil
  go_simp
  refine (HTag.out _ HSwc.out (HT.out.through HXwc.out)).mono ?_
  rintro e wd ⟨rfl, hts, hkf⟩; have HSwd := Lib.hid hts; have H2wd := Lib.hid (hkf.blk H2wc.out hn2); have H3wd := Lib.hid (hkf.blk H3wc.out hn3); have HXwd := Lib.hid (HXwc.out.trans (hkf.1.mono hwg)); clear hts hkf
  go_wp2_with fail
  refine hK.out _ _ ⟨H2wd.out, H3wd.out⟩ (fun hHeld1 => ?_)
  clear hHeld hK K
  have hHeld := hHeld1
  clear hHeld1
  refine wpAnyH_ready (rs := [20]) (by kernel_rfl) (by simp) ?_
  refine AllReadyH.cons rfl (fun K hK => ?_) AllReadyH.nil
  go_simp
  refine (HCk.out _ HSwd.out (HT.out.through HXwd.out)).mono ?_
  rintro e we ⟨rfl, hts, hkf⟩; have HSwe := Lib.hid hts; have H2we := Lib.hid (hkf.blk H2wd.out hn2); have H3we := Lib.hid (hkf.blk H3wd.out hn3); have HXwe := Lib.hid (HXwd.out.trans (hkf.1.mono hwg)); clear hts hkf
  go_wp2_with fail
  refine hK.out _ _ ⟨H2we.out, H3we.out⟩ (fun hHeld1 => ?_)
  clear hHeld hK K
  have hHeld := hHeld1
  clear hHeld1
  refine wpAnyH_take (i := 21) (v := (.bool true)) rfl (by kernel_rfl) (by kernel_rfl) (by kernel_rfl) (fun _ _ _ h => h) (Or.inl ⟨by kernel_rfl, fun w hSw => ?_⟩) (by assumption) ?_
  · (try dsimp only at hSw); go_simp <;> (try rfl)
  change wpAnyH _ _ _ _ _ _ _ (Act.put _ (some (32 : Nat)) (.bool true)) _
  simp only [Act.put, List.setIfInBounds_toArray, List.set_cons_zero, List.set_cons_succ]
  refine wpAnyH_take (i := 22) (v := (.bool true)) rfl (by kernel_rfl) (by kernel_rfl) (by kernel_rfl) (fun _ _ _ h => h) (Or.inl ⟨by kernel_rfl, fun w hSw => ?_⟩) (by assumption) ?_
  · (try dsimp only at hSw); go_simp <;> (try rfl)
  change wpAnyH _ _ _ _ _ _ _ (Act.put _ (some (0 : Nat)) (.bool true)) _
  simp only [Act.put, List.setIfInBounds_toArray, List.set_cons_zero, List.set_cons_succ]
  refine wpAnyH_done (by kernel_rfl) ?_ _
  go_wp2
  go_ret
  exact ⟨rfl, HXwe.out⟩

set_option maxHeartbeats 2000000 in
set_option maxRecDepth 100000 in
theorem rtwo_any (a b : Int) (w : World) :
    Calls Tryd.prog 40 #[.int .i64 a, .int .i64 b] w fun e w' => ∃ A' c', e = .returned (.slice A' 4 c') ∧ w'.ownsRow w.heap.size 5 1 (.slice A' 4 c') 4 (vs (pair (a16 a) (a16 b))) ∧ 4 ≤ c' ∧ c' ≤ maxLen ∧ Below w.heap.size w w' := by
  have hwa : IntKind.u64.wrap a = a % 18446744073709551616 := IntKind.wrap_u64 a
  have hwb : IntKind.u64.wrap b = b % 18446744073709551616 := IntKind.wrap_u64 b
  go_enter Tryd.func40, Tryd.ntmps40
  go_wp2_with (first
    | (go_at_call 30; (with_reducible refine (rput2_any (fun _ => True) none 0 0 [] a _ By.none_ (by omega)).mono ?_); rintro e w1 ⟨A1, c1, rfl, ho1, hc1, _, hb1⟩; have HO1 := Lib.hid ho1; have HX1 := Lib.hid hb1; clear ho1 hb1)
    | (go_at_call 30; (with_reducible refine (rput2_any _ A1 _ c1 _ b _ (By.of_own HO1.out) (by omega)).mono ?_); rintro e w2 ⟨A2, c2, rfl, ho2, hc2, hm2, hb2⟩; have HX2 := Lib.hid (HX1.out.trans (hb2.mono HX1.out.size)); have HO2 := Lib.hid (own_weak ho2 HX1.out.size); clear ho2 hb2))
  go_ret
  exact ⟨A2, c2, rfl, HO2.out, hc2, hm2, HX2.out⟩

theorem u16_wrap' (a : Int) : IntKind.u16.wrap a = (a16 a : Int) := by
  simp only [IntKind.wrap, IntKind.bits, IntKind.signed]
  unfold a16
  simp
  omega

set_option maxHeartbeats 4000000 in
set_option maxRecDepth 100000 in
theorem rkey_le (Q : Nat → Prop) (seed : List UInt8) (a b : Int) (x y : Nat) (hwa : IntKind.u16.wrap a = (x : Int)) (hwb : IntKind.u16.wrap b = (y : Int)) (hx : x < 65536) (hy : y < 65536) (hlt : x ≤ y) (A : Option Addr) (n c : Nat) (w : World) (hby : By w Q A n seed) (hn : n ≤ 1000000) :
    Calls Tryd.prog 20 #[.slice A n c, .int .i64 a, .int .i64 b] w fun e w' => e = .returned (.agg (vs (keyB seed x y)).toArray) ∧ Below w.heap.size w w' := by
  have HBy := Lib.hid hby
  have hlt1 : (x : Int) ≤ (y : Int) := by omega
  have hlt2 : ¬ (y : Int) < (x : Int) := by omega
  have hlt3 : ¬ y < x := by omega
  obtain ⟨r, hr⟩ : ∃ r, r = vs (keyB seed x y) := ⟨_, rfl⟩
  have hrl : r.length = 32 := by rw [hr, vs_length, keyB_length]
  have hro : r.toArray.all (·.oneCell') = true := by rw [hr]; exact one_u8
  have htwo : ∀ W, Calls Tryd.prog 40 #[.int .i64 (x : Int), .int .i64 (y : Int)] W fun e w' => ∃ A' c', e = .returned (.slice A' 4 c') ∧ w'.ownsRow W.heap.size 5 1 (.slice A' 4 c') 4 (vs (pair x y)) ∧ 4 ≤ c' ∧ c' ≤ maxLen ∧ Below W.heap.size W w' := fun W => by
    have h := rtwo_any (x : Int) (y : Int) W
    rw [a16_nat x (by omega), a16_nat y (by omega)] at h
    exact h
  have hof : ∀ W A' c', By W Q A n seed → By W (fun _ => True) A' 4 (pair x y) → Calls Tryd.prog 14 #[.slice A n c, .slice A' 4 c'] W fun e w' => e = .returned (.agg r.toArray) ∧ Below W.heap.size W w' := fun W A' c' h1 h2 => by
    rw [hr]; exact rof_any Q _ seed (pair x y) A A' n c 4 c' W h1 h2 hn (by omega)
  have HTwo := Lib.hid htwo
  have HOf := Lib.hid hof
  have HRl := Lib.hid hrl
  have HRo := Lib.hid hro
  rw [← hr]
  clear hby hr hrl hro htwo hof
  go_enter Tryd.func20, Tryd.ntmps20
  go_wp2_with (first
    | (go_at_call 40; (with_reducible refine (HTwo.out _).mono ?_); rintro e w1 ⟨A1, c1, rfl, ho1, _, _, hb1⟩; have HX1 : Hid (Below w.heap.size w w1) := Lib.hid (((Below.refl _ w).alloc (Nat.le_refl _) _).trans (hb1.mono (by simp))); have HP1 := Lib.hid ((By.of_own ho1).weak (Q' := fun _ => True) fun _ _ => trivial); have HB1 : Hid (Blk w1 w.heap.size 28 (vs zero32)) := Lib.hid ((Blk.fresh rfl (by kernel_rfl)).through hb1); clear ho1 hb1)
    | (go_at_call 14; (with_reducible refine (HOf.out _ A1 c1 (HBy.out.through HX1.out) HP1.out).mono ?_); rintro e w2 ⟨rfl, hb2⟩; have HX2 := Lib.hid (HX1.out.trans (hb2.mono HX1.out.size)); have HB2 := Lib.hid (HB1.out.through hb2); clear hb2)
    | (refine wpList_store_row rfl 28 (.tmp 6) (.tmp 24) rfl w.heap.size r.toArray rfl rfl 28 (vs zero32).toArray HB2.out (by rw [List.size_toArray, HRl.out]; kernel_rfl) (by rw [List.size_toArray, List.size_toArray, HRl.out]; rfl) HRo.out ?_))
  refine bodyPost_ret (v := .agg r.toArray) (results_cell_row rfl _ _ w.heap.size 28 _ (0, 0) _ rfl (HB2.out.row _) Tryd.underlying28 rfl ?r1) rfl ⟨rfl, below_row HX2.out _ (Nat.le_refl _) _⟩
  rw [List.size_toArray, HRl.out]; kernel_rfl

set_option maxHeartbeats 4000000 in
set_option maxRecDepth 100000 in
theorem rkey_gt (Q : Nat → Prop) (seed : List UInt8) (a b : Int) (x y : Nat) (hwa : IntKind.u16.wrap a = (x : Int)) (hwb : IntKind.u16.wrap b = (y : Int)) (hx : x < 65536) (hy : y < 65536) (hlt : y < x) (A : Option Addr) (n c : Nat) (w : World) (hby : By w Q A n seed) (hn : n ≤ 1000000) :
    Calls Tryd.prog 20 #[.slice A n c, .int .i64 a, .int .i64 b] w fun e w' => e = .returned (.agg (vs (keyB seed y x)).toArray) ∧ Below w.heap.size w w' := by
  have HBy := Lib.hid hby
  have hlt1 : (y : Int) < (x : Int) := by omega
  obtain ⟨r, hr⟩ : ∃ r, r = vs (keyB seed y x) := ⟨_, rfl⟩
  have hrl : r.length = 32 := by rw [hr, vs_length, keyB_length]
  have hro : r.toArray.all (·.oneCell') = true := by rw [hr]; exact one_u8
  have htwo : ∀ W, Calls Tryd.prog 40 #[.int .i64 (y : Int), .int .i64 (x : Int)] W fun e w' => ∃ A' c', e = .returned (.slice A' 4 c') ∧ w'.ownsRow W.heap.size 5 1 (.slice A' 4 c') 4 (vs (pair y x)) ∧ 4 ≤ c' ∧ c' ≤ maxLen ∧ Below W.heap.size W w' := fun W => by
    have h := rtwo_any (y : Int) (x : Int) W
    rw [a16_nat y (by omega), a16_nat x (by omega)] at h
    exact h
  have hof : ∀ W A' c', By W Q A n seed → By W (fun _ => True) A' 4 (pair y x) → Calls Tryd.prog 14 #[.slice A n c, .slice A' 4 c'] W fun e w' => e = .returned (.agg r.toArray) ∧ Below W.heap.size W w' := fun W A' c' h1 h2 => by
    rw [hr]; exact rof_any Q _ seed (pair y x) A A' n c 4 c' W h1 h2 hn (by omega)
  have HTwo := Lib.hid htwo
  have HOf := Lib.hid hof
  have HRl := Lib.hid hrl
  have HRo := Lib.hid hro
  rw [← hr]
  clear hby hr hrl hro htwo hof
  go_enter Tryd.func20, Tryd.ntmps20
  go_wp2_with (first
    | (go_at_call 40; (with_reducible refine (HTwo.out _).mono ?_); rintro e w1 ⟨A1, c1, rfl, ho1, _, _, hb1⟩; have HX1 : Hid (Below w.heap.size w w1) := Lib.hid (((Below.refl _ w).alloc (Nat.le_refl _) _).trans (hb1.mono (by simp))); have HP1 := Lib.hid ((By.of_own ho1).weak (Q' := fun _ => True) fun _ _ => trivial); have HB1 : Hid (Blk w1 w.heap.size 28 (vs zero32)) := Lib.hid ((Blk.fresh rfl (by kernel_rfl)).through hb1); clear ho1 hb1)
    | (go_at_call 14; (with_reducible refine (HOf.out _ A1 c1 (HBy.out.through HX1.out) HP1.out).mono ?_); rintro e w2 ⟨rfl, hb2⟩; have HX2 := Lib.hid (HX1.out.trans (hb2.mono HX1.out.size)); have HB2 := Lib.hid (HB1.out.through hb2); clear hb2)
    | (refine wpList_store_row rfl 28 (.tmp 6) (.tmp 24) rfl w.heap.size r.toArray rfl rfl 28 (vs zero32).toArray HB2.out (by rw [List.size_toArray, HRl.out]; kernel_rfl) (by rw [List.size_toArray, List.size_toArray, HRl.out]; rfl) HRo.out ?_))
  refine bodyPost_ret (v := .agg r.toArray) (results_cell_row rfl _ _ w.heap.size 28 _ (0, 0) _ rfl (HB2.out.row _) Tryd.underlying28 rfl ?r1) rfl ⟨rfl, below_row HX2.out _ (Nat.le_refl _) _⟩
  rw [List.size_toArray, HRl.out]; kernel_rfl

/-- Bytes that stood ahead of a call stand behind an append onto a row that the call made. -/
theorem By.row_keep {wv w4 w5 : World} {A : Option Addr} {n : Nat} {xs : List UInt8} (h : By wv (fun _ => True) A n xs) (h4 : By w4 (fun _ => True) A n xs) (hx : Below wv.heap.size w4 w5) : By w5 (fun _ => True) A n xs :=
  ⟨h.1, fun hn => by
    obtain ⟨g, o, e, hg, _⟩ := h.lt.2 hn
    obtain ⟨g', o', e', _, hc⟩ := h4.2 hn
    have e2 := e.symm.trans e'
    injection e2 with e2
    injection e2 with e2 e3
    subst e2; subst e3
    exact ⟨g, o, e, trivial, fun j u hu => (World.cell?_of_block (a := ⟨g, o + j, none⟩) (hx.block g hg.2)).trans (hc j u hu)⟩⟩
theorem dig_new {w w2 : World} {o : Obj} (hg : ((w.alloc (.cells (vs zero32).toArray 25)).alloc o).grownBy w2 (Value.slice (some ⟨w.heap.size + 1, 0, none⟩) 1 1).ownBlock) :
    Hid (Below w.heap.size w w2) ∧ Hid (Blk w2 w.heap.size 25 (vs zero32)) :=
  ⟨Lib.hid ((((Below.refl _ w).alloc (Nat.le_refl _) _).alloc (by simp) _).grown hg (by simp only [World.size_alloc]; omega) (fun k hk => by have := Option.some.inj hk; simp at this; omega)),
   Lib.hid (((Blk.fresh rfl rfl).alloc _).grown hg (fun e => by have := Option.some.inj e; simp at this))⟩

theorem rkey_any (Q : Nat → Prop) (seed : List UInt8) (a b : Int) (A : Option Addr) (n c : Nat) (w : World) (hby : By w Q A n seed) (hn : n ≤ 1000000) :
    Calls Tryd.prog 20 #[.slice A n c, .int .i64 a, .int .i64 b] w fun e w' => e = .returned (.agg (vs (keyAB seed a b)).toArray) ∧ Below w.heap.size w w' := by
  unfold keyAB
  rcases Nat.lt_or_ge (a16 b) (a16 a) with h | h
  · rw [Nat.min_eq_right (by omega), Nat.max_eq_left (by omega)]
    exact rkey_gt Q seed a b _ _ (u16_wrap' a) (u16_wrap' b) (a16_lt a) (a16_lt b) h A n c w hby hn
  · rw [Nat.min_eq_left h, Nat.max_eq_right h]
    exact rkey_le Q seed a b _ _ (u16_wrap' a) (u16_wrap' b) (a16_lt a) (a16_lt b) h A n c w hby hn

theorem own_one8 (w : World) (x : UInt8) {base : Nat} (hb : base ≤ w.heap.size) : (w.alloc (.cells #[.int .u8 (x.toNat : Int)] 5)).ownsRow base 5 1 (.slice (some ⟨w.heap.size, 0, none⟩) 1 1) 1 (vs [x]) :=
  own_weak (base := w.heap.size) ⟨rfl, .inr ⟨w.heap.size, 1, _, rfl, Nat.le_refl _, heap_alloc_new w _, Nat.le_refl _, by unfold maxLen; omega, rfl, rfl⟩⟩ hb

set_option maxHeartbeats 2000000 in
set_option maxRecDepth 100000 in
theorem rdigest_any (Q : Nat → Prop) (k : Int) (text : List UInt8) (A : Option Addr) (n c : Nat) (w : World) (hby : By w Q A n text) (hn : n ≤ 900000) :
    Calls Tryd.prog 21 #[.int .i64 k, .slice A n c] w fun e w' => e = .returned (.agg (vs (digK k text)).toArray) ∧ Below w.heap.size w w' := by
  obtain ⟨i0, hi, hz0, hz1, hz2⟩ := info_parts Tryd.info_u8
  have HBy := Lib.hid hby
  obtain ⟨z, hz⟩ : ∃ z : UInt8, z = UInt8.ofNat (k % 256).toNat := ⟨_, rfl⟩
  have hwz : IntKind.u8.wrap k = (z.toNat : Int) := by
    rw [IntKind.wrap_u8', hz, UInt8.toNat_ofNat']
    omega
  obtain ⟨r, hr⟩ : ∃ r, r = vs (digK k text) := ⟨_, rfl⟩
  have hrl : r.length = 32 := by rw [hr, vs_length]; exact sha_length _
  have hro : r.toArray.all (·.oneCell') = true := by rw [hr]; exact one_u8
  have hd : digK k text = sha ([z] ++ text) := by
    unfold digK
    rw [hz]
    rfl
  have hsum : ∀ W A' c', By W (fun _ => True) A' (1 + n) ([z] ++ text) → Calls Tryd.prog 11 #[.slice A' (1 + n) c'] W fun e w' => e = .returned (.agg r.toArray) ∧ Below W.heap.size W w' := fun W A' c' h1 => by
    rw [hr, hd]; exact rsum_any _ _ A' _ c' W h1 (by omega)
  have HSum := Lib.hid hsum
  have HRl := Lib.hid hrl
  have HRo := Lib.hid hro
  rw [← hr]
  clear hby hr hrl hro hsum hd hz
  go_enter Tryd.func21, Tryd.ntmps21
  go_wp2_with (first
    | (at_builtin; refine wpList_append_by _ rfl (.tmp 7) (.tmp 8) 22 rfl (w.heap.size + 1) i0 Tryd.underlying22 hi hz0 hz1 hz2 (.slice (some ⟨w.heap.size + 1, 0, none⟩) 1 1) 1 (vs [z]) rfl (by have h := own_one8 (w.alloc (.cells (vs zero32).toArray 25)) z (base := w.heap.size + 1) (by simp); rw [World.size_alloc] at h; exact h) Q A n c text rfl ((HBy.out.alloc _).alloc _) (by omega) (by simp) ?_; intro v2 w2 hown2 hgrow2 _; obtain ⟨HX2, HB2⟩ := dig_new hgrow2; rw [vs_append] at hown2; obtain ⟨A2, c2, rfl, hc2, hm2, _⟩ := own_form hown2; have HY2 := Lib.hid ((By.of_own hown2).weak (Q' := fun _ => True) fun _ _ => trivial); clear hown2 hgrow2)
    | (go_at_call 11; (with_reducible refine (HSum.out _ A2 c2 HY2.out).mono ?_); rintro e w3 ⟨rfl, hb3⟩; have HX3 := Lib.hid (HX2.out.trans (hb3.mono HX2.out.size)); have HB3 := Lib.hid (HB2.out.through hb3); clear hb3)
    | (refine wpList_store_row rfl 25 (.tmp 4) (.tmp 10) rfl w.heap.size r.toArray rfl rfl 25 (vs zero32).toArray HB3.out (by rw [List.size_toArray, HRl.out]; kernel_rfl) (by rw [List.size_toArray, List.size_toArray, HRl.out]; rfl) HRo.out ?_))
  refine bodyPost_ret (v := .agg r.toArray) (results_cell_row rfl _ _ w.heap.size 25 _ (0, 0) _ rfl (HB3.out.row _) Tryd.underlying25 rfl ?r1) rfl ⟨rfl, below_row HX3.out _ (Nat.le_refl _) _⟩
  rw [List.size_toArray, HRl.out]; kernel_rfl

set_option maxHeartbeats 4000000 in
set_option maxRecDepth 100000 in
theorem rtag_any (Q Q' : Nat → Prop) (seed : List UInt8) (a b : Int) (text : List UInt8) (A A' : Option Addr) (n c n' c' : Nat) (w : World) (hby : By w Q A n seed) (hn : n ≤ 1000000) (hby' : By w Q' A' n' text) (hn' : n' ≤ 800000) :
    Calls Tryd.prog 22 #[.slice A n c, .int .i64 a, .int .i64 b, .slice A' n' c'] w fun e w' => e = .returned (.agg (vs (tagAB seed a b text)).toArray) ∧ Below w.heap.size w w' := by
  obtain ⟨i0, hi, hz0, hz1, hz2⟩ := info_parts Tryd.info_u8
  have HBy := Lib.hid hby
  have HBy' := Lib.hid hby'
  obtain ⟨ks, hks⟩ : ∃ ks, ks = keyAB seed a b := ⟨_, rfl⟩
  have hkl : ks.length = 32 := by rw [hks, keyAB_length]
  obtain ⟨q, hq⟩ : ∃ q, q = vs ks := ⟨_, rfl⟩
  have hql : q.length = 32 := by rw [hq, vs_length, hkl]
  have hqo : q.toArray.all (·.oneCell') = true := by rw [hq]; exact one_u8
  have hidx : ∀ (W : World) (i : Nat) (x : UInt8), i < 32 → ks[i]? = some x → (Instr.index 28 (.agg q.toArray) (.int .i64 (i : Int))).run Tryd.prog W = .ok (.int .u8 (x.toNat : Int)) W := fun W i x h1 h2 =>
    run_index_row W 28 5 32 q .i64 i (u8 x) Tryd.underlying28 (by kernel_rfl) (by kernel_rfl) h1 (by rw [hq, vs_get, h2]; rfl)
  obtain ⟨r, hr⟩ : ∃ r, r = vs (tagAB seed a b text) := ⟨_, rfl⟩
  have hrl : r.length = 32 := by rw [hr, vs_length, tagAB_length]
  have hro : r.toArray.all (·.oneCell') = true := by rw [hr]; exact one_u8
  have hkey : ∀ W, By W Q A n seed → Calls Tryd.prog 20 #[.slice A n c, .int .i64 a, .int .i64 b] W fun e w' => e = .returned (.agg q.toArray) ∧ Below W.heap.size W w' := fun W h => by
    rw [hq, hks]; exact rkey_any Q seed a b A n c W h hn
  have hof : ∀ W Ak ck Aa ca, By W (fun _ => True) Ak 32 ks → By W (fun _ => True) Aa (4 + n') (addr a b text) → Calls Tryd.prog 14 #[.slice Ak 32 ck, .slice Aa (4 + n') ca] W fun e w' => e = .returned (.agg r.toArray) ∧ Below W.heap.size W w' := fun W Ak ck Aa ca h1 h2 => by
    rw [hr]
    unfold tagAB
    rw [← hks]
    exact rof_any _ _ ks (addr a b text) Ak Aa 32 ck (4 + n') ca W h1 h2 (by omega) (by omega)
  have HKey := Lib.hid hkey
  have HOf := Lib.hid hof
  have HIdx := Lib.hid hidx
  have HKl := Lib.hid hkl
  have HQl := Lib.hid hql
  have HQo := Lib.hid hqo
  have HRl := Lib.hid hrl
  have HRo := Lib.hid hro
  rw [← hr]
  clear hby hby' hks hkl hq hql hqo hidx hr hrl hro hkey hof
  go_enter Tryd.func22, Tryd.ntmps22
  go_wp2_with (first
    | (go_at_call 20; (with_reducible refine (HKey.out _ (HBy.out.alloc _)).mono ?_); rintro e w1 ⟨rfl, hb1⟩; have HX1 : Hid (Below w.heap.size w w1) := Lib.hid (((Below.refl _ w).alloc (Nat.le_refl _) _).trans (hb1.mono (by simp))); have HB1 : Hid (Blk w1 w.heap.size 28 (vs zero32)) := Lib.hid ((Blk.fresh rfl (by kernel_rfl)).through hb1); clear hb1)
    | (refine wpList_store_blk rfl 28 (.tmp 9) (.tmp 16) rfl w1.heap.size q rfl rfl 28 (vs zero32) (Blk.fresh rfl (by kernel_rfl)) (by rw [HQl.out]; kernel_rfl) (by rw [HQl.out]; rfl) HQo.out ?_; intro w2 hb2 ho2; have HX2 := Lib.hid ((HX1.out.alloc HX1.out.size _).grown ho2 (Nat.le_trans HX1.out.size (by simp)) (fun g hg => Option.some.inj hg ▸ HX1.out.size)); have HB2 := Lib.hid ((HB1.out.alloc _).grown ho2 (fun e => absurd (Option.some.inj e) (Nat.ne_of_lt HB1.out.lt))); have HQ2 := Lib.hid hb2; clear hb2 ho2)
    | (refine wpList_load_blk rfl 28 (.tmp 9) rfl w1.heap.size rfl 28 q _ HQ2.out Tryd.underlying28 rfl (by rw [HQl.out]; kernel_rfl) ?_))
  go_loopw [10, 18] (fun ov iv wr => ∃ (i : Nat) (A : Option Addr) (c : Nat), i ≤ 32 ∧ iv = .int .i64 i ∧ ov = .slice A i c ∧ wr.ownsRow w2.heap.size 5 1 (.slice A i c) i (vs (ks.take i)) ∧ Below w2.heap.size w2 wr) (fun _ iv _ => 32 - (intOf iv).toNat)
  case atStart => exact ⟨0, none, 0, by omega, rfl, rfl, World.ownsRow_nil _ _ _ _, Below.refl _ _⟩
  case round =>
    obtain ⟨i, A3, c3, hi32, rfl, rfl, ho, hx⟩ := hrel
    by_cases hlt : i < 32
    · as_aux_lemma =>
      have hix : i < ks.length := by rw [HKl.out]; exact hlt
      have hget := List.getElem?_eq_getElem hix
      generalize ks[i] = x at hget
      have hidx := fun W => HIdx.out W i x hlt hget
      have HNext := Lib.hid (take_snoc hget)
      have HO := Lib.hid ho
      have HX := Lib.hid hx
      clear ho hx hget hix
      go_wp2_with (at_builtin; refine wpList_append_by _ rfl (.tmp 21) (.tmp 23) 22 rfl w2.heap.size i0 Tryd.underlying22 hi hz0 hz1 hz2 (.slice A3 i c3) i (vs (ks.take i)) rfl (HO.out.alloc _) (fun _ => True) (some ⟨wr.heap.size, 0, none⟩) 1 1 [x] rfl (By.one8 _ trivial) (by omega) (by have := HX.out.size; simp; omega) ?_; intro v6 w6 hown6 hgrow6 _; have HX6 := Lib.hid ((HX.out.alloc HX.out.size _).grown hgrow6 (Nat.le_trans HX.out.size (by simp)) (fun g hg => (HO.out.lt g hg).1)); obtain ⟨A6, c6, rfl, _, _, _⟩ := own_form hown6; have HO6 : Hid (w6.ownsRow w2.heap.size 5 1 (.slice A6 (i + 1) c6) (i + 1) (vs (ks.take (i + 1)))) := Lib.hid (by rw [vs_append, ← HNext.out] at hown6; exact hown6); clear hown6 hgrow6)
      go_roundw
      case rel => exact ⟨i + 1, A6, c6, by omega, by go_num, rfl, HO6.out, HX6.out⟩
      case measure => simp [intOf]; omega
    · as_aux_lemma =>
      have e32 : i = 32 := by omega
      subst e32
      rw [List.take_of_length_le (by rw [HKl.out]; exact Nat.le_refl _)] at ho
      have HK3 := Lib.hid ((By.of_own ho).weak (Q' := fun _ => True) fun _ _ => trivial)
      have HX3 := Lib.hid (HX2.out.trans (hx.mono HX2.out.size))
      have HB3 := Lib.hid (HB2.out.through hx)
      have HY3 := Lib.hid (HBy'.out.through HX3.out)
      clear ho hx
      obtain ⟨wv, rfl⟩ : ∃ wv : World, wv = wr := ⟨_, rfl⟩
      go_wp2_with (first
        | (go_at_call 40; (with_reducible refine (rtwo_any a b _).mono ?_); rintro e w4 ⟨A4, c4, rfl, ho4, _, _, hb4⟩; have HX4 := Lib.hid (HX3.out.trans (hb4.mono HX3.out.size)); have HB4 := Lib.hid (HB3.out.through hb4); have HK4 := Lib.hid (HK3.out.through hb4); have HY4 := Lib.hid (HY3.out.through hb4); have HO4 := Lib.hid ho4; have hs4 := hb4.size; clear ho4 hb4)
        | (at_builtin; refine wpList_append_by _ rfl (.tmp 29) (.tmp 30) 22 rfl wv.heap.size i0 Tryd.underlying22 hi hz0 hz1 hz2 (.slice A4 4 c4) 4 (vs (pair (a16 a) (a16 b))) rfl HO4.out Q' A' n' c' text rfl HY4.out (by omega) hs4 ?_; intro v5 w5 hown5 hgrow5 _; have hx5 : Below wv.heap.size w4 w5 := (Below.refl _ w4).grown hgrow5 hs4 (fun g hg => (HO4.out.lt g hg).1); have HX5 := Lib.hid (HX4.out.trans (hx5.mono HX3.out.size)); have HB5 := Lib.hid (HB4.out.below hx5 HB3.out.lt); have HK5 := Lib.hid (By.row_keep HK3.out HK4.out hx5); rw [vs_append] at hown5; obtain ⟨A5, c5, rfl, _, _, _⟩ := own_form hown5; have HA5 : Hid (By w5 (fun _ => True) A5 (4 + n') (addr a b text)) := Lib.hid ((By.of_own hown5).weak (Q' := fun _ => True) fun _ _ => trivial); clear hown5 hgrow5 hx5)
        | (go_at_call 14; (with_reducible refine (HOf.out _ A3 c3 A5 c5 HK5.out HA5.out).mono ?_); rintro e w7 ⟨rfl, hb7⟩; have HX7 := Lib.hid (HX5.out.trans (hb7.mono HX5.out.size)); have HB7 := Lib.hid (HB5.out.through hb7); clear hb7)
        | (refine wpList_store_row rfl 28 (.tmp 8) (.tmp 32) rfl w.heap.size r.toArray rfl rfl 28 (vs zero32).toArray HB7.out (by rw [List.size_toArray, HRl.out]; kernel_rfl) (by rw [List.size_toArray, List.size_toArray, HRl.out]; rfl) HRo.out ?_))
      refine bodyPost_ret (v := .agg r.toArray) (results_cell_row rfl _ _ w.heap.size 28 _ (0, 0) _ rfl (HB7.out.row _) Tryd.underlying28 rfl ?r1) rfl ⟨rfl, below_row HX7.out _ (Nat.le_refl _) _⟩
      rw [List.size_toArray, HRl.out]; kernel_rfl

end Go.Proofs.YtolildehdibpbaaDoor
