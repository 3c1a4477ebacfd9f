/-
  The program's Key, of a table.
-/
import Derived.Test.YtolildehdibpbaaDoorKey
namespace Go.Proofs.YtolildehdibpbaaDoor
open Go.RowKit

set_option maxHeartbeats 8000000 in
set_option maxRecDepth 100000 in
theorem key_tab_lt (g : Nat) (seed : List UInt8) (a b : Int) (x y : Nat) (hwa : IntKind.u16.wrap a = (x : Int)) (hwb : IntKind.u16.wrap b = (y : Int)) (hx : x < 65536) (hy : y < 65536) (hlt : x < y) (w : World) (ht : Tab w) (h : TS w g seed) (hs : seed.length ≤ 1000000) :
    Calls Tryd.prog 19 #[.pointer (some ⟨g, 0, none⟩), .int .i64 a, .int .i64 b] w fun e w' => e = .returned (.agg (vs (keyB seed x y)).toArray) ∧ TS w' g seed ∧ KF g w w' := by
  obtain ⟨m, As, ns, cs, hb, hsd, hnc, hcm, hm⟩ := h
  have hgw := hb.lt
  have HT := Lib.hid ht
  have hlt1 : (x : Int) < (y : Int) := by omega
  have hlt2 : ¬ (y : Int) < (x : Int) := by omega
  have hlt3 : ¬ y < x := by omega
  have hlt4 : x ≤ y := by omega
  have hlt5 : ¬ y ≤ x := by omega
  obtain ⟨r, hr⟩ : ∃ r, r = vs (keyB seed x y) := ⟨_, rfl⟩
  have hrl : r.length = 32 := by rw [hr, vs_length, keyB_length]
  have hro : r.toArray.all (·.oneCell') = true := by rw [hr]; exact one_u8
  have hko : ∀ W, By W (fun k => k < g) As ns seed → Tab W → Calls Tryd.prog 38 #[.slice As ns cs, .agg #[.int .u16 (x : Int), .int .u16 (y : Int)]] W fun e w' => e = .returned (.agg r.toArray) ∧ Below W.heap.size W w' := fun W h1 h2 => by
    rw [hr]; exact keyOf_any _ seed x y hx hy As ns cs W h1 hnc hcm h2 (by rw [← hsd.len]; exact hs)
  have hkeep : ∀ W, TS W g seed → Calls Tryd.prog 39 #[.pointer (some ⟨g, 0, none⟩), .agg #[.int .u16 (x : Int), .int .u16 (y : Int)], .agg r.toArray] W fun e w' => e = .returned (.tuple #[]) ∧ TS w' g seed ∧ KF g W w' := fun W h => by
    rw [hr]; exact keep_any g seed x y W h
  have HKo := Lib.hid hko
  have HKeep := Lib.hid hkeep
  have HRl := Lib.hid hrl
  have HRo := Lib.hid hro
  have HB0 := Lib.hid hb
  have HSd := Lib.hid hsd
  have HM0 := Lib.hid hm
  have HRe := Lib.hid hr
  rw [← hr]
  clear hr hko hkeep hrl hro ht hb hsd hm
  go_enter Tryd.func19, Tryd.ntmps19
  go_wp2
  obtain ⟨wz, hwz⟩ : ∃ wz, wz = ((w.alloc (.cells (vs zero32).toArray 28)).alloc (.cells #[.int .u16 (x : Int), .int .u16 (y : Int)] 68)) := ⟨_, rfl⟩
  have hxz : Below w.heap.size w wz := by rw [hwz]; exact ((Below.refl _ w).alloc (Nat.le_refl _) _).alloc (by simp) _
  have hbz : Blk wz g 66 [.slice As ns cs, .map m] := HB0.out.through hxz
  have h6 : Blk wz w.heap.size 28 (vs zero32) := by rw [hwz]; exact (Blk.fresh rfl rfl).alloc _
  have h9 : Blk wz (w.heap.size + 1) 68 [.int .u16 (x : Int), .int .u16 (y : Int)] := by rw [hwz]; exact Blk.fresh (by simp) rfl
  have hmz := HM0.out.through hxz
  obtain ⟨v, ok, hlk, hvl, hok⟩ := run_lookup_two hmz x y
  obtain ⟨q, hq⟩ : ∃ q, q = vs v := ⟨_, rfl⟩
  have hql : q.length = 32 := by rw [hq, vs_length, hvl]; cases ok <;> simp [keyB_length]
  have hqo : q.toArray.all (·.oneCell') = true := by rw [hq]; exact one_u8
  have HLk : Hid (∀ W, Below wz.heap.size wz W → (Instr.lookup 64 (.map m) (.agg #[.int .u16 (x : Int), .int .u16 (y : Int)]) true).run Tryd.prog W = .ok (.tuple #[.agg q.toArray, .bool ok]) W) := Lib.hid (fun W hW => by rw [hq]; exact hlk W (map_keep hmz hW))
  have HOk : Hid (ok = true → q = r) := Lib.hid (fun e => by rw [hq, hok e, HRe.out])
  have HQl := Lib.hid hql
  have HQo := Lib.hid hqo
  have HXz := Lib.hid hxz
  have HB := Lib.hid hbz
  have HM := Lib.hid hmz
  have hgz := hbz.lt
  have h6z := h6.lt
  have h9z := h9.lt
  change Code.wp _ _ _ _ ((w.alloc (.cells (vs zero32).toArray 28)).alloc (.cells #[.int .u16 (x : Int), .int .u16 (y : Int)] 68))
  rw [← hwz]
  obtain ⟨b6, hb6⟩ : ∃ b6, b6 = w.heap.size := ⟨_, rfl⟩
  obtain ⟨b9, hb9⟩ : ∃ b9, b9 = w.heap.size + 1 := ⟨_, rfl⟩
  rw [← hb9] at h9 h9z
  rw [← hb9]
  rw [← hb6] at h6 h6z
  have hg6 : g < b6 := by rw [hb6]; exact hgw
  have h6w : w.heap.size ≤ b6 := by rw [hb6]; exact Nat.le_refl _
  have H6 := Lib.hid h6
  have H9 := Lib.hid h9
  clear hwz hxz hbz h6 h9 hmz hlk hvl hok hq hql hqo hb9
  rw [← hb6]
  clear hb6
  refine wp_region_held_drew (S := fun W => Blk W g 66 [.slice As ns cs, .map m] ∧ Blk W b9 68 [.int .u16 (x : Int), .int .u16 (y : Int)] ∧ Below wz.heap.size wz W) (by kernel_rfl) ⟨HB.out.drew, H9.out.drew, (Below.refl _ wz).drew⟩ (fun hHeld => ?_)
  change wpAnyH _ _ _ _ _ _ #[false, false, false, false, false, false, false, false, false, false, false, false] _ _
  refine wpAnyH_take (i := 0) (v := (.pointer (some ⟨g, 0, none⟩))) rfl (by kernel_rfl) (by kernel_rfl) (by kernel_rfl) (fun _ _ _ h => h) (Or.inl ⟨by kernel_rfl, fun w hSw => ?_⟩) (by assumption) ?_
  · (try dsimp only at hSw); go_simp <;> (try rfl)
  change wpAnyH _ _ _ _ _ _ _ (Act.put _ (some (28 : Nat)) (.pointer (some ⟨g, 0, none⟩))) _
  simp only [Act.put, List.setIfInBounds_toArray, List.set_cons_zero, List.set_cons_succ]
  refine wpAnyH_take (i := 1) (v := (.pointer (some ⟨g, 0, none⟩))) rfl (by kernel_rfl) (by kernel_rfl) (by kernel_rfl) (fun _ _ _ h => h) (Or.inl ⟨by kernel_rfl, fun w hSw => ?_⟩) (by assumption) ?_
  · (try dsimp only at hSw); go_simp <;> (try rfl)
  change wpAnyH _ _ _ _ _ _ _ (Act.put _ (some (29 : Nat)) (.pointer (some ⟨g, 0, none⟩))) _
  simp only [Act.put, List.setIfInBounds_toArray, List.set_cons_zero, List.set_cons_succ]
  refine wpAnyH_take (i := 2) (v := (.pointer (some ⟨g, 1, none⟩))) rfl (by kernel_rfl) (by kernel_rfl) (by kernel_rfl) (fun _ _ _ h => h) (Or.inl ⟨by kernel_rfl, fun w hSw => ?_⟩) (by assumption) ?_
  · (try dsimp only at hSw); go_simp <;> (try rfl)
  change wpAnyH _ _ _ _ _ _ _ (Act.put _ (some (30 : Nat)) (.pointer (some ⟨g, 1, none⟩))) _
  simp only [Act.put, List.setIfInBounds_toArray, List.set_cons_zero, List.set_cons_succ]
  refine wpAnyH_take (i := 3) (v := (.map m)) rfl (by kernel_rfl) (by kernel_rfl) (by kernel_rfl) (fun _ _ _ h => h) (yields_load_at (by kernel_rfl) 64 (.tmp 30) rfl (.pointer (some ⟨g, 1, none⟩)) (by simp [Act.eval]) (.map m) (fun W hW => load_map (hW.1.cellAt rfl))) (by assumption) ?_
  change wpAnyH _ _ _ _ _ _ _ (Act.put _ (some (31 : Nat)) (.map m)) _
  simp only [Act.put, List.setIfInBounds_toArray, List.set_cons_zero, List.set_cons_succ]
  refine wpAnyH_take (i := 4) (v := (.agg #[.int .u16 (x : Int), .int .u16 (y : Int)])) rfl (by kernel_rfl) (by kernel_rfl) (by kernel_rfl) (fun _ _ _ h => h) (yields_load_at (by kernel_rfl) 68 (.tmp 9) rfl (.pointer (some ⟨b9, 0, none⟩)) (by simp [Act.eval]) (.agg #[.int .u16 (x : Int), .int .u16 (y : Int)]) (fun W hW => hW.2.1.loadAt 68 _ Tryd.underlying68 rfl (by kernel_rfl))) (by assumption) ?_
  change wpAnyH _ _ _ _ _ _ _ (Act.put _ (some (32 : Nat)) (.agg #[.int .u16 (x : Int), .int .u16 (y : Int)])) _
  simp only [Act.put, List.setIfInBounds_toArray, List.set_cons_zero, List.set_cons_succ]
  refine wpAnyH_take (i := 5) (v := (.tuple #[.agg q.toArray, .bool ok])) rfl (by kernel_rfl) (by kernel_rfl) (by kernel_rfl) (fun _ _ _ h => h) (yields_lookup (by kernel_rfl) 64 (.tmp 31) (.tmp 32) rfl (.map m) (.agg #[.int .u16 (x : Int), .int .u16 (y : Int)]) (by simp [Act.eval]) (by simp [Act.eval]) (.tuple #[.agg q.toArray, .bool ok]) (fun W hW => HLk.out W hW.2.2)) (by assumption) ?_
  change wpAnyH _ _ _ _ _ _ _ (Act.put _ (some (33 : Nat)) (.tuple #[.agg q.toArray, .bool ok])) _
  simp only [Act.put, List.setIfInBounds_toArray, List.set_cons_zero, List.set_cons_succ]
  refine wpAnyH_take (i := 6) (v := (.tuple #[.agg q.toArray, .bool ok])) rfl (by kernel_rfl) (by kernel_rfl) (by kernel_rfl) (fun _ _ _ h => h) (Or.inl ⟨by kernel_rfl, fun w hSw => ?_⟩) (by assumption) ?_
  · (try dsimp only at hSw); go_simp <;> (try rfl)
  change wpAnyH _ _ _ _ _ _ _ (Act.put _ (some (27 : Nat)) (.tuple #[.agg q.toArray, .bool ok])) _
  simp only [Act.put, List.setIfInBounds_toArray, List.set_cons_zero, List.set_cons_succ]
  refine wpAnyH_take (i := 7) (v := (.agg q.toArray)) rfl (by kernel_rfl) (by kernel_rfl) (by kernel_rfl) (fun _ _ _ h => h) (Or.inl ⟨by kernel_rfl, fun w hSw => ?_⟩) (by assumption) ?_
  · (try dsimp only at hSw); go_simp <;> (try rfl)
  change wpAnyH _ _ _ _ _ _ _ (Act.put _ (some (34 : Nat)) (.agg q.toArray)) _
  simp only [Act.put, List.setIfInBounds_toArray, List.set_cons_zero, List.set_cons_succ]
  refine wpAnyH_take (i := 8) (v := (.bool ok)) rfl (by kernel_rfl) (by kernel_rfl) (by kernel_rfl) (fun _ _ _ h => h) (Or.inl ⟨by kernel_rfl, fun w hSw => ?_⟩) (by assumption) ?_
  · (try dsimp only at hSw); go_simp <;> (try rfl)
  change wpAnyH _ _ _ _ _ _ _ (Act.put _ (some (35 : Nat)) (.bool ok)) _
  simp only [Act.put, List.setIfInBounds_toArray, List.set_cons_zero, List.set_cons_succ]
  refine wpAnyH_ready (rs := [9]) (by kernel_rfl) (by simp) ?_
  refine AllReadyH.cons (o := ⟨some 10, .alloc 28, _, _, _, none⟩) rfl (fun K hK => ?_) AllReadyH.nil
  refine step_alloc (by kernel_rfl) 28 rfl _ _ (Tryd.alloc_tag _) ?_; have HB1 := Lib.hid (hHeld.1.alloc (.cells (vs (List.replicate 32 0)).toArray 28)); have H91 := Lib.hid (hHeld.2.1.alloc (.cells (vs (List.replicate 32 0)).toArray 28)); have HX1 := Lib.hid (hHeld.2.2.alloc hHeld.2.2.size (.cells (vs (List.replicate 32 0)).toArray 28))
  refine hK.out _ _ ⟨HB1.out, H91.out, HX1.out⟩ (fun hHeld1 => ?_)
  clear hHeld hK K
  have hHeld := hHeld1
  clear hHeld1
  change wpAnyH _ _ _ _ _ _ _ (Act.put _ (some (10 : Nat)) (.pointer (some ⟨_, 0, none⟩))) _
  simp only [Act.put, List.setIfInBounds_toArray, List.set_cons_zero, List.set_cons_succ]
  refine wpAnyH_ready (rs := [10]) (by kernel_rfl) (by simp) ?_
  refine AllReadyH.cons (o := ⟨none, .store 28 (.tmp 10) (.tmp 34), _, _, _, none⟩) rfl (fun K hK => ?_) AllReadyH.nil
  refine step_store_blk rfl 28 (.tmp 10) (.tmp 34) rfl wz.drew.heap.size q (by simp [Act.eval]) (by simp [Act.eval]) 28 (vs (List.replicate 32 0)) (Blk.fresh rfl rfl) (by rw [HQl.out]; kernel_rfl) (by rw [HQl.out]; rfl) HQo.out ?_; intro wa hba hoa; have HBa := Lib.hid (HB1.out.grown hoa (fun e => absurd (Option.some.inj e) (Nat.ne_of_lt hgz))); have H9a := Lib.hid (H91.out.grown hoa (fun e => absurd (Option.some.inj e) (Nat.ne_of_lt h9z))); have HXa := Lib.hid (HX1.out.grown hoa HX1.out.size (fun k hk => Option.some.inj hk ▸ Nat.le_refl _)); have HTa := Lib.hid hba; clear hba hoa
  refine hK.out _ _ ⟨HBa.out, H9a.out, HXa.out⟩ (fun hHeld1 => ?_)
  clear hHeld hK K
  have hHeld := hHeld1
  clear hHeld1
  change wpAnyH _ _ _ _ _ _ _ (Act.put _ none undef) _
  simp only [Act.put]
  refine wpAnyH_take (i := 11) (v := (.bool ok)) rfl (by kernel_rfl) (by kernel_rfl) (by kernel_rfl) (fun _ _ _ h => h) (Or.inl ⟨by kernel_rfl, fun w hSw => ?_⟩) (by assumption) ?_
  · (try dsimp only at hSw); go_simp <;> (try rfl)
  change wpAnyH _ _ _ _ _ _ _ (Act.put _ (some (11 : Nat)) (.bool ok)) _
  simp only [Act.put, List.setIfInBounds_toArray, List.set_cons_zero, List.set_cons_succ]
  refine wpAnyH_done (by kernel_rfl) ?_ _
  obtain ⟨b10, hb10⟩ : ∃ b10, b10 = wz.drew.heap.size := ⟨_, rfl⟩
  rw [← hb10] at HTa
  rw [← hb10]
  have hz10 : wz.heap.size = b10 := by rw [hb10]; rfl
  have h610 : b6 < b10 := by rw [← hz10]; exact h6z
  have hg10 : g < b10 := by rw [← hz10]; exact hgz
  have h910 : b9 < b10 := by rw [← hz10]; exact h9z
  have H6a := Lib.hid (H6.out.through HXa.out)
  have HMa := Lib.hid (HM.out.through HXa.out)
  have HXw := Lib.hid (HXz.out.trans (HXa.out.mono HXz.out.size))
  have HSda := Lib.hid (HSd.out.through HXw.out)
  have HTab := Lib.hid (HT.out.through HXw.out)
  clear hb10 hHeld HB1 H91 HX1
  cases ok with
  | true =>
    have hqv := HOk.out rfl
    have HQv := Lib.hid hqv
    clear hqv
    go_wp2_with (first
      | (refine wpList_load_blk rfl 28 (.tmp 10) rfl b10 rfl 28 q _ HTa.out Tryd.underlying28 rfl (by rw [HQl.out]; kernel_rfl) ?_)
      | (refine wpList_store_row rfl 28 (.tmp 6) (.tmp 48) rfl b6 q.toArray rfl rfl 28 (vs zero32).toArray H6a.out (by rw [List.size_toArray, HQl.out]; kernel_rfl) (by rw [List.size_toArray, List.size_toArray, HQl.out]; rfl) HQo.out ?_))
    refine bodyPost_ret (v := .agg q.toArray) (results_cell_row rfl _ _ b6 28 _ (0, 0) _ rfl (H6a.out.row _) Tryd.underlying28 rfl ?r1) rfl ⟨by rw [HQv.out], ⟨m, As, ns, cs, HBa.out.rowFar (Nat.ne_of_lt hg6) _, HSda.out.rowBy (fun k hk => Nat.ne_of_lt (Nat.lt_trans hk hg6)), hnc, hcm, map_row HMa.out H6a.out⟩, KF.row (KF.of_below (Nat.le_of_lt hgw) HXw.out) h6w (Nat.le_of_lt hgw)⟩
    rw [List.size_toArray, HQl.out]; kernel_rfl
  | false =>
    clear HOk
    go_wp2
    refine wp_region_held_drew (S := fun W => Blk W g 66 [.slice As ns cs, .map m] ∧ Blk W b9 68 [.int .u16 (x : Int), .int .u16 (y : Int)]) (by kernel_rfl) ⟨HBa.out.drew, H9a.out.drew⟩ (fun hHeld => ?_)
    change wpAnyH _ _ _ _ _ _ #[false, false, false, false, false, false, false] _ _
    refine wpAnyH_take (i := 0) (v := (.pointer (some ⟨g, 0, none⟩))) rfl (by kernel_rfl) (by kernel_rfl) (by kernel_rfl) (fun _ _ _ h => h) (Or.inl ⟨by kernel_rfl, fun w hSw => ?_⟩) (by assumption) ?_
    · (try dsimp only at hSw); go_simp <;> (try rfl)
    change wpAnyH _ _ _ _ _ _ _ (Act.put _ (some (38 : Nat)) (.pointer (some ⟨g, 0, none⟩))) _
    simp only [Act.put, List.setIfInBounds_toArray, List.set_cons_zero, List.set_cons_succ]
    refine wpAnyH_take (i := 1) (v := (.pointer (some ⟨g, 0, none⟩))) rfl (by kernel_rfl) (by kernel_rfl) (by kernel_rfl) (fun _ _ _ h => h) (Or.inl ⟨by kernel_rfl, fun w hSw => ?_⟩) (by assumption) ?_
    · (try dsimp only at hSw); go_simp <;> (try rfl)
    change wpAnyH _ _ _ _ _ _ _ (Act.put _ (some (39 : Nat)) (.pointer (some ⟨g, 0, none⟩))) _
    simp only [Act.put, List.setIfInBounds_toArray, List.set_cons_zero, List.set_cons_succ]
    refine wpAnyH_take (i := 2) (v := (.pointer (some ⟨g, 0, none⟩))) rfl (by kernel_rfl) (by kernel_rfl) (by kernel_rfl) (fun _ _ _ h => h) (Or.inl ⟨by kernel_rfl, fun w hSw => ?_⟩) (by assumption) ?_
    · (try dsimp only at hSw); go_simp <;> (try rfl)
    change wpAnyH _ _ _ _ _ _ _ (Act.put _ (some (40 : Nat)) (.pointer (some ⟨g, 0, none⟩))) _
    simp only [Act.put, List.setIfInBounds_toArray, List.set_cons_zero, List.set_cons_succ]
    refine wpAnyH_take (i := 3) (v := (.slice As ns cs)) rfl (by kernel_rfl) (by kernel_rfl) (by kernel_rfl) (fun _ _ _ h => h) (yields_load_at (by kernel_rfl) 22 (.tmp 40) rfl (.pointer (some ⟨g, 0, none⟩)) (by simp [Act.eval]) (.slice As ns cs) (fun W hW => load_slice (hW.1.cellAt rfl))) (by assumption) ?_
    change wpAnyH _ _ _ _ _ _ _ (Act.put _ (some (41 : Nat)) (.slice As ns cs)) _
    simp only [Act.put, List.setIfInBounds_toArray, List.set_cons_zero, List.set_cons_succ]
    refine wpAnyH_take (i := 4) (v := (.agg #[.int .u16 (x : Int), .int .u16 (y : Int)])) rfl (by kernel_rfl) (by kernel_rfl) (by kernel_rfl) (fun _ _ _ h => h) (yields_load_at (by kernel_rfl) 68 (.tmp 9) rfl (.pointer (some ⟨b9, 0, none⟩)) (by simp [Act.eval]) (.agg #[.int .u16 (x : Int), .int .u16 (y : Int)]) (fun W hW => hW.2.loadAt 68 _ Tryd.underlying68 rfl (by kernel_rfl))) (by assumption) ?_
    change wpAnyH _ _ _ _ _ _ _ (Act.put _ (some (42 : Nat)) (.agg #[.int .u16 (x : Int), .int .u16 (y : Int)])) _
    simp only [Act.put, List.setIfInBounds_toArray, List.set_cons_zero, List.set_cons_succ]
    refine wpAnyH_ready (rs := [5]) (by kernel_rfl) (by simp) ?_
    refine AllReadyH.cons rfl (fun K hK => ?_) AllReadyH.nil
    go_simp
    refine (HKo.out _ HSda.out.drew HTab.out.drew_).mono ?_
    rintro e wb ⟨rfl, hbb⟩; have HBb := Lib.hid (HBa.out.drew.through hbb); have H9b := Lib.hid (H9a.out.drew.through hbb); have HTb := Lib.hid (HTa.out.drew.through hbb); have H6b := Lib.hid (H6a.out.drew.through hbb); have HMb := Lib.hid (HMa.out.drew_.through hbb); have HXb := Lib.hid (HXw.out.drew.trans (hbb.mono HXw.out.size)); clear hbb
    go_wp2_with fail
    refine hK.out _ _ ⟨HBb.out, H9b.out⟩ (fun hHeld1 => ?_)
    clear hHeld hK K
    have hHeld := hHeld1
    clear hHeld1
    refine wpAnyH_ready (rs := [6]) (by kernel_rfl) (by simp) ?_
    refine AllReadyH.cons (o := ⟨none, .store 28 (.tmp 10) (.tmp 43), _, _, _, none⟩) rfl (fun K hK => ?_) AllReadyH.nil
    refine step_store_blk rfl 28 (.tmp 10) (.tmp 43) rfl b10 r (by simp [Act.eval]) (by simp [Act.eval]) 28 q HTb.out (by rw [HRl.out]; kernel_rfl) (by rw [HQl.out, HRl.out]) HRo.out ?_; intro wc hbc hoc; have HBc := Lib.hid (HBb.out.grown hoc (fun e => absurd (Option.some.inj e) (Nat.ne_of_lt hg10))); have H9c := Lib.hid (H9b.out.grown hoc (fun e => absurd (Option.some.inj e) (Nat.ne_of_lt h910))); have H6c := Lib.hid (H6b.out.grown hoc (fun e => absurd (Option.some.inj e) (Nat.ne_of_lt h610))); have HMc := Lib.hid (map_grown HMb.out HTb.out hoc); have HXc := Lib.hid (HXb.out.grown hoc HXb.out.size (fun k hk => Option.some.inj hk ▸ Nat.le_of_lt (Nat.lt_of_le_of_lt h6w h610))); have HTc := Lib.hid hbc; clear hbc hoc
    refine hK.out _ _ ⟨HBc.out, H9c.out⟩ (fun hHeld1 => ?_)
    clear hHeld hK K
    have hHeld := hHeld1
    clear hHeld1
    change wpAnyH _ _ _ _ _ _ _ (Act.put _ none undef) _
    simp only [Act.put]
    refine wpAnyH_done (by kernel_rfl) ?_ _
    have HTS : Hid (TS wc g seed) := Lib.hid ⟨m, As, ns, cs, HBc.out, HSd.out.through HXc.out, hnc, hcm, HMc.out⟩
    clear hHeld
    go_wp2_with (first
          | (refine wpList_load_blk rfl 68 (.tmp 9) rfl b9 rfl 68 [.int .u16 (x : Int), .int .u16 (y : Int)] _ H9c.out Tryd.underlying68 rfl (by kernel_rfl) ?_)
          | (refine wpList_load_blk rfl 28 (.tmp 10) rfl b10 rfl 28 r _ HTc.out Tryd.underlying28 rfl (by rw [HRl.out]; kernel_rfl) ?_)
          | (go_at_call 39; (with_reducible refine (HKeep.out _ HTS.out).mono ?_); rintro e wd ⟨rfl, hts, hkf⟩; have HTd := Lib.hid (hkf.blk HTc.out (Nat.ne_of_gt hg10)); have H6d := Lib.hid (hkf.blk H6c.out (Nat.ne_of_gt hg6)); have HTSd := Lib.hid hts; have HKF := Lib.hid ((KF.of_below (Nat.le_of_lt hgw) HXc.out).trans hkf); clear hts hkf)
          | (refine wpList_load_blk rfl 28 (.tmp 10) rfl b10 rfl 28 r _ HTd.out Tryd.underlying28 rfl (by rw [HRl.out]; kernel_rfl) ?_)
          | (refine wpList_store_row rfl 28 (.tmp 6) (.tmp 48) rfl b6 r.toArray rfl rfl 28 (vs zero32).toArray H6d.out (by rw [List.size_toArray, HRl.out]; kernel_rfl) (by rw [List.size_toArray, List.size_toArray, HRl.out]; rfl) HRo.out ?_))
    refine bodyPost_ret (v := .agg r.toArray) (results_cell_row rfl _ _ b6 28 _ (0, 0) _ rfl (H6d.out.row _) Tryd.underlying28 rfl ?r2) rfl ⟨rfl, TS.row HTSd.out H6d.out hg6, KF.row HKF.out h6w (Nat.le_of_lt hgw)⟩
    rw [List.size_toArray, HRl.out]; kernel_rfl

set_option maxHeartbeats 8000000 in
set_option maxRecDepth 100000 in
theorem key_tab_gt (g : Nat) (seed : List UInt8) (a b : Int) (x y : Nat) (hwa : IntKind.u16.wrap a = (x : Int)) (hwb : IntKind.u16.wrap b = (y : Int)) (hx : x < 65536) (hy : y < 65536) (hlt : y < x) (w : World) (ht : Tab w) (h : TS w g seed) (hs : seed.length ≤ 1000000) :
    Calls Tryd.prog 19 #[.pointer (some ⟨g, 0, none⟩), .int .i64 a, .int .i64 b] w fun e w' => e = .returned (.agg (vs (keyB seed y x)).toArray) ∧ TS w' g seed ∧ KF g w w' := by
  obtain ⟨m, As, ns, cs, hb, hsd, hnc, hcm, hm⟩ := h
  have hgw := hb.lt
  have HT := Lib.hid ht
  have hlt1 : (y : Int) < (x : Int) := by omega
  have hlt2 : ¬ (x : Int) < (y : Int) := by omega
  have hlt3 : ¬ x < y := by omega
  have hlt4 : y ≤ x := by omega
  have hlt5 : ¬ x ≤ y := by omega
  obtain ⟨r, hr⟩ : ∃ r, r = vs (keyB seed y x) := ⟨_, rfl⟩
  have hrl : r.length = 32 := by rw [hr, vs_length, keyB_length]
  have hro : r.toArray.all (·.oneCell') = true := by rw [hr]; exact one_u8
  have hko : ∀ W, By W (fun k => k < g) As ns seed → Tab W → Calls Tryd.prog 38 #[.slice As ns cs, .agg #[.int .u16 (y : Int), .int .u16 (x : Int)]] W fun e w' => e = .returned (.agg r.toArray) ∧ Below W.heap.size W w' := fun W h1 h2 => by
    rw [hr]; exact keyOf_any _ seed y x hy hx As ns cs W h1 hnc hcm h2 (by rw [← hsd.len]; exact hs)
  have hkeep : ∀ W, TS W g seed → Calls Tryd.prog 39 #[.pointer (some ⟨g, 0, none⟩), .agg #[.int .u16 (y : Int), .int .u16 (x : Int)], .agg r.toArray] W fun e w' => e = .returned (.tuple #[]) ∧ TS w' g seed ∧ KF g W w' := fun W h => by
    rw [hr]; exact keep_any g seed y x W h
  have HKo := Lib.hid hko
  have HKeep := Lib.hid hkeep
  have HRl := Lib.hid hrl
  have HRo := Lib.hid hro
  have HB0 := Lib.hid hb
  have HSd := Lib.hid hsd
  have HM0 := Lib.hid hm
  have HRe := Lib.hid hr
  rw [← hr]
  clear hr hko hkeep hrl hro ht hb hsd hm
  go_enter Tryd.func19, Tryd.ntmps19
  go_wp2
  obtain ⟨wz, hwz⟩ : ∃ wz, wz = ((w.alloc (.cells (vs zero32).toArray 28)).alloc (.cells #[.int .u16 (y : Int), .int .u16 (x : Int)] 68)) := ⟨_, rfl⟩
  have hxz : Below w.heap.size w wz := by rw [hwz]; exact ((Below.refl _ w).alloc (Nat.le_refl _) _).alloc (by simp) _
  have hbz : Blk wz g 66 [.slice As ns cs, .map m] := HB0.out.through hxz
  have h6 : Blk wz w.heap.size 28 (vs zero32) := by rw [hwz]; exact (Blk.fresh rfl rfl).alloc _
  have h9 : Blk wz (w.heap.size + 1) 68 [.int .u16 (y : Int), .int .u16 (x : Int)] := by rw [hwz]; exact Blk.fresh (by simp) rfl
  have hmz := HM0.out.through hxz
  obtain ⟨v, ok, hlk, hvl, hok⟩ := run_lookup_two hmz y x
  obtain ⟨q, hq⟩ : ∃ q, q = vs v := ⟨_, rfl⟩
  have hql : q.length = 32 := by rw [hq, vs_length, hvl]; cases ok <;> simp [keyB_length]
  have hqo : q.toArray.all (·.oneCell') = true := by rw [hq]; exact one_u8
  have HLk : Hid (∀ W, Below wz.heap.size wz W → (Instr.lookup 64 (.map m) (.agg #[.int .u16 (y : Int), .int .u16 (x : Int)]) true).run Tryd.prog W = .ok (.tuple #[.agg q.toArray, .bool ok]) W) := Lib.hid (fun W hW => by rw [hq]; exact hlk W (map_keep hmz hW))
  have HOk : Hid (ok = true → q = r) := Lib.hid (fun e => by rw [hq, hok e, HRe.out])
  have HQl := Lib.hid hql
  have HQo := Lib.hid hqo
  have HXz := Lib.hid hxz
  have HB := Lib.hid hbz
  have HM := Lib.hid hmz
  have hgz := hbz.lt
  have h6z := h6.lt
  have h9z := h9.lt
  change Code.wp _ _ _ _ ((w.alloc (.cells (vs zero32).toArray 28)).alloc (.cells #[.int .u16 (y : Int), .int .u16 (x : Int)] 68))
  rw [← hwz]
  obtain ⟨b6, hb6⟩ : ∃ b6, b6 = w.heap.size := ⟨_, rfl⟩
  obtain ⟨b9, hb9⟩ : ∃ b9, b9 = w.heap.size + 1 := ⟨_, rfl⟩
  rw [← hb9] at h9 h9z
  rw [← hb9]
  rw [← hb6] at h6 h6z
  have hg6 : g < b6 := by rw [hb6]; exact hgw
  have h6w : w.heap.size ≤ b6 := by rw [hb6]; exact Nat.le_refl _
  have H6 := Lib.hid h6
  have H9 := Lib.hid h9
  clear hwz hxz hbz h6 h9 hmz hlk hvl hok hq hql hqo hb9
  rw [← hb6]
  clear hb6
  refine wp_region_held_drew (S := fun W => Blk W g 66 [.slice As ns cs, .map m] ∧ Blk W b9 68 [.int .u16 (y : Int), .int .u16 (x : Int)] ∧ Below wz.heap.size wz W) (by kernel_rfl) ⟨HB.out.drew, H9.out.drew, (Below.refl _ wz).drew⟩ (fun hHeld => ?_)
  change wpAnyH _ _ _ _ _ _ #[false, false, false, false, false, false, false, false, false, false, false, false] _ _
  refine wpAnyH_take (i := 0) (v := (.pointer (some ⟨g, 0, none⟩))) rfl (by kernel_rfl) (by kernel_rfl) (by kernel_rfl) (fun _ _ _ h => h) (Or.inl ⟨by kernel_rfl, fun w hSw => ?_⟩) (by assumption) ?_
  · (try dsimp only at hSw); go_simp <;> (try rfl)
  change wpAnyH _ _ _ _ _ _ _ (Act.put _ (some (28 : Nat)) (.pointer (some ⟨g, 0, none⟩))) _
  simp only [Act.put, List.setIfInBounds_toArray, List.set_cons_zero, List.set_cons_succ]
  refine wpAnyH_take (i := 1) (v := (.pointer (some ⟨g, 0, none⟩))) rfl (by kernel_rfl) (by kernel_rfl) (by kernel_rfl) (fun _ _ _ h => h) (Or.inl ⟨by kernel_rfl, fun w hSw => ?_⟩) (by assumption) ?_
  · (try dsimp only at hSw); go_simp <;> (try rfl)
  change wpAnyH _ _ _ _ _ _ _ (Act.put _ (some (29 : Nat)) (.pointer (some ⟨g, 0, none⟩))) _
  simp only [Act.put, List.setIfInBounds_toArray, List.set_cons_zero, List.set_cons_succ]
  refine wpAnyH_take (i := 2) (v := (.pointer (some ⟨g, 1, none⟩))) rfl (by kernel_rfl) (by kernel_rfl) (by kernel_rfl) (fun _ _ _ h => h) (Or.inl ⟨by kernel_rfl, fun w hSw => ?_⟩) (by assumption) ?_
  · (try dsimp only at hSw); go_simp <;> (try rfl)
  change wpAnyH _ _ _ _ _ _ _ (Act.put _ (some (30 : Nat)) (.pointer (some ⟨g, 1, none⟩))) _
  simp only [Act.put, List.setIfInBounds_toArray, List.set_cons_zero, List.set_cons_succ]
  refine wpAnyH_take (i := 3) (v := (.map m)) rfl (by kernel_rfl) (by kernel_rfl) (by kernel_rfl) (fun _ _ _ h => h) (yields_load_at (by kernel_rfl) 64 (.tmp 30) rfl (.pointer (some ⟨g, 1, none⟩)) (by simp [Act.eval]) (.map m) (fun W hW => load_map (hW.1.cellAt rfl))) (by assumption) ?_
  change wpAnyH _ _ _ _ _ _ _ (Act.put _ (some (31 : Nat)) (.map m)) _
  simp only [Act.put, List.setIfInBounds_toArray, List.set_cons_zero, List.set_cons_succ]
  refine wpAnyH_take (i := 4) (v := (.agg #[.int .u16 (y : Int), .int .u16 (x : Int)])) rfl (by kernel_rfl) (by kernel_rfl) (by kernel_rfl) (fun _ _ _ h => h) (yields_load_at (by kernel_rfl) 68 (.tmp 9) rfl (.pointer (some ⟨b9, 0, none⟩)) (by simp [Act.eval]) (.agg #[.int .u16 (y : Int), .int .u16 (x : Int)]) (fun W hW => hW.2.1.loadAt 68 _ Tryd.underlying68 rfl (by kernel_rfl))) (by assumption) ?_
  change wpAnyH _ _ _ _ _ _ _ (Act.put _ (some (32 : Nat)) (.agg #[.int .u16 (y : Int), .int .u16 (x : Int)])) _
  simp only [Act.put, List.setIfInBounds_toArray, List.set_cons_zero, List.set_cons_succ]
  refine wpAnyH_take (i := 5) (v := (.tuple #[.agg q.toArray, .bool ok])) rfl (by kernel_rfl) (by kernel_rfl) (by kernel_rfl) (fun _ _ _ h => h) (yields_lookup (by kernel_rfl) 64 (.tmp 31) (.tmp 32) rfl (.map m) (.agg #[.int .u16 (y : Int), .int .u16 (x : Int)]) (by simp [Act.eval]) (by simp [Act.eval]) (.tuple #[.agg q.toArray, .bool ok]) (fun W hW => HLk.out W hW.2.2)) (by assumption) ?_
  change wpAnyH _ _ _ _ _ _ _ (Act.put _ (some (33 : Nat)) (.tuple #[.agg q.toArray, .bool ok])) _
  simp only [Act.put, List.setIfInBounds_toArray, List.set_cons_zero, List.set_cons_succ]
  refine wpAnyH_take (i := 6) (v := (.tuple #[.agg q.toArray, .bool ok])) rfl (by kernel_rfl) (by kernel_rfl) (by kernel_rfl) (fun _ _ _ h => h) (Or.inl ⟨by kernel_rfl, fun w hSw => ?_⟩) (by assumption) ?_
  · (try dsimp only at hSw); go_simp <;> (try rfl)
  change wpAnyH _ _ _ _ _ _ _ (Act.put _ (some (27 : Nat)) (.tuple #[.agg q.toArray, .bool ok])) _
  simp only [Act.put, List.setIfInBounds_toArray, List.set_cons_zero, List.set_cons_succ]
  refine wpAnyH_take (i := 7) (v := (.agg q.toArray)) rfl (by kernel_rfl) (by kernel_rfl) (by kernel_rfl) (fun _ _ _ h => h) (Or.inl ⟨by kernel_rfl, fun w hSw => ?_⟩) (by assumption) ?_
  · (try dsimp only at hSw); go_simp <;> (try rfl)
  change wpAnyH _ _ _ _ _ _ _ (Act.put _ (some (34 : Nat)) (.agg q.toArray)) _
  simp only [Act.put, List.setIfInBounds_toArray, List.set_cons_zero, List.set_cons_succ]
  refine wpAnyH_take (i := 8) (v := (.bool ok)) rfl (by kernel_rfl) (by kernel_rfl) (by kernel_rfl) (fun _ _ _ h => h) (Or.inl ⟨by kernel_rfl, fun w hSw => ?_⟩) (by assumption) ?_
  · (try dsimp only at hSw); go_simp <;> (try rfl)
  change wpAnyH _ _ _ _ _ _ _ (Act.put _ (some (35 : Nat)) (.bool ok)) _
  simp only [Act.put, List.setIfInBounds_toArray, List.set_cons_zero, List.set_cons_succ]
  refine wpAnyH_ready (rs := [9]) (by kernel_rfl) (by simp) ?_
  refine AllReadyH.cons (o := ⟨some 10, .alloc 28, _, _, _, none⟩) rfl (fun K hK => ?_) AllReadyH.nil
  refine step_alloc (by kernel_rfl) 28 rfl _ _ (Tryd.alloc_tag _) ?_; have HB1 := Lib.hid (hHeld.1.alloc (.cells (vs (List.replicate 32 0)).toArray 28)); have H91 := Lib.hid (hHeld.2.1.alloc (.cells (vs (List.replicate 32 0)).toArray 28)); have HX1 := Lib.hid (hHeld.2.2.alloc hHeld.2.2.size (.cells (vs (List.replicate 32 0)).toArray 28))
  refine hK.out _ _ ⟨HB1.out, H91.out, HX1.out⟩ (fun hHeld1 => ?_)
  clear hHeld hK K
  have hHeld := hHeld1
  clear hHeld1
  change wpAnyH _ _ _ _ _ _ _ (Act.put _ (some (10 : Nat)) (.pointer (some ⟨_, 0, none⟩))) _
  simp only [Act.put, List.setIfInBounds_toArray, List.set_cons_zero, List.set_cons_succ]
  refine wpAnyH_ready (rs := [10]) (by kernel_rfl) (by simp) ?_
  refine AllReadyH.cons (o := ⟨none, .store 28 (.tmp 10) (.tmp 34), _, _, _, none⟩) rfl (fun K hK => ?_) AllReadyH.nil
  refine step_store_blk rfl 28 (.tmp 10) (.tmp 34) rfl wz.drew.heap.size q (by simp [Act.eval]) (by simp [Act.eval]) 28 (vs (List.replicate 32 0)) (Blk.fresh rfl rfl) (by rw [HQl.out]; kernel_rfl) (by rw [HQl.out]; rfl) HQo.out ?_; intro wa hba hoa; have HBa := Lib.hid (HB1.out.grown hoa (fun e => absurd (Option.some.inj e) (Nat.ne_of_lt hgz))); have H9a := Lib.hid (H91.out.grown hoa (fun e => absurd (Option.some.inj e) (Nat.ne_of_lt h9z))); have HXa := Lib.hid (HX1.out.grown hoa HX1.out.size (fun k hk => Option.some.inj hk ▸ Nat.le_refl _)); have HTa := Lib.hid hba; clear hba hoa
  refine hK.out _ _ ⟨HBa.out, H9a.out, HXa.out⟩ (fun hHeld1 => ?_)
  clear hHeld hK K
  have hHeld := hHeld1
  clear hHeld1
  change wpAnyH _ _ _ _ _ _ _ (Act.put _ none undef) _
  simp only [Act.put]
  refine wpAnyH_take (i := 11) (v := (.bool ok)) rfl (by kernel_rfl) (by kernel_rfl) (by kernel_rfl) (fun _ _ _ h => h) (Or.inl ⟨by kernel_rfl, fun w hSw => ?_⟩) (by assumption) ?_
  · (try dsimp only at hSw); go_simp <;> (try rfl)
  change wpAnyH _ _ _ _ _ _ _ (Act.put _ (some (11 : Nat)) (.bool ok)) _
  simp only [Act.put, List.setIfInBounds_toArray, List.set_cons_zero, List.set_cons_succ]
  refine wpAnyH_done (by kernel_rfl) ?_ _
  obtain ⟨b10, hb10⟩ : ∃ b10, b10 = wz.drew.heap.size := ⟨_, rfl⟩
  rw [← hb10] at HTa
  rw [← hb10]
  have hz10 : wz.heap.size = b10 := by rw [hb10]; rfl
  have h610 : b6 < b10 := by rw [← hz10]; exact h6z
  have hg10 : g < b10 := by rw [← hz10]; exact hgz
  have h910 : b9 < b10 := by rw [← hz10]; exact h9z
  have H6a := Lib.hid (H6.out.through HXa.out)
  have HMa := Lib.hid (HM.out.through HXa.out)
  have HXw := Lib.hid (HXz.out.trans (HXa.out.mono HXz.out.size))
  have HSda := Lib.hid (HSd.out.through HXw.out)
  have HTab := Lib.hid (HT.out.through HXw.out)
  clear hb10 hHeld HB1 H91 HX1
  cases ok with
  | true =>
    have hqv := HOk.out rfl
    have HQv := Lib.hid hqv
    clear hqv
    go_wp2_with (first
      | (refine wpList_load_blk rfl 28 (.tmp 10) rfl b10 rfl 28 q _ HTa.out Tryd.underlying28 rfl (by rw [HQl.out]; kernel_rfl) ?_)
      | (refine wpList_store_row rfl 28 (.tmp 6) (.tmp 48) rfl b6 q.toArray rfl rfl 28 (vs zero32).toArray H6a.out (by rw [List.size_toArray, HQl.out]; kernel_rfl) (by rw [List.size_toArray, List.size_toArray, HQl.out]; rfl) HQo.out ?_))
    refine bodyPost_ret (v := .agg q.toArray) (results_cell_row rfl _ _ b6 28 _ (0, 0) _ rfl (H6a.out.row _) Tryd.underlying28 rfl ?r1) rfl ⟨by rw [HQv.out], ⟨m, As, ns, cs, HBa.out.rowFar (Nat.ne_of_lt hg6) _, HSda.out.rowBy (fun k hk => Nat.ne_of_lt (Nat.lt_trans hk hg6)), hnc, hcm, map_row HMa.out H6a.out⟩, KF.row (KF.of_below (Nat.le_of_lt hgw) HXw.out) h6w (Nat.le_of_lt hgw)⟩
    rw [List.size_toArray, HQl.out]; kernel_rfl
  | false =>
    clear HOk
    go_wp2
    refine wp_region_held_drew (S := fun W => Blk W g 66 [.slice As ns cs, .map m] ∧ Blk W b9 68 [.int .u16 (y : Int), .int .u16 (x : Int)]) (by kernel_rfl) ⟨HBa.out.drew, H9a.out.drew⟩ (fun hHeld => ?_)
    change wpAnyH _ _ _ _ _ _ #[false, false, false, false, false, false, false] _ _
    refine wpAnyH_take (i := 0) (v := (.pointer (some ⟨g, 0, none⟩))) rfl (by kernel_rfl) (by kernel_rfl) (by kernel_rfl) (fun _ _ _ h => h) (Or.inl ⟨by kernel_rfl, fun w hSw => ?_⟩) (by assumption) ?_
    · (try dsimp only at hSw); go_simp <;> (try rfl)
    change wpAnyH _ _ _ _ _ _ _ (Act.put _ (some (38 : Nat)) (.pointer (some ⟨g, 0, none⟩))) _
    simp only [Act.put, List.setIfInBounds_toArray, List.set_cons_zero, List.set_cons_succ]
    refine wpAnyH_take (i := 1) (v := (.pointer (some ⟨g, 0, none⟩))) rfl (by kernel_rfl) (by kernel_rfl) (by kernel_rfl) (fun _ _ _ h => h) (Or.inl ⟨by kernel_rfl, fun w hSw => ?_⟩) (by assumption) ?_
    · (try dsimp only at hSw); go_simp <;> (try rfl)
    change wpAnyH _ _ _ _ _ _ _ (Act.put _ (some (39 : Nat)) (.pointer (some ⟨g, 0, none⟩))) _
    simp only [Act.put, List.setIfInBounds_toArray, List.set_cons_zero, List.set_cons_succ]
    refine wpAnyH_take (i := 2) (v := (.pointer (some ⟨g, 0, none⟩))) rfl (by kernel_rfl) (by kernel_rfl) (by kernel_rfl) (fun _ _ _ h => h) (Or.inl ⟨by kernel_rfl, fun w hSw => ?_⟩) (by assumption) ?_
    · (try dsimp only at hSw); go_simp <;> (try rfl)
    change wpAnyH _ _ _ _ _ _ _ (Act.put _ (some (40 : Nat)) (.pointer (some ⟨g, 0, none⟩))) _
    simp only [Act.put, List.setIfInBounds_toArray, List.set_cons_zero, List.set_cons_succ]
    refine wpAnyH_take (i := 3) (v := (.slice As ns cs)) rfl (by kernel_rfl) (by kernel_rfl) (by kernel_rfl) (fun _ _ _ h => h) (yields_load_at (by kernel_rfl) 22 (.tmp 40) rfl (.pointer (some ⟨g, 0, none⟩)) (by simp [Act.eval]) (.slice As ns cs) (fun W hW => load_slice (hW.1.cellAt rfl))) (by assumption) ?_
    change wpAnyH _ _ _ _ _ _ _ (Act.put _ (some (41 : Nat)) (.slice As ns cs)) _
    simp only [Act.put, List.setIfInBounds_toArray, List.set_cons_zero, List.set_cons_succ]
    refine wpAnyH_take (i := 4) (v := (.agg #[.int .u16 (y : Int), .int .u16 (x : Int)])) rfl (by kernel_rfl) (by kernel_rfl) (by kernel_rfl) (fun _ _ _ h => h) (yields_load_at (by kernel_rfl) 68 (.tmp 9) rfl (.pointer (some ⟨b9, 0, none⟩)) (by simp [Act.eval]) (.agg #[.int .u16 (y : Int), .int .u16 (x : Int)]) (fun W hW => hW.2.loadAt 68 _ Tryd.underlying68 rfl (by kernel_rfl))) (by assumption) ?_
    change wpAnyH _ _ _ _ _ _ _ (Act.put _ (some (42 : Nat)) (.agg #[.int .u16 (y : Int), .int .u16 (x : Int)])) _
    simp only [Act.put, List.setIfInBounds_toArray, List.set_cons_zero, List.set_cons_succ]
    refine wpAnyH_ready (rs := [5]) (by kernel_rfl) (by simp) ?_
    refine AllReadyH.cons rfl (fun K hK => ?_) AllReadyH.nil
    go_simp
    refine (HKo.out _ HSda.out.drew HTab.out.drew_).mono ?_
    rintro e wb ⟨rfl, hbb⟩; have HBb := Lib.hid (HBa.out.drew.through hbb); have H9b := Lib.hid (H9a.out.drew.through hbb); have HTb := Lib.hid (HTa.out.drew.through hbb); have H6b := Lib.hid (H6a.out.drew.through hbb); have HMb := Lib.hid (HMa.out.drew_.through hbb); have HXb := Lib.hid (HXw.out.drew.trans (hbb.mono HXw.out.size)); clear hbb
    go_wp2_with fail
    refine hK.out _ _ ⟨HBb.out, H9b.out⟩ (fun hHeld1 => ?_)
    clear hHeld hK K
    have hHeld := hHeld1
    clear hHeld1
    refine wpAnyH_ready (rs := [6]) (by kernel_rfl) (by simp) ?_
    refine AllReadyH.cons (o := ⟨none, .store 28 (.tmp 10) (.tmp 43), _, _, _, none⟩) rfl (fun K hK => ?_) AllReadyH.nil
    refine step_store_blk rfl 28 (.tmp 10) (.tmp 43) rfl b10 r (by simp [Act.eval]) (by simp [Act.eval]) 28 q HTb.out (by rw [HRl.out]; kernel_rfl) (by rw [HQl.out, HRl.out]) HRo.out ?_; intro wc hbc hoc; have HBc := Lib.hid (HBb.out.grown hoc (fun e => absurd (Option.some.inj e) (Nat.ne_of_lt hg10))); have H9c := Lib.hid (H9b.out.grown hoc (fun e => absurd (Option.some.inj e) (Nat.ne_of_lt h910))); have H6c := Lib.hid (H6b.out.grown hoc (fun e => absurd (Option.some.inj e) (Nat.ne_of_lt h610))); have HMc := Lib.hid (map_grown HMb.out HTb.out hoc); have HXc := Lib.hid (HXb.out.grown hoc HXb.out.size (fun k hk => Option.some.inj hk ▸ Nat.le_of_lt (Nat.lt_of_le_of_lt h6w h610))); have HTc := Lib.hid hbc; clear hbc hoc
    refine hK.out _ _ ⟨HBc.out, H9c.out⟩ (fun hHeld1 => ?_)
    clear hHeld hK K
    have hHeld := hHeld1
    clear hHeld1
    change wpAnyH _ _ _ _ _ _ _ (Act.put _ none undef) _
    simp only [Act.put]
    refine wpAnyH_done (by kernel_rfl) ?_ _
    have HTS : Hid (TS wc g seed) := Lib.hid ⟨m, As, ns, cs, HBc.out, HSd.out.through HXc.out, hnc, hcm, HMc.out⟩
    clear hHeld
    go_wp2_with (first
          | (refine wpList_load_blk rfl 68 (.tmp 9) rfl b9 rfl 68 [.int .u16 (y : Int), .int .u16 (x : Int)] _ H9c.out Tryd.underlying68 rfl (by kernel_rfl) ?_)
          | (refine wpList_load_blk rfl 28 (.tmp 10) rfl b10 rfl 28 r _ HTc.out Tryd.underlying28 rfl (by rw [HRl.out]; kernel_rfl) ?_)
          | (go_at_call 39; (with_reducible refine (HKeep.out _ HTS.out).mono ?_); rintro e wd ⟨rfl, hts, hkf⟩; have HTd := Lib.hid (hkf.blk HTc.out (Nat.ne_of_gt hg10)); have H6d := Lib.hid (hkf.blk H6c.out (Nat.ne_of_gt hg6)); have HTSd := Lib.hid hts; have HKF := Lib.hid ((KF.of_below (Nat.le_of_lt hgw) HXc.out).trans hkf); clear hts hkf)
          | (refine wpList_load_blk rfl 28 (.tmp 10) rfl b10 rfl 28 r _ HTd.out Tryd.underlying28 rfl (by rw [HRl.out]; kernel_rfl) ?_)
          | (refine wpList_store_row rfl 28 (.tmp 6) (.tmp 48) rfl b6 r.toArray rfl rfl 28 (vs zero32).toArray H6d.out (by rw [List.size_toArray, HRl.out]; kernel_rfl) (by rw [List.size_toArray, List.size_toArray, HRl.out]; rfl) HRo.out ?_))
    refine bodyPost_ret (v := .agg r.toArray) (results_cell_row rfl _ _ b6 28 _ (0, 0) _ rfl (H6d.out.row _) Tryd.underlying28 rfl ?r2) rfl ⟨rfl, TS.row HTSd.out H6d.out hg6, KF.row HKF.out h6w (Nat.le_of_lt hgw)⟩
    rw [List.size_toArray, HRl.out]; kernel_rfl

set_option maxHeartbeats 8000000 in
set_option maxRecDepth 100000 in
theorem key_tab_eq (g : Nat) (seed : List UInt8) (a b : Int) (x : Nat) (hwa : IntKind.u16.wrap a = (x : Int)) (hwb : IntKind.u16.wrap b = (x : Int)) (hx : x < 65536) (w : World) (ht : Tab w) (h : TS w g seed) (hs : seed.length ≤ 1000000) :
    Calls Tryd.prog 19 #[.pointer (some ⟨g, 0, none⟩), .int .i64 a, .int .i64 b] w fun e w' => e = .returned (.agg (vs (keyB seed x x)).toArray) ∧ TS w' g seed ∧ KF g w w' := by
  obtain ⟨m, As, ns, cs, hb, hsd, hnc, hcm, hm⟩ := h
  have hgw := hb.lt
  have HT := Lib.hid ht
  obtain ⟨r, hr⟩ : ∃ r, r = vs (keyB seed x x) := ⟨_, rfl⟩
  have hrl : r.length = 32 := by rw [hr, vs_length, keyB_length]
  have hro : r.toArray.all (·.oneCell') = true := by rw [hr]; exact one_u8
  have hko : ∀ W, By W (fun k => k < g) As ns seed → Tab W → Calls Tryd.prog 38 #[.slice As ns cs, .agg #[.int .u16 (x : Int), .int .u16 (x : Int)]] W fun e w' => e = .returned (.agg r.toArray) ∧ Below W.heap.size W w' := fun W h1 h2 => by
    rw [hr]; exact keyOf_any _ seed x x hx hx As ns cs W h1 hnc hcm h2 (by rw [← hsd.len]; exact hs)
  have hkeep : ∀ W, TS W g seed → Calls Tryd.prog 39 #[.pointer (some ⟨g, 0, none⟩), .agg #[.int .u16 (x : Int), .int .u16 (x : Int)], .agg r.toArray] W fun e w' => e = .returned (.tuple #[]) ∧ TS w' g seed ∧ KF g W w' := fun W h => by
    rw [hr]; exact keep_any g seed x x W h
  have HKo := Lib.hid hko
  have HKeep := Lib.hid hkeep
  have HRl := Lib.hid hrl
  have HRo := Lib.hid hro
  have HB0 := Lib.hid hb
  have HSd := Lib.hid hsd
  have HM0 := Lib.hid hm
  have HRe := Lib.hid hr
  rw [← hr]
  clear hr hko hkeep hrl hro ht hb hsd hm
  go_enter Tryd.func19, Tryd.ntmps19
  go_wp2
  obtain ⟨wz, hwz⟩ : ∃ wz, wz = ((w.alloc (.cells (vs zero32).toArray 28)).alloc (.cells #[.int .u16 (x : Int), .int .u16 (x : Int)] 68)) := ⟨_, rfl⟩
  have hxz : Below w.heap.size w wz := by rw [hwz]; exact ((Below.refl _ w).alloc (Nat.le_refl _) _).alloc (by simp) _
  have hbz : Blk wz g 66 [.slice As ns cs, .map m] := HB0.out.through hxz
  have h6 : Blk wz w.heap.size 28 (vs zero32) := by rw [hwz]; exact (Blk.fresh rfl rfl).alloc _
  have h9 : Blk wz (w.heap.size + 1) 68 [.int .u16 (x : Int), .int .u16 (x : Int)] := by rw [hwz]; exact Blk.fresh (by simp) rfl
  have hmz := HM0.out.through hxz
  obtain ⟨v, ok, hlk, hvl, hok⟩ := run_lookup_two hmz x x
  obtain ⟨q, hq⟩ : ∃ q, q = vs v := ⟨_, rfl⟩
  have hql : q.length = 32 := by rw [hq, vs_length, hvl]; cases ok <;> simp [keyB_length]
  have hqo : q.toArray.all (·.oneCell') = true := by rw [hq]; exact one_u8
  have HLk : Hid (∀ W, Below wz.heap.size wz W → (Instr.lookup 64 (.map m) (.agg #[.int .u16 (x : Int), .int .u16 (x : Int)]) true).run Tryd.prog W = .ok (.tuple #[.agg q.toArray, .bool ok]) W) := Lib.hid (fun W hW => by rw [hq]; exact hlk W (map_keep hmz hW))
  have HOk : Hid (ok = true → q = r) := Lib.hid (fun e => by rw [hq, hok e, HRe.out])
  have HQl := Lib.hid hql
  have HQo := Lib.hid hqo
  have HXz := Lib.hid hxz
  have HB := Lib.hid hbz
  have HM := Lib.hid hmz
  have hgz := hbz.lt
  have h6z := h6.lt
  have h9z := h9.lt
  change Code.wp _ _ _ _ ((w.alloc (.cells (vs zero32).toArray 28)).alloc (.cells #[.int .u16 (x : Int), .int .u16 (x : Int)] 68))
  rw [← hwz]
  obtain ⟨b6, hb6⟩ : ∃ b6, b6 = w.heap.size := ⟨_, rfl⟩
  obtain ⟨b9, hb9⟩ : ∃ b9, b9 = w.heap.size + 1 := ⟨_, rfl⟩
  rw [← hb9] at h9 h9z
  rw [← hb9]
  rw [← hb6] at h6 h6z
  have hg6 : g < b6 := by rw [hb6]; exact hgw
  have h6w : w.heap.size ≤ b6 := by rw [hb6]; exact Nat.le_refl _
  have H6 := Lib.hid h6
  have H9 := Lib.hid h9
  clear hwz hxz hbz h6 h9 hmz hlk hvl hok hq hql hqo hb9
  rw [← hb6]
  clear hb6
  refine wp_region_held_drew (S := fun W => Blk W g 66 [.slice As ns cs, .map m] ∧ Blk W b9 68 [.int .u16 (x : Int), .int .u16 (x : Int)] ∧ Below wz.heap.size wz W) (by kernel_rfl) ⟨HB.out.drew, H9.out.drew, (Below.refl _ wz).drew⟩ (fun hHeld => ?_)
  change wpAnyH _ _ _ _ _ _ #[false, false, false, false, false, false, false, false, false, false, false, false] _ _
  refine wpAnyH_take (i := 0) (v := (.pointer (some ⟨g, 0, none⟩))) rfl (by kernel_rfl) (by kernel_rfl) (by kernel_rfl) (fun _ _ _ h => h) (Or.inl ⟨by kernel_rfl, fun w hSw => ?_⟩) (by assumption) ?_
  · (try dsimp only at hSw); go_simp <;> (try rfl)
  change wpAnyH _ _ _ _ _ _ _ (Act.put _ (some (28 : Nat)) (.pointer (some ⟨g, 0, none⟩))) _
  simp only [Act.put, List.setIfInBounds_toArray, List.set_cons_zero, List.set_cons_succ]
  refine wpAnyH_take (i := 1) (v := (.pointer (some ⟨g, 0, none⟩))) rfl (by kernel_rfl) (by kernel_rfl) (by kernel_rfl) (fun _ _ _ h => h) (Or.inl ⟨by kernel_rfl, fun w hSw => ?_⟩) (by assumption) ?_
  · (try dsimp only at hSw); go_simp <;> (try rfl)
  change wpAnyH _ _ _ _ _ _ _ (Act.put _ (some (29 : Nat)) (.pointer (some ⟨g, 0, none⟩))) _
  simp only [Act.put, List.setIfInBounds_toArray, List.set_cons_zero, List.set_cons_succ]
  refine wpAnyH_take (i := 2) (v := (.pointer (some ⟨g, 1, none⟩))) rfl (by kernel_rfl) (by kernel_rfl) (by kernel_rfl) (fun _ _ _ h => h) (Or.inl ⟨by kernel_rfl, fun w hSw => ?_⟩) (by assumption) ?_
  · (try dsimp only at hSw); go_simp <;> (try rfl)
  change wpAnyH _ _ _ _ _ _ _ (Act.put _ (some (30 : Nat)) (.pointer (some ⟨g, 1, none⟩))) _
  simp only [Act.put, List.setIfInBounds_toArray, List.set_cons_zero, List.set_cons_succ]
  refine wpAnyH_take (i := 3) (v := (.map m)) rfl (by kernel_rfl) (by kernel_rfl) (by kernel_rfl) (fun _ _ _ h => h) (yields_load_at (by kernel_rfl) 64 (.tmp 30) rfl (.pointer (some ⟨g, 1, none⟩)) (by simp [Act.eval]) (.map m) (fun W hW => load_map (hW.1.cellAt rfl))) (by assumption) ?_
  change wpAnyH _ _ _ _ _ _ _ (Act.put _ (some (31 : Nat)) (.map m)) _
  simp only [Act.put, List.setIfInBounds_toArray, List.set_cons_zero, List.set_cons_succ]
  refine wpAnyH_take (i := 4) (v := (.agg #[.int .u16 (x : Int), .int .u16 (x : Int)])) rfl (by kernel_rfl) (by kernel_rfl) (by kernel_rfl) (fun _ _ _ h => h) (yields_load_at (by kernel_rfl) 68 (.tmp 9) rfl (.pointer (some ⟨b9, 0, none⟩)) (by simp [Act.eval]) (.agg #[.int .u16 (x : Int), .int .u16 (x : Int)]) (fun W hW => hW.2.1.loadAt 68 _ Tryd.underlying68 rfl (by kernel_rfl))) (by assumption) ?_
  change wpAnyH _ _ _ _ _ _ _ (Act.put _ (some (32 : Nat)) (.agg #[.int .u16 (x : Int), .int .u16 (x : Int)])) _
  simp only [Act.put, List.setIfInBounds_toArray, List.set_cons_zero, List.set_cons_succ]
  refine wpAnyH_take (i := 5) (v := (.tuple #[.agg q.toArray, .bool ok])) rfl (by kernel_rfl) (by kernel_rfl) (by kernel_rfl) (fun _ _ _ h => h) (yields_lookup (by kernel_rfl) 64 (.tmp 31) (.tmp 32) rfl (.map m) (.agg #[.int .u16 (x : Int), .int .u16 (x : Int)]) (by simp [Act.eval]) (by simp [Act.eval]) (.tuple #[.agg q.toArray, .bool ok]) (fun W hW => HLk.out W hW.2.2)) (by assumption) ?_
  change wpAnyH _ _ _ _ _ _ _ (Act.put _ (some (33 : Nat)) (.tuple #[.agg q.toArray, .bool ok])) _
  simp only [Act.put, List.setIfInBounds_toArray, List.set_cons_zero, List.set_cons_succ]
  refine wpAnyH_take (i := 6) (v := (.tuple #[.agg q.toArray, .bool ok])) rfl (by kernel_rfl) (by kernel_rfl) (by kernel_rfl) (fun _ _ _ h => h) (Or.inl ⟨by kernel_rfl, fun w hSw => ?_⟩) (by assumption) ?_
  · (try dsimp only at hSw); go_simp <;> (try rfl)
  change wpAnyH _ _ _ _ _ _ _ (Act.put _ (some (27 : Nat)) (.tuple #[.agg q.toArray, .bool ok])) _
  simp only [Act.put, List.setIfInBounds_toArray, List.set_cons_zero, List.set_cons_succ]
  refine wpAnyH_take (i := 7) (v := (.agg q.toArray)) rfl (by kernel_rfl) (by kernel_rfl) (by kernel_rfl) (fun _ _ _ h => h) (Or.inl ⟨by kernel_rfl, fun w hSw => ?_⟩) (by assumption) ?_
  · (try dsimp only at hSw); go_simp <;> (try rfl)
  change wpAnyH _ _ _ _ _ _ _ (Act.put _ (some (34 : Nat)) (.agg q.toArray)) _
  simp only [Act.put, List.setIfInBounds_toArray, List.set_cons_zero, List.set_cons_succ]
  refine wpAnyH_take (i := 8) (v := (.bool ok)) rfl (by kernel_rfl) (by kernel_rfl) (by kernel_rfl) (fun _ _ _ h => h) (Or.inl ⟨by kernel_rfl, fun w hSw => ?_⟩) (by assumption) ?_
  · (try dsimp only at hSw); go_simp <;> (try rfl)
  change wpAnyH _ _ _ _ _ _ _ (Act.put _ (some (35 : Nat)) (.bool ok)) _
  simp only [Act.put, List.setIfInBounds_toArray, List.set_cons_zero, List.set_cons_succ]
  refine wpAnyH_ready (rs := [9]) (by kernel_rfl) (by simp) ?_
  refine AllReadyH.cons (o := ⟨some 10, .alloc 28, _, _, _, none⟩) rfl (fun K hK => ?_) AllReadyH.nil
  refine step_alloc (by kernel_rfl) 28 rfl _ _ (Tryd.alloc_tag _) ?_; have HB1 := Lib.hid (hHeld.1.alloc (.cells (vs (List.replicate 32 0)).toArray 28)); have H91 := Lib.hid (hHeld.2.1.alloc (.cells (vs (List.replicate 32 0)).toArray 28)); have HX1 := Lib.hid (hHeld.2.2.alloc hHeld.2.2.size (.cells (vs (List.replicate 32 0)).toArray 28))
  refine hK.out _ _ ⟨HB1.out, H91.out, HX1.out⟩ (fun hHeld1 => ?_)
  clear hHeld hK K
  have hHeld := hHeld1
  clear hHeld1
  change wpAnyH _ _ _ _ _ _ _ (Act.put _ (some (10 : Nat)) (.pointer (some ⟨_, 0, none⟩))) _
  simp only [Act.put, List.setIfInBounds_toArray, List.set_cons_zero, List.set_cons_succ]
  refine wpAnyH_ready (rs := [10]) (by kernel_rfl) (by simp) ?_
  refine AllReadyH.cons (o := ⟨none, .store 28 (.tmp 10) (.tmp 34), _, _, _, none⟩) rfl (fun K hK => ?_) AllReadyH.nil
  refine step_store_blk rfl 28 (.tmp 10) (.tmp 34) rfl wz.drew.heap.size q (by simp [Act.eval]) (by simp [Act.eval]) 28 (vs (List.replicate 32 0)) (Blk.fresh rfl rfl) (by rw [HQl.out]; kernel_rfl) (by rw [HQl.out]; rfl) HQo.out ?_; intro wa hba hoa; have HBa := Lib.hid (HB1.out.grown hoa (fun e => absurd (Option.some.inj e) (Nat.ne_of_lt hgz))); have H9a := Lib.hid (H91.out.grown hoa (fun e => absurd (Option.some.inj e) (Nat.ne_of_lt h9z))); have HXa := Lib.hid (HX1.out.grown hoa HX1.out.size (fun k hk => Option.some.inj hk ▸ Nat.le_refl _)); have HTa := Lib.hid hba; clear hba hoa
  refine hK.out _ _ ⟨HBa.out, H9a.out, HXa.out⟩ (fun hHeld1 => ?_)
  clear hHeld hK K
  have hHeld := hHeld1
  clear hHeld1
  change wpAnyH _ _ _ _ _ _ _ (Act.put _ none undef) _
  simp only [Act.put]
  refine wpAnyH_take (i := 11) (v := (.bool ok)) rfl (by kernel_rfl) (by kernel_rfl) (by kernel_rfl) (fun _ _ _ h => h) (Or.inl ⟨by kernel_rfl, fun w hSw => ?_⟩) (by assumption) ?_
  · (try dsimp only at hSw); go_simp <;> (try rfl)
  change wpAnyH _ _ _ _ _ _ _ (Act.put _ (some (11 : Nat)) (.bool ok)) _
  simp only [Act.put, List.setIfInBounds_toArray, List.set_cons_zero, List.set_cons_succ]
  refine wpAnyH_done (by kernel_rfl) ?_ _
  obtain ⟨b10, hb10⟩ : ∃ b10, b10 = wz.drew.heap.size := ⟨_, rfl⟩
  rw [← hb10] at HTa
  rw [← hb10]
  have hz10 : wz.heap.size = b10 := by rw [hb10]; rfl
  have h610 : b6 < b10 := by rw [← hz10]; exact h6z
  have hg10 : g < b10 := by rw [← hz10]; exact hgz
  have h910 : b9 < b10 := by rw [← hz10]; exact h9z
  have H6a := Lib.hid (H6.out.through HXa.out)
  have HMa := Lib.hid (HM.out.through HXa.out)
  have HXw := Lib.hid (HXz.out.trans (HXa.out.mono HXz.out.size))
  have HSda := Lib.hid (HSd.out.through HXw.out)
  have HTab := Lib.hid (HT.out.through HXw.out)
  clear hb10 hHeld HB1 H91 HX1
  cases ok with
  | true =>
    have hqv := HOk.out rfl
    have HQv := Lib.hid hqv
    clear hqv
    go_wp2_with (first
      | (refine wpList_load_blk rfl 28 (.tmp 10) rfl b10 rfl 28 q _ HTa.out Tryd.underlying28 rfl (by rw [HQl.out]; kernel_rfl) ?_)
      | (refine wpList_store_row rfl 28 (.tmp 6) (.tmp 48) rfl b6 q.toArray rfl rfl 28 (vs zero32).toArray H6a.out (by rw [List.size_toArray, HQl.out]; kernel_rfl) (by rw [List.size_toArray, List.size_toArray, HQl.out]; rfl) HQo.out ?_))
    refine bodyPost_ret (v := .agg q.toArray) (results_cell_row rfl _ _ b6 28 _ (0, 0) _ rfl (H6a.out.row _) Tryd.underlying28 rfl ?r1) rfl ⟨by rw [HQv.out], ⟨m, As, ns, cs, HBa.out.rowFar (Nat.ne_of_lt hg6) _, HSda.out.rowBy (fun k hk => Nat.ne_of_lt (Nat.lt_trans hk hg6)), hnc, hcm, map_row HMa.out H6a.out⟩, KF.row (KF.of_below (Nat.le_of_lt hgw) HXw.out) h6w (Nat.le_of_lt hgw)⟩
    rw [List.size_toArray, HQl.out]; kernel_rfl
  | false =>
    clear HOk
    go_wp2
    refine wp_region_held_drew (S := fun W => Blk W g 66 [.slice As ns cs, .map m] ∧ Blk W b9 68 [.int .u16 (x : Int), .int .u16 (x : Int)]) (by kernel_rfl) ⟨HBa.out.drew, H9a.out.drew⟩ (fun hHeld => ?_)
    change wpAnyH _ _ _ _ _ _ #[false, false, false, false, false, false, false] _ _
    refine wpAnyH_take (i := 0) (v := (.pointer (some ⟨g, 0, none⟩))) rfl (by kernel_rfl) (by kernel_rfl) (by kernel_rfl) (fun _ _ _ h => h) (Or.inl ⟨by kernel_rfl, fun w hSw => ?_⟩) (by assumption) ?_
    · (try dsimp only at hSw); go_simp <;> (try rfl)
    change wpAnyH _ _ _ _ _ _ _ (Act.put _ (some (38 : Nat)) (.pointer (some ⟨g, 0, none⟩))) _
    simp only [Act.put, List.setIfInBounds_toArray, List.set_cons_zero, List.set_cons_succ]
    refine wpAnyH_take (i := 1) (v := (.pointer (some ⟨g, 0, none⟩))) rfl (by kernel_rfl) (by kernel_rfl) (by kernel_rfl) (fun _ _ _ h => h) (Or.inl ⟨by kernel_rfl, fun w hSw => ?_⟩) (by assumption) ?_
    · (try dsimp only at hSw); go_simp <;> (try rfl)
    change wpAnyH _ _ _ _ _ _ _ (Act.put _ (some (39 : Nat)) (.pointer (some ⟨g, 0, none⟩))) _
    simp only [Act.put, List.setIfInBounds_toArray, List.set_cons_zero, List.set_cons_succ]
    refine wpAnyH_take (i := 2) (v := (.pointer (some ⟨g, 0, none⟩))) rfl (by kernel_rfl) (by kernel_rfl) (by kernel_rfl) (fun _ _ _ h => h) (Or.inl ⟨by kernel_rfl, fun w hSw => ?_⟩) (by assumption) ?_
    · (try dsimp only at hSw); go_simp <;> (try rfl)
    change wpAnyH _ _ _ _ _ _ _ (Act.put _ (some (40 : Nat)) (.pointer (some ⟨g, 0, none⟩))) _
    simp only [Act.put, List.setIfInBounds_toArray, List.set_cons_zero, List.set_cons_succ]
    refine wpAnyH_take (i := 3) (v := (.slice As ns cs)) rfl (by kernel_rfl) (by kernel_rfl) (by kernel_rfl) (fun _ _ _ h => h) (yields_load_at (by kernel_rfl) 22 (.tmp 40) rfl (.pointer (some ⟨g, 0, none⟩)) (by simp [Act.eval]) (.slice As ns cs) (fun W hW => load_slice (hW.1.cellAt rfl))) (by assumption) ?_
    change wpAnyH _ _ _ _ _ _ _ (Act.put _ (some (41 : Nat)) (.slice As ns cs)) _
    simp only [Act.put, List.setIfInBounds_toArray, List.set_cons_zero, List.set_cons_succ]
    refine wpAnyH_take (i := 4) (v := (.agg #[.int .u16 (x : Int), .int .u16 (x : Int)])) rfl (by kernel_rfl) (by kernel_rfl) (by kernel_rfl) (fun _ _ _ h => h) (yields_load_at (by kernel_rfl) 68 (.tmp 9) rfl (.pointer (some ⟨b9, 0, none⟩)) (by simp [Act.eval]) (.agg #[.int .u16 (x : Int), .int .u16 (x : Int)]) (fun W hW => hW.2.loadAt 68 _ Tryd.underlying68 rfl (by kernel_rfl))) (by assumption) ?_
    change wpAnyH _ _ _ _ _ _ _ (Act.put _ (some (42 : Nat)) (.agg #[.int .u16 (x : Int), .int .u16 (x : Int)])) _
    simp only [Act.put, List.setIfInBounds_toArray, List.set_cons_zero, List.set_cons_succ]
    refine wpAnyH_ready (rs := [5]) (by kernel_rfl) (by simp) ?_
    refine AllReadyH.cons rfl (fun K hK => ?_) AllReadyH.nil
    go_simp
    refine (HKo.out _ HSda.out.drew HTab.out.drew_).mono ?_
    rintro e wb ⟨rfl, hbb⟩; have HBb := Lib.hid (HBa.out.drew.through hbb); have H9b := Lib.hid (H9a.out.drew.through hbb); have HTb := Lib.hid (HTa.out.drew.through hbb); have H6b := Lib.hid (H6a.out.drew.through hbb); have HMb := Lib.hid (HMa.out.drew_.through hbb); have HXb := Lib.hid (HXw.out.drew.trans (hbb.mono HXw.out.size)); clear hbb
    go_wp2_with fail
    refine hK.out _ _ ⟨HBb.out, H9b.out⟩ (fun hHeld1 => ?_)
    clear hHeld hK K
    have hHeld := hHeld1
    clear hHeld1
    refine wpAnyH_ready (rs := [6]) (by kernel_rfl) (by simp) ?_
    refine AllReadyH.cons (o := ⟨none, .store 28 (.tmp 10) (.tmp 43), _, _, _, none⟩) rfl (fun K hK => ?_) AllReadyH.nil
    refine step_store_blk rfl 28 (.tmp 10) (.tmp 43) rfl b10 r (by simp [Act.eval]) (by simp [Act.eval]) 28 q HTb.out (by rw [HRl.out]; kernel_rfl) (by rw [HQl.out, HRl.out]) HRo.out ?_; intro wc hbc hoc; have HBc := Lib.hid (HBb.out.grown hoc (fun e => absurd (Option.some.inj e) (Nat.ne_of_lt hg10))); have H9c := Lib.hid (H9b.out.grown hoc (fun e => absurd (Option.some.inj e) (Nat.ne_of_lt h910))); have H6c := Lib.hid (H6b.out.grown hoc (fun e => absurd (Option.some.inj e) (Nat.ne_of_lt h610))); have HMc := Lib.hid (map_grown HMb.out HTb.out hoc); have HXc := Lib.hid (HXb.out.grown hoc HXb.out.size (fun k hk => Option.some.inj hk ▸ Nat.le_of_lt (Nat.lt_of_le_of_lt h6w h610))); have HTc := Lib.hid hbc; clear hbc hoc
    refine hK.out _ _ ⟨HBc.out, H9c.out⟩ (fun hHeld1 => ?_)
    clear hHeld hK K
    have hHeld := hHeld1
    clear hHeld1
    change wpAnyH _ _ _ _ _ _ _ (Act.put _ none undef) _
    simp only [Act.put]
    refine wpAnyH_done (by kernel_rfl) ?_ _
    have HTS : Hid (TS wc g seed) := Lib.hid ⟨m, As, ns, cs, HBc.out, HSd.out.through HXc.out, hnc, hcm, HMc.out⟩
    clear hHeld
    go_wp2_with (first
          | (refine wpList_load_blk rfl 68 (.tmp 9) rfl b9 rfl 68 [.int .u16 (x : Int), .int .u16 (x : Int)] _ H9c.out Tryd.underlying68 rfl (by kernel_rfl) ?_)
          | (refine wpList_load_blk rfl 28 (.tmp 10) rfl b10 rfl 28 r _ HTc.out Tryd.underlying28 rfl (by rw [HRl.out]; kernel_rfl) ?_)
          | (go_at_call 39; (with_reducible refine (HKeep.out _ HTS.out).mono ?_); rintro e wd ⟨rfl, hts, hkf⟩; have HTd := Lib.hid (hkf.blk HTc.out (Nat.ne_of_gt hg10)); have H6d := Lib.hid (hkf.blk H6c.out (Nat.ne_of_gt hg6)); have HTSd := Lib.hid hts; have HKF := Lib.hid ((KF.of_below (Nat.le_of_lt hgw) HXc.out).trans hkf); clear hts hkf)
          | (refine wpList_load_blk rfl 28 (.tmp 10) rfl b10 rfl 28 r _ HTd.out Tryd.underlying28 rfl (by rw [HRl.out]; kernel_rfl) ?_)
          | (refine wpList_store_row rfl 28 (.tmp 6) (.tmp 48) rfl b6 r.toArray rfl rfl 28 (vs zero32).toArray H6d.out (by rw [List.size_toArray, HRl.out]; kernel_rfl) (by rw [List.size_toArray, List.size_toArray, HRl.out]; rfl) HRo.out ?_))
    refine bodyPost_ret (v := .agg r.toArray) (results_cell_row rfl _ _ b6 28 _ (0, 0) _ rfl (H6d.out.row _) Tryd.underlying28 rfl ?r2) rfl ⟨rfl, TS.row HTSd.out H6d.out hg6, KF.row HKF.out h6w (Nat.le_of_lt hgw)⟩
    rw [List.size_toArray, HRl.out]; kernel_rfl

theorem key_tab (g : Nat) (seed : List UInt8) (a b : Int) (w : World) (ht : Tab w) (h : TS w g seed) (hs : seed.length ≤ 1000000) :
    Calls Tryd.prog 19 #[.pointer (some ⟨g, 0, none⟩), .int .i64 a, .int .i64 b] w fun e w' => e = .returned (.agg (vs (keyAB seed a b)).toArray) ∧ TS w' g seed ∧ KF g w w' := by
  have hx := a16_lt a
  have hy := a16_lt b
  have hwa := u16_wrap a
  have hwb := u16_wrap b
  unfold keyAB
  rcases Nat.lt_trichotomy (a16 a) (a16 b) with h1 | h1 | h1
  · rw [Nat.min_eq_left (by omega), Nat.max_eq_right (by omega)]
    exact key_tab_lt g seed a b _ _ hwa hwb hx hy h1 w ht h hs
  · rw [← h1] at hwb ⊢
    rw [Nat.min_self, Nat.max_self]
    exact key_tab_eq g seed a b _ hwa hwb hx w ht h hs
  · rw [Nat.min_eq_right (by omega), Nat.max_eq_left (by omega)]
    exact key_tab_gt g seed a b _ _ hwa hwb hx hy h1 w ht h hs

end Go.Proofs.YtolildehdibpbaaDoor
