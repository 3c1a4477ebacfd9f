/-
  Add: whatever bytes, however many: they are added.
-/
import Derived.Test.YtolildehdibpbaaDoorHashW
import Derived.Test.YtolildehdibpbaaDoorSched
import Derived.Test.YtolildehdibpbaaDoorMix
import Derived.Deep.RegionLaw
import Derived.Deep.RegionHeld3
import Derived.Outline
namespace Go.Proofs.YtolildehdibpbaaDoor
open Go.RowKit

theorem Tab.only {w w' : World} {g : Nat} (h : Tab w) (ho : w.grownBy w' (some g)) (_h0 : 0 < g) (h1 : 1 < g) : Tab w' :=
  ⟨fun i hi => (World.cell?_of_block (a := ⟨0, i, none⟩) (ho.block _ h.lt.1 (fun e => by injection e with e; exact absurd (show 0 = g from e) (by omega)))).trans (h.1 i hi),
   fun i hi => (World.cell?_of_block (a := ⟨1, i, none⟩) (ho.block _ h.lt.2 (fun e => by injection e with e; exact absurd (show 1 = g from e) (by omega)))).trans (h.2 i hi)⟩

def lenV : Value → Nat
  | .slice _ n _ => n
  | _ => 0

theorem By.src {w : World} {Q : Nat → Prop} {A : Option Addr} {n k : Nat} {xs : List UInt8} (h : By w Q A n xs) (hn : 0 < n) : ∃ ad, A = some ad ∧ ∀ j v, (vs (xs.take k))[j]? = some v → w.cell? (ad.add j) = some v := by
  obtain ⟨g, o, e, _, hc⟩ := h.2 hn
  refine ⟨_, e, fun j v hv => ?_⟩
  rw [vs_get] at hv
  obtain ⟨x, hx, rfl⟩ := Option.map_eq_some_iff.1 hv
  rw [List.getElem?_take] at hx
  split at hx
  · have ea : (⟨g, o, none⟩ : Addr).add j = ⟨g, o + j, none⟩ := by unfold Addr.add; split <;> simp_all
    rw [ea]
    exact hc j x hx
  · cases hx
theorem By.cut {w : World} {Q : Nat → Prop} {A : Option Addr} {n k c : Nat} {xs : List UInt8} (h : By w Q A n xs) (hk : k ≤ n) (hc : n ≤ c) : By w Q (cutA A c k) (n - k) (xs.drop k) := h.drop hk hc

set_option maxHeartbeats 1000000 in
set_option maxRecDepth 100000 in
theorem add_any (g : Nat) (xs ys : List UInt8) (A : Option Addr) (n c : Nat) (w : World) (hby : By w (· ≠ g) A n ys) (hnc : n ≤ c) (hcm : c ≤ maxLen) (h : HS w g xs) (ht : Tab w) (hg0 : 0 < g) (hg1 : 1 < g)
    (hlen : xs.length + n ≤ 1099511627776) :
    Calls Tryd.prog 27 #[.pointer (some ⟨g, 0, none⟩), .slice A n c] w fun e w' => e = .returned (.tuple #[]) ∧ HS w' g (xs ++ ys) ∧ w.grownBy w' (some g) := by
  have HBy := Lib.hid hby
  have HH := Lib.hid h
  have HT := Lib.hid ht
  clear hby h ht
  have hylen : ys.length = n := HBy.out.len
  have HY := Lib.hid hylen
  clear hylen
  unfold maxLen at hcm
  go_enter Tryd.func27, Tryd.ntmps27
  go_wp2
  go_loopw [1] (fun b wr => ∃ (xs' zs : List UInt8) (A' : Option Addr) (m c' : Nat), b = .slice A' m c' ∧ xs' ++ zs = xs ++ ys ∧ m ≤ c' ∧ c' ≤ 9223372036854775807 ∧ By wr (· ≠ g) A' m zs ∧ HS wr g xs' ∧ w.grownBy wr (some g)) (fun b _ => lenV b)
  case atStart => exact ⟨xs, ys, A, n, c, rfl, rfl, hnc, hcm, HBy.out, HH.out, only_refl _ _⟩
  case round =>
    obtain ⟨xs', zs, A', m, c', rfl, hcat, hmc, hcm', hz, hh, ho⟩ := hrel
    by_cases hm : m = 0
    · subst hm
      obtain rfl : zs = [] := List.eq_nil_of_length_eq_zero hz.len
      rw [List.append_nil] at hcat
      rw [hcat] at hh
      have H1 := Lib.hid hh
      have H2 := Lib.hid ho
      clear hcat hz hh ho
      go_wp2
      go_end0
      exact ⟨rfl, H1.out, H2.out⟩
    · obtain ⟨ad, pt, hblk, hok⟩ := hh
      have hzl : zs.length = m := hz.len
      have hL : xs'.length + m = xs.length + n := by
        have h := congrArg List.length hcat
        rw [List.length_append, List.length_append, hzl, HY.out] at h
        exact h
      obtain ⟨r, hr⟩ : ∃ r, r = xs'.length % 64 := ⟨_, rfl⟩
      obtain ⟨k, hk⟩ : ∃ k, k = Nat.min m (64 - r) := ⟨_, rfl⟩
      have hr64 : r < 64 := by omega
      have hkm : k ≤ m := by rw [hk]; exact Nat.min_le_left _ _
      have hkr : k ≤ 64 - r := by rw [hk]; exact Nat.min_le_right _ _
      have hk0 : 0 < k := by rw [hk]; exact Nat.lt_min.2 ⟨by omega, by omega⟩
      have hkl : (zs.take k).length = k := by rw [List.length_take]; omega
      obtain ⟨L, hLe⟩ : ∃ L, L = xs'.length := ⟨_, rfl⟩
      rw [← hLe] at hblk hr hL
      have hri : (L : Int) % 64 = (r : Int) := by omega
      have hrt : (L : Int).tmod 64 = (r : Int) := by rw [Int.tmod_eq_emod_of_nonneg (by omega)]; exact hri
      have hcl : wr.cell? ⟨g, 72, none⟩ = some (.int .i64 (L : Int)) := hblk.cellAt (hcs_len hok.1)
      have hsl := fun (W : World) => run_sliceArr_l (P := Tryd.prog) W 58 5 64 g 8 .i64 (r : Int) Tryd.underlying58 (by kernel_rfl) (by omega) (by omega)
      rw [Int.toNat_natCast] at hsl
      have hcut := fun (W : World) => run_cut (P := Tryd.prog) W 22 5 A' m c' .i64 k Tryd.underlying22 (by kernel_rfl) hkm
      have hpos : 0 < m := by omega
      have HSrc := Lib.hid (hz.src (k := k) hpos)
      have HCL := Lib.hid ((vs_length (zs.take k)).trans hkl)
      have HBlk := Lib.hid hblk
      have HOK := Lib.hid hok
      have HZ := Lib.hid hz
      have HO := Lib.hid ho
      have HCat := Lib.hid hcat
      have HK := Lib.hid hk
      have HR := Lib.hid hr
      have HLe := Lib.hid hLe
      have HKl := Lib.hid hkl
      have HZl := Lib.hid hzl
      have hone : ∀ v ∈ vs (zs.take k), v.oneCell' = true := vs_one
      have HOne := Lib.hid hone
      have hLb : L + k ≤ 1099511627776 := by omega
      clear hblk hok hz ho hcat hk hr hLe hkl hzl hm hL hone
      go_wp2
      go_region_law (refine step_copy_blk rfl (.tmp 18) (.tmp 19) 22 22 rfl 5 Tryd.underlying22 (by kernel_rfl) g (8 + r) (64 - r) (64 - r) A' m c' (by simp [Act.eval, Act.put]) (by simp [Act.eval, Act.put]) (hcs ad pt L) 77 HBlk.out (vs (zs.take k)) k HCL.out HK.out hk0 HSrc.out (by rw [hcs_length HOK.out.1]; omega) HOne.out ?_; intro w2 hb2 ho2)
      rw [hcs_splice HOK.out.1 r (zs.take k) (by rw [HKl.out]; omega)] at hb2
      have hpl : (splice pt r (zs.take k)).length = 64 := splice_length HOK.out.1 (by rw [HKl.out]; omega)
      obtain ⟨pt', hpt'⟩ : ∃ pt', pt' = splice pt r (zs.take k) := ⟨_, rfl⟩
      rw [← hpt'] at hb2 hpl
      have hc2 : w2.cell? ⟨g, 72, none⟩ = some (.int .i64 (L : Int)) := hb2.cellAt (hcs_len hpl)
      have hf2 : w2.frozen? ⟨g, 72, none⟩ = false := hb2.frozen _
      have hb3 := hb2.set_ 72 (.int .i64 ((L + k : Nat) : Int))
      rw [hcs_setLen hpl] at hb3
      have HB3 := Lib.hid hb3
      have HPT := Lib.hid hpt'
      have HPL := Lib.hid hpl
      have HO2 := Lib.hid ho2
      clear hpt' hpl ho2 hb2 hcl hb3
      by_cases hfull : r + k = 64
      · have hd : (((L : Int) + k) % 64 == 0) = true := by
          have : ((L : Int) + k) % 64 = 0 := by omega
          rw [this]; rfl
        go_wp2
        have hb3 := HB3.out
        rw [Int.natCast_add] at hb3
        have hfin := HOK.out.full (zs.take k) (by rw [HKl.out, ← HLe.out, ← HR.out]; exact hfull)
        rw [← HLe.out, ← HR.out, ← HPT.out] at hfin
        obtain ⟨nad, hnad⟩ : ∃ nad, nad = ad.plus (rounds (wds pt' 64) (first8.plus ad) 64) := ⟨_, rfl⟩
        rw [← hnad] at hfin
        obtain ⟨w3, hw3⟩ : ∃ w3, w3 = w2.setCell ⟨g, 72, none⟩ (.int .i64 ((L : Int) + k)) := ⟨_, rfl⟩
        rw [← hw3] at hb3 ⊢
        have ho3 : w.grownBy w3 (some g) := by rw [hw3]; exact only_trans HO.out (only_trans (only_drew _ _) (only_trans HO2.out (only_set _ _ _ _)))
        have hz3 : By w3 (· ≠ g) (cutA A' c' k) (m - k) (zs.drop k) := by rw [hw3]; exact (HZ.out.cut hkm hmc).only (only_trans (only_drew _ _) (only_trans HO2.out (only_set _ _ _ _)))
        have hT3 : Tab w3 := HT.out.only ho3 hg0 hg1
        obtain ⟨adA, hadA⟩ : ∃ adA, adA = ad.cells.toArray := ⟨_, rfl⟩
        obtain ⟨ptA, hptA⟩ : ∃ ptA, ptA = (vs pt').toArray := ⟨_, rfl⟩
        obtain ⟨wsA, hwsA⟩ : ∃ wsA, wsA = ((wds pt' 64).map c32).toArray := ⟨_, rfl⟩
        obtain ⟨nadA, hnadA⟩ : ∃ nadA, nadA = nad.cells.toArray := ⟨_, rfl⟩
        have hl0 : ∀ W, Below w3.heap.size w3 W → (Instr.loadAt 75 (.pointer (some ⟨g, 0, none⟩))).run Tryd.prog W = .ok (.agg adA) W := fun W hW => by
          rw [hadA]
          exact run_loadAt_mid W g 0 75 ad.cells _ (Blk.range (pre := []) (hb3.through hW)) Tryd.underlying75 rfl (by kernel_rfl)
        have hl8 : ∀ W, Below w3.heap.size w3 W → (Instr.loadAt 58 (.pointer (some ⟨g, 8, none⟩))).run Tryd.prog W = .ok (.agg ptA) W := fun W hW => by
          rw [hptA]
          exact run_loadAt_mid W g 8 58 (vs pt') _ (Blk.range (pre := ad.cells) (hb3.through hW)) Tryd.underlying58 rfl (by rw [vs_length, HPL.out]; kernel_rfl)
        have hst : ∀ W, Below w3.heap.size w3 W → (Instr.storeAt 75 (.pointer (some ⟨g, 0, none⟩)) (.agg nadA)).run Tryd.prog W = .ok () (W.setCells g 0 nadA.toList) := fun W hW => by
          rw [hnadA]
          exact run_storeAt_mid W g 0 75 _ (Blk.there (hb3.through hW) 0 _ (by rw [hcs_length HPL.out]; simp [S8.cells_length])) (by kernel_rfl) one_u32
        have hsch : ∀ W, Calls Tryd.prog 43 #[.agg ptA] W fun e w' => e = .returned (.agg wsA) ∧ Below W.heap.size W w' := fun W => by
          rw [hptA, hwsA]; exact schedule_any pt' HPL.out W
        have hmix : ∀ W, Below w3.heap.size w3 W → Calls Tryd.prog 42 #[.agg adA, .agg wsA] W fun e w' => e = .returned (.agg nadA) ∧ Below W.heap.size W w' := fun W hW => by
          rw [hadA, hwsA, hnadA, hnad]; exact mix_any ad (wds pt' 64) (wds_length _ _) W (hT3.through hW)
        have hb0 : Below w3.heap.size w3 w3.drew := (Below.refl _ _).drew
        have hks : ∀ W, Below w3.heap.size w3 W → w3.grownBy W (some g) ∧ (Instr.loadAt 58 (.pointer (some ⟨g, 8, none⟩))).run Tryd.prog W = .ok (.agg ptA) W := fun W hW => ⟨only_below hW, hl8 W hW⟩
        have hblk : ∀ W, Below w3.heap.size w3 W → Blk (W.setCells g 0 nadA.toList) g 77 (hcs nad pt' (L + k)) := fun W hW => by
          rw [hnadA]; exact HS.add (hb3.through hW) nad
        have hke : ∀ W, Below w3.heap.size w3 W → w3.grownBy (W.setCells g 0 nadA.toList) (some g) ∧ (Instr.loadAt 58 (.pointer (some ⟨g, 8, none⟩))).run Tryd.prog (W.setCells g 0 nadA.toList) = .ok (.agg ptA) (W.setCells g 0 nadA.toList) := fun W hW =>
          ⟨only_trans (only_below hW) (only_cells g _ 0 W), by
            rw [hptA]
            exact run_loadAt_mid _ g 8 58 (vs pt') _ (Blk.range (pre := nad.cells) (hblk W hW)) Tryd.underlying58 rfl (by rw [vs_length, HPL.out]; kernel_rfl)⟩
        have KS := Lib.hid hks
        have KE := Lib.hid hke
        have HBE := Lib.hid hblk
        clear hks hke hblk
        have HSch := Lib.hid hsch
        have HMix := Lib.hid hmix
        have HB3' := Lib.hid hb3
        have HNad := Lib.hid hnadA
        have HFin := Lib.hid hfin
        have HO3 := Lib.hid ho3
        have HZ3 := Lib.hid hz3
        have HL0 := Lib.hid hl0
        have HL8 := Lib.hid hl8
        have HSt := Lib.hid hst
        clear hl0 hl8 hst
        clear hsch hmix hb3 hfin hnad hw3 ho3 hz3 hT3 hadA hptA hwsA hnadA hfull
        refine wp_region_held_drew (S := fun W => w3.grownBy W (some g) ∧ (Instr.loadAt 58 (.pointer (some ⟨g, 8, none⟩))).run Tryd.prog W = .ok (.agg ptA) W) (by kernel_rfl) (KS.out _ hb0) (fun hHeld => ?_)
        change wpAnyH _ _ _ _ _ _ #[false, false, false, false, false, false, false, false, false, false, false, false, false, false] _ _
        refine wpAnyH_take (i := 0) (v := (.pointer (some ⟨g, 0, none⟩))) rfl (by kernel_rfl) (by kernel_rfl) (by kernel_rfl) (fun _ _ _ h => h) (Or.inl ⟨by kernel_rfl, fun w hSw => ?_⟩) (by assumption) ?_
        · (try dsimp only at hSw); go_simp
        change wpAnyH _ _ _ _ _ _ _ (Act.put _ (some (38 : Nat)) (.pointer (some ⟨g, 0, none⟩))) _
        simp only [Act.put, List.setIfInBounds_toArray, List.set_cons_zero, List.set_cons_succ]
        refine wpAnyH_take (i := 1) (v := (.pointer (some ⟨g, 0, none⟩))) rfl (by kernel_rfl) (by kernel_rfl) (by kernel_rfl) (fun _ _ _ h => h) (Or.inl ⟨by kernel_rfl, fun w hSw => ?_⟩) (by assumption) ?_
        · (try dsimp only at hSw); go_simp
        change wpAnyH _ _ _ _ _ _ _ (Act.put _ (some (39 : Nat)) (.pointer (some ⟨g, 0, none⟩))) _
        simp only [Act.put, List.setIfInBounds_toArray, List.set_cons_zero, List.set_cons_succ]
        refine wpAnyH_take (i := 2) (v := (.pointer (some ⟨g, 0, none⟩))) rfl (by kernel_rfl) (by kernel_rfl) (by kernel_rfl) (fun _ _ _ h => h) (Or.inl ⟨by kernel_rfl, fun w hSw => ?_⟩) (by assumption) ?_
        · (try dsimp only at hSw); go_simp
        change wpAnyH _ _ _ _ _ _ _ (Act.put _ (some (40 : Nat)) (.pointer (some ⟨g, 0, none⟩))) _
        simp only [Act.put, List.setIfInBounds_toArray, List.set_cons_zero, List.set_cons_succ]
        refine wpAnyH_take (i := 3) (v := (.pointer (some ⟨g, 0, none⟩))) rfl (by kernel_rfl) (by kernel_rfl) (by kernel_rfl) (fun _ _ _ h => h) (Or.inl ⟨by kernel_rfl, fun w hSw => ?_⟩) (by assumption) ?_
        · (try dsimp only at hSw); go_simp
        change wpAnyH _ _ _ _ _ _ _ (Act.put _ (some (41 : Nat)) (.pointer (some ⟨g, 0, none⟩))) _
        simp only [Act.put, List.setIfInBounds_toArray, List.set_cons_zero, List.set_cons_succ]
        refine wpAnyH_take (i := 5) (v := (.pointer (some ⟨g, 0, none⟩))) rfl (by kernel_rfl) (by kernel_rfl) (by kernel_rfl) (fun _ _ _ h => h) (Or.inl ⟨by kernel_rfl, fun w hSw => ?_⟩) (by assumption) ?_
        · (try dsimp only at hSw); go_simp
        change wpAnyH _ _ _ _ _ _ _ (Act.put _ (some (43 : Nat)) (.pointer (some ⟨g, 0, none⟩))) _
        simp only [Act.put, List.setIfInBounds_toArray, List.set_cons_zero, List.set_cons_succ]
        refine wpAnyH_take (i := 6) (v := (.pointer (some ⟨g, 0, none⟩))) rfl (by kernel_rfl) (by kernel_rfl) (by kernel_rfl) (fun _ _ _ h => h) (Or.inl ⟨by kernel_rfl, fun w hSw => ?_⟩) (by assumption) ?_
        · (try dsimp only at hSw); go_simp
        change wpAnyH _ _ _ _ _ _ _ (Act.put _ (some (44 : Nat)) (.pointer (some ⟨g, 0, none⟩))) _
        simp only [Act.put, List.setIfInBounds_toArray, List.set_cons_zero, List.set_cons_succ]
        refine wpAnyH_take (i := 7) (v := (.pointer (some ⟨g, 8, none⟩))) rfl (by kernel_rfl) (by kernel_rfl) (by kernel_rfl) (fun _ _ _ h => h) (Or.inl ⟨by kernel_rfl, fun w hSw => ?_⟩) (by assumption) ?_
        · (try dsimp only at hSw); go_simp
        change wpAnyH _ _ _ _ _ _ _ (Act.put _ (some (45 : Nat)) (.pointer (some ⟨g, 8, none⟩))) _
        simp only [Act.put, List.setIfInBounds_toArray, List.set_cons_zero, List.set_cons_succ]
        refine wpAnyH_take (i := 8) (v := (.agg ptA)) rfl (by kernel_rfl) (by kernel_rfl) (by kernel_rfl) (fun _ _ _ h => h) (yields_load_at (by kernel_rfl) 58 (.tmp 45) rfl (.pointer (some ⟨g, 8, none⟩)) (by simp [Act.eval]) (.agg ptA) (fun W hW => hW.2)) (by assumption) ?_
        change wpAnyH _ _ _ _ _ _ _ (Act.put _ (some (46 : Nat)) (.agg ptA)) _
        simp only [Act.put, List.setIfInBounds_toArray, List.set_cons_zero, List.set_cons_succ]
        refine wpAnyH_ready (rs := [4, 9]) (by kernel_rfl) (by simp) ?_
        refine AllReadyH.cons (o := ⟨some 42, .load 75 (.tmp 41), _, _, _, none⟩) rfl (fun K hK => ?_) (AllReadyH.cons rfl (fun K hK => ?_) AllReadyH.nil)
        · refine step_load_at rfl 75 (.tmp 41) rfl (.pointer (some ⟨g, 0, none⟩)) (by simp [Act.eval]) (.agg adA) (HL0.out _ hb0) ?_
          refine hK.out _ _ (KS.out _ hb0) (fun hHeld1 => ?_)
          clear hHeld hK K
          have hHeld := hHeld1
          clear hHeld1
          change wpAnyH _ _ _ _ _ _ _ (Act.put _ (some (42 : Nat)) (.agg adA)) _
          simp only [Act.put, List.setIfInBounds_toArray, List.set_cons_zero, List.set_cons_succ]
          refine wpAnyH_ready (rs := [9]) (by kernel_rfl) (by simp) ?_
          refine AllReadyH.cons rfl (fun K hK => ?_) AllReadyH.nil
          go_simp
          refine (HSch.out _).mono ?_
          rintro e w4 ⟨rfl, hb4⟩; have HB4 := Lib.hid (below_step hb0 hb4); clear hb4
          go_wp2_with fail
          refine hK.out _ _ (KS.out _ HB4.out) (fun hHeld1 => ?_)
          clear hHeld hK K
          have hHeld := hHeld1
          clear hHeld1
          refine wpAnyH_ready (rs := [10]) (by kernel_rfl) (by simp) ?_
          refine AllReadyH.cons rfl (fun K hK => ?_) AllReadyH.nil
          go_simp
          refine (HMix.out _ HB4.out).mono ?_
          rintro e w5 ⟨rfl, hb5⟩; have HB5 := Lib.hid (below_step HB4.out hb5); clear hb5
          go_wp2_with fail
          refine hK.out _ _ (KS.out _ HB5.out) (fun hHeld1 => ?_)
          clear hHeld hK K
          have hHeld := hHeld1
          clear hHeld1
          refine wpAnyH_take (i := 11) (v := (.pointer (some ⟨g, 0, none⟩))) rfl (by kernel_rfl) (by kernel_rfl) (by kernel_rfl) (fun _ _ _ h => h) (Or.inl ⟨by kernel_rfl, fun w hSw => ?_⟩) (by assumption) ?_
          · (try dsimp only at hSw); go_simp
          change wpAnyH _ _ _ _ _ _ _ (Act.put _ (some (49 : Nat)) (.pointer (some ⟨g, 0, none⟩))) _
          simp only [Act.put, List.setIfInBounds_toArray, List.set_cons_zero, List.set_cons_succ]
          refine wpAnyH_take (i := 12) (v := (.pointer (some ⟨g, 0, none⟩))) rfl (by kernel_rfl) (by kernel_rfl) (by kernel_rfl) (fun _ _ _ h => h) (Or.inl ⟨by kernel_rfl, fun w hSw => ?_⟩) (by assumption) ?_
          · (try dsimp only at hSw); go_simp
          change wpAnyH _ _ _ _ _ _ _ (Act.put _ (some (50 : Nat)) (.pointer (some ⟨g, 0, none⟩))) _
          simp only [Act.put, List.setIfInBounds_toArray, List.set_cons_zero, List.set_cons_succ]
          refine wpAnyH_ready (rs := [13]) (by kernel_rfl) (by simp) ?_
          refine AllReadyH.cons (o := ⟨none, .store 75 (.tmp 50) (.tmp 48), _, _, _, none⟩) rfl (fun K hK => ?_) AllReadyH.nil
          refine step_store_at rfl 75 (.tmp 50) (.tmp 48) rfl (.pointer (some ⟨g, 0, none⟩)) (.agg nadA) (by simp [Act.eval]) (by simp [Act.eval]) _ (HSt.out _ HB5.out) ?_
          refine hK.out _ _ (KE.out _ HB5.out) (fun hHeld1 => ?_)
          clear hHeld hK K
          have hHeld := hHeld1
          clear hHeld1
          change wpAnyH _ _ _ _ _ _ _ (Act.put _ none undef) _
          simp only [Act.put]
          refine wpAnyH_done (by kernel_rfl) ?_ _
          go_wp2
          go_roundw
          case rel =>
            have ho5 := only_trans (only_below HB5.out) (only_cells g nadA.toList 0 _)
            refine ⟨xs' ++ zs.take k, zs.drop k, cutA A' c' k, m - k, c' - k, rfl, by rw [List.append_assoc, List.take_append_drop]; exact HCat.out, by omega, by omega, HZ3.out.only ho5, ⟨nad, pt', ?_, HFin.out⟩, only_trans HO3.out ho5⟩
            have h := HBE.out _ HB5.out
            rw [List.length_append, HKl.out, ← HLe.out]
            exact h
          case measure => simp only [lenV]; omega
        · go_simp
          refine (HSch.out _).mono ?_
          rintro e w4 ⟨rfl, hb4⟩; have HB4 := Lib.hid (below_step hb0 hb4); clear hb4
          go_wp2_with fail
          refine hK.out _ _ (KS.out _ HB4.out) (fun hHeld1 => ?_)
          clear hHeld hK K
          have hHeld := hHeld1
          clear hHeld1
          refine wpAnyH_ready (rs := [4]) (by kernel_rfl) (by simp) ?_
          refine AllReadyH.cons (o := ⟨some 42, .load 75 (.tmp 41), _, _, _, none⟩) rfl (fun K hK => ?_) AllReadyH.nil
          refine step_load_at rfl 75 (.tmp 41) rfl (.pointer (some ⟨g, 0, none⟩)) (by simp [Act.eval]) (.agg adA) (HL0.out _ HB4.out) ?_
          refine hK.out _ _ (KS.out _ HB4.out) (fun hHeld1 => ?_)
          clear hHeld hK K
          have hHeld := hHeld1
          clear hHeld1
          change wpAnyH _ _ _ _ _ _ _ (Act.put _ (some (42 : Nat)) (.agg adA)) _
          simp only [Act.put, List.setIfInBounds_toArray, List.set_cons_zero, List.set_cons_succ]
          refine wpAnyH_ready (rs := [10]) (by kernel_rfl) (by simp) ?_
          refine AllReadyH.cons rfl (fun K hK => ?_) AllReadyH.nil
          go_simp
          refine (HMix.out _ HB4.out).mono ?_
          rintro e w5 ⟨rfl, hb5⟩; have HB5 := Lib.hid (below_step HB4.out hb5); clear hb5
          go_wp2_with fail
          refine hK.out _ _ (KS.out _ HB5.out) (fun hHeld1 => ?_)
          clear hHeld hK K
          have hHeld := hHeld1
          clear hHeld1
          refine wpAnyH_take (i := 11) (v := (.pointer (some ⟨g, 0, none⟩))) rfl (by kernel_rfl) (by kernel_rfl) (by kernel_rfl) (fun _ _ _ h => h) (Or.inl ⟨by kernel_rfl, fun w hSw => ?_⟩) (by assumption) ?_
          · (try dsimp only at hSw); go_simp
          change wpAnyH _ _ _ _ _ _ _ (Act.put _ (some (49 : Nat)) (.pointer (some ⟨g, 0, none⟩))) _
          simp only [Act.put, List.setIfInBounds_toArray, List.set_cons_zero, List.set_cons_succ]
          refine wpAnyH_take (i := 12) (v := (.pointer (some ⟨g, 0, none⟩))) rfl (by kernel_rfl) (by kernel_rfl) (by kernel_rfl) (fun _ _ _ h => h) (Or.inl ⟨by kernel_rfl, fun w hSw => ?_⟩) (by assumption) ?_
          · (try dsimp only at hSw); go_simp
          change wpAnyH _ _ _ _ _ _ _ (Act.put _ (some (50 : Nat)) (.pointer (some ⟨g, 0, none⟩))) _
          simp only [Act.put, List.setIfInBounds_toArray, List.set_cons_zero, List.set_cons_succ]
          refine wpAnyH_ready (rs := [13]) (by kernel_rfl) (by simp) ?_
          refine AllReadyH.cons (o := ⟨none, .store 75 (.tmp 50) (.tmp 48), _, _, _, none⟩) rfl (fun K hK => ?_) AllReadyH.nil
          refine step_store_at rfl 75 (.tmp 50) (.tmp 48) rfl (.pointer (some ⟨g, 0, none⟩)) (.agg nadA) (by simp [Act.eval]) (by simp [Act.eval]) _ (HSt.out _ HB5.out) ?_
          refine hK.out _ _ (KE.out _ HB5.out) (fun hHeld1 => ?_)
          clear hHeld hK K
          have hHeld := hHeld1
          clear hHeld1
          change wpAnyH _ _ _ _ _ _ _ (Act.put _ none undef) _
          simp only [Act.put]
          refine wpAnyH_done (by kernel_rfl) ?_ _
          go_wp2
          go_roundw
          case rel =>
            have ho5 := only_trans (only_below HB5.out) (only_cells g nadA.toList 0 _)
            refine ⟨xs' ++ zs.take k, zs.drop k, cutA A' c' k, m - k, c' - k, rfl, by rw [List.append_assoc, List.take_append_drop]; exact HCat.out, by omega, by omega, HZ3.out.only ho5, ⟨nad, pt', ?_, HFin.out⟩, only_trans HO3.out ho5⟩
            have h := HBE.out _ HB5.out
            rw [List.length_append, HKl.out, ← HLe.out]
            exact h
          case measure => simp only [lenV]; omega
      · have hd : (((L : Int) + k) % 64 == 0) = false := by
          have : ((L : Int) + k) % 64 ≠ 0 := by omega
          simpa using this
        have HF := Lib.hid hfull
        clear hfull
        have hfin := HOK.out.part (zs.take k) (by have := HF.out; rw [HKl.out, ← HLe.out, ← HR.out]; omega)
        rw [← HLe.out, ← HR.out, ← HPT.out] at hfin
        have HFin := Lib.hid hfin
        clear hfin
        go_wp2
        go_roundw
        case rel =>
          have ho3 := only_trans (only_drew wr g) (only_trans HO2.out (only_set _ g 72 (.int .i64 ((L : Int) + k))))
          refine ⟨xs' ++ zs.take k, zs.drop k, cutA A' c' k, m - k, c' - k, rfl, by rw [List.append_assoc, List.take_append_drop]; exact HCat.out, by omega, by omega, (HZ.out.cut hkm hmc).only ho3, ⟨ad, pt', ?_, HFin.out⟩, only_trans HO.out ho3⟩
          have h := HB3.out
          rw [Int.natCast_add] at h
          rw [List.length_append, HKl.out, ← HLe.out]
          exact h
        case measure => simp only [lenV]; omega

end Go.Proofs.YtolildehdibpbaaDoor
