/-
  The program's keep: a key is kept in the table's map.
-/
import Derived.Test.YtolildehdibpbaaDoorTab
import Derived.Laws.Cover3
import Derived.WideLaws
import Derived.RegionTactic
import Derived.ChangeAlike
import Derived.StillTailTactics
import Derived.Deep.QuietTactic
import Derived.Outline
namespace Go.Proofs.YtolildehdibpbaaDoor
open Go.RowKit

theorem Tryd.make_map (w : World) : (Instr.makeMap 64 none).run Tryd.prog w = .ok (.map (some w.heap.size)) (w.alloc (.map #[] 0)) := by kernel_rfl


abbrev pairC (x y : Nat) : List Value := [.int .u16 (x : Int), .int .u16 (y : Int)]
theorem MapIs.drew_ {W : World} {g : Nat} {f : Nat → Nat → List UInt8} {m : Option Nat} (h : MapIs W g f m) : MapIs W.drew g f m := h
theorem map_at {W : World} {g r : Nat} {f : Nat → Nat → List UInt8} (h : MapIs W g f (some r)) : ∃ es ck, W.heap[r]? = some (.map es ck) := by
  obtain ⟨_, es, ck, hb, _⟩ := h r rfl
  exact ⟨es, ck, hb⟩
theorem keep_new {w wz : World} {g x y : Nat} {kq : List Value} {cs0 : List Value} (f : Nat → Nat → List UInt8) (hb : Blk w g 66 cs0)
    (hgz : (((w.alloc (.cells (pairC x y).toArray 68)).alloc (.cells kq.toArray 28)).alloc (.map #[] 0)).grownBy wz (some g)) :
    Blk wz w.heap.size 68 (pairC x y) ∧ Blk wz (w.heap.size + 1) 28 kq ∧ MapIs wz g f (some (w.heap.size + 1 + 1)) ∧ KF g w wz := by
  have hg := hb.lt
  have e4 : (some w.heap.size : Option Nat) ≠ some g := fun e => by have := Option.some.inj e; omega
  have e5 : (some (w.heap.size + 1) : Option Nat) ≠ some g := fun e => by have := Option.some.inj e; omega
  have er : (some (w.heap.size + 1 + 1) : Option Nat) ≠ some g := fun e => by have := Option.some.inj e; omega
  refine ⟨(((Blk.fresh rfl rfl).alloc _).alloc _).grown hgz e4, ((Blk.fresh (by simp) rfl).alloc _).grown hgz e5, fun r hr => ?_, ?_⟩
  · obtain rfl := Option.some.inj hr
    refine ⟨by omega, #[], 0, ?_, MapOk.empty⟩
    rw [hgz.block (w.heap.size + 1 + 1) (by simp) er]
    have h := heap_alloc_new ((w.alloc (.cells (pairC x y).toArray 68)).alloc (.cells kq.toArray 28)) (.map #[] 0)
    simpa using h
  · exact (KF.of_below (Nat.le_of_lt hg) ((((Below.refl _ w).alloc (Nat.le_refl _) _).alloc (by simp) _).alloc (by simp only [World.size_alloc]; omega) _)).trans (KF.self hgz (by simp only [World.size_alloc]; omega))
theorem keep_old {w : World} {g x y : Nat} {kq : List Value} {cs0 : List Value} {m : Option Nat} (f : Nat → Nat → List UInt8) (hb : Blk w g 66 cs0) (hm : MapIs w g f m) :
    Blk ((w.alloc (.cells (pairC x y).toArray 68)).alloc (.cells kq.toArray 28)) w.heap.size 68 (pairC x y) ∧ Blk ((w.alloc (.cells (pairC x y).toArray 68)).alloc (.cells kq.toArray 28)) (w.heap.size + 1) 28 kq ∧
    MapIs ((w.alloc (.cells (pairC x y).toArray 68)).alloc (.cells kq.toArray 28)) g f m ∧ KF g w ((w.alloc (.cells (pairC x y).toArray 68)).alloc (.cells kq.toArray 28)) := by
  have hg := hb.lt
  have hx : Below w.heap.size w ((w.alloc (.cells (pairC x y).toArray 68)).alloc (.cells kq.toArray 28)) := ((Below.refl _ w).alloc (Nat.le_refl _) _).alloc (by simp) _
  exact ⟨(Blk.fresh rfl rfl).alloc _, Blk.fresh (by simp) rfl, hm.through hx, KF.of_below (Nat.le_of_lt hg) hx⟩

set_option maxHeartbeats 4000000 in
set_option maxRecDepth 100000 in
theorem keep_none (g : Nat) (seed : List UInt8) (x y : Nat) (w : World) (h : TM w g seed none) :
    Calls Tryd.prog 39 #[.pointer (some ⟨g, 0, none⟩), two x y, .agg (vs (keyB seed x y)).toArray] w fun e w' => e = .returned (.tuple #[]) ∧ TS w' g seed ∧ KF g w w' := by
  obtain ⟨As, ns, cs, hb, hsd, hnc, hcm, hm⟩ := h
  have hg := hb.lt
  obtain ⟨kq, hkq⟩ : ∃ kq, kq = vs (keyB seed x y) := ⟨_, rfl⟩
  have hkl : kq.length = 32 := by rw [hkq, vs_length, keyB_length]
  have HKl := Lib.hid hkl
  have HKe : Hid (kq = vs (keyB seed x y)) := Lib.hid hkq
  have HB0 := Lib.hid hb
  have HSd := Lib.hid hsd
  have HM0 := Lib.hid hm
  have hq := fun (W : World) (m : Option Nat) => run_eql_map_nil (P := Tryd.prog) W 64 68 28 m Tryd.underlying64
  have hmk := Tryd.make_map
  have c1 : w.cell? ⟨g, 1, none⟩ = some (.map none) := hb.cellAt rfl
  rw [← hkq]
  clear hb hsd hkq hkl hm
  unfold two
  go_enter Tryd.func39, Tryd.ntmps39
  go_wp2_with (refine wpList_store_map rfl (.tmp 22) (.tmp 20) rfl g 1 rfl (some (w.heap.size + 1 + 1)) rfl 66 [.slice As ns cs, .map none] (((HB0.out.alloc _).alloc _).alloc _) (by simp) ?_; intro wz hbz hgz; obtain ⟨h4, h5, hmz, hfz⟩ := keep_new (keyB seed) HB0.out hgz; clear hgz)
  obtain ⟨r, hr⟩ : ∃ r, r = w.heap.size + 1 + 1 := ⟨_, rfl⟩
  rw [← hr] at hbz hmz
  rw [← hr]
  obtain ⟨b5, hb5⟩ : ∃ b5, b5 = w.heap.size + 1 := ⟨_, rfl⟩
  rw [← hb5] at h5
  rw [← hb5]
  obtain ⟨b4, hb4⟩ : ∃ b4, b4 = w.heap.size := ⟨_, rfl⟩
  rw [← hb4] at h4
  rw [← hb4]
  clear hr hb5 hb4
  have HB := Lib.hid hbz
  have H4 := Lib.hid h4
  have H5 := Lib.hid h5
  have HM := Lib.hid hmz
  have HFz := Lib.hid hfz
  clear hbz h4 h5 hmz hfz
  try dsimp only [Act.put]
  refine wp_region_held_drew (S := fun W => Blk W g 66 [.slice As ns cs, .map (some r)] ∧ Blk W b4 68 [.int .u16 (x : Int), .int .u16 (y : Int)] ∧ Blk W b5 28 kq) (by kernel_rfl) ⟨HB.out.drew, H4.out.drew, H5.out.drew⟩ (fun hHeld => ?_)
  change wpAnyH _ _ _ _ _ _ #[false, false, false, false, false, false, false] _ _
  refine wpAnyH_take (i := 0) (v := (.pointer (some ⟨g, 0, none⟩))) rfl (by kernel_rfl) (by kernel_rfl) (by kernel_rfl) (fun _ _ _ h => h) (Or.inl ⟨by kernel_rfl, fun w hSw => ?_⟩) (by assumption) ?_
  · (try dsimp only at hSw); go_simp <;> (try rfl)
  change wpAnyH _ _ _ _ _ _ _ (Act.put _ (some (23 : Nat)) (.pointer (some ⟨g, 0, none⟩))) _
  simp only [Act.put, List.setIfInBounds_toArray, List.set_cons_zero, List.set_cons_succ]
  refine wpAnyH_take (i := 1) (v := (.pointer (some ⟨g, 0, none⟩))) rfl (by kernel_rfl) (by kernel_rfl) (by kernel_rfl) (fun _ _ _ h => h) (Or.inl ⟨by kernel_rfl, fun w hSw => ?_⟩) (by assumption) ?_
  · (try dsimp only at hSw); go_simp <;> (try rfl)
  change wpAnyH _ _ _ _ _ _ _ (Act.put _ (some (24 : Nat)) (.pointer (some ⟨g, 0, none⟩))) _
  simp only [Act.put, List.setIfInBounds_toArray, List.set_cons_zero, List.set_cons_succ]
  refine wpAnyH_take (i := 2) (v := (.pointer (some ⟨g, 1, none⟩))) rfl (by kernel_rfl) (by kernel_rfl) (by kernel_rfl) (fun _ _ _ h => h) (Or.inl ⟨by kernel_rfl, fun w hSw => ?_⟩) (by assumption) ?_
  · (try dsimp only at hSw); go_simp <;> (try rfl)
  change wpAnyH _ _ _ _ _ _ _ (Act.put _ (some (25 : Nat)) (.pointer (some ⟨g, 1, none⟩))) _
  simp only [Act.put, List.setIfInBounds_toArray, List.set_cons_zero, List.set_cons_succ]
  refine wpAnyH_take (i := 3) (v := (.map (some r))) rfl (by kernel_rfl) (by kernel_rfl) (by kernel_rfl) (fun _ _ _ h => h) (yields_load_at (by kernel_rfl) 64 (.tmp 25) rfl (.pointer (some ⟨g, 1, none⟩)) (by simp [Act.eval]) (.map (some r)) (fun W hW => load_map (hW.1.cellAt rfl))) (by assumption) ?_
  change wpAnyH _ _ _ _ _ _ _ (Act.put _ (some (26 : Nat)) (.map (some r))) _
  simp only [Act.put, List.setIfInBounds_toArray, List.set_cons_zero, List.set_cons_succ]
  refine wpAnyH_take (i := 4) (v := (.agg #[.int .u16 (x : Int), .int .u16 (y : Int)])) rfl (by kernel_rfl) (by kernel_rfl) (by kernel_rfl) (fun _ _ _ h => h) (yields_load_at (by kernel_rfl) 68 (.tmp 4) rfl (.pointer (some ⟨b4, 0, none⟩)) (by simp [Act.eval]) (.agg #[.int .u16 (x : Int), .int .u16 (y : Int)]) (fun W hW => hW.2.1.loadAt 68 _ Tryd.underlying68 rfl (by kernel_rfl))) (by assumption) ?_
  change wpAnyH _ _ _ _ _ _ _ (Act.put _ (some (27 : Nat)) (.agg #[.int .u16 (x : Int), .int .u16 (y : Int)])) _
  simp only [Act.put, List.setIfInBounds_toArray, List.set_cons_zero, List.set_cons_succ]
  refine wpAnyH_take (i := 5) (v := (.agg kq.toArray)) rfl (by kernel_rfl) (by kernel_rfl) (by kernel_rfl) (fun _ _ _ h => h) (yields_load_at (by kernel_rfl) 28 (.tmp 5) rfl (.pointer (some ⟨b5, 0, none⟩)) (by simp [Act.eval]) (.agg kq.toArray) (fun W hW => hW.2.2.loadAt 28 _ Tryd.underlying28 rfl (by rw [HKl.out]; kernel_rfl))) (by assumption) ?_
  change wpAnyH _ _ _ _ _ _ _ (Act.put _ (some (28 : Nat)) (.agg kq.toArray)) _
  simp only [Act.put, List.setIfInBounds_toArray, List.set_cons_zero, List.set_cons_succ]
  refine wpAnyH_ready (rs := [6]) (by kernel_rfl) (by simp) ?_
  refine AllReadyH.cons (o := ⟨none, .mapUpdate 64 (.tmp 26) (.tmp 27) (.tmp 28), _, _, _, none⟩) rfl (fun K hK => ?_) AllReadyH.nil
  refine step_update_two (by kernel_rfl) (.tmp 26) (.tmp 27) (.tmp 28) rfl HM.out.drew_ x y (by simp [Act.eval]) (by simp [Act.eval, two]) (by simp [Act.eval]; exact HKe.out) ?_; intro wu hmu hgu; have HMu := Lib.hid hmu; have hmap := map_at HM.out; have HBu := Lib.hid (HB.out.drew.grown hgu (HB.out.drew.ne_map hmap)); have H4u := Lib.hid (H4.out.drew.grown hgu (H4.out.drew.ne_map hmap)); have H5u := Lib.hid (H5.out.drew.grown hgu (H5.out.drew.ne_map hmap)); have HFu := Lib.hid (HFz.out.drew.trans (KF.grown hgu (HM.out r rfl).1 hmap)); clear hmu hgu hmap
  refine hK.out _ _ ⟨HBu.out, H4u.out, H5u.out⟩ (fun hHeld1 => ?_)
  clear hHeld hK K
  have hHeld := hHeld1
  clear hHeld1
  change wpAnyH _ _ _ _ _ _ _ (Act.put _ none undef) _
  simp only [Act.put]
  refine wpAnyH_done (by kernel_rfl) ?_ _
  go_wp2
  exact bodyPost_end (v := .tuple #[]) (by kernel_rfl) rfl ⟨rfl, ⟨some r, As, ns, cs, HBu.out, HSd.out.kf HFu.out, hnc, hcm, HMu.out⟩, HFu.out⟩

set_option maxHeartbeats 4000000 in
set_option maxRecDepth 100000 in
theorem keep_full (g : Nat) (seed : List UInt8) (x y : Nat) (w : World) (r0 : Nat) (h : TM w g seed (some r0)) (hfull : ∀ es ck, w.heap[r0]? = some (.map es ck) → 121 ≤ es.size) :
    Calls Tryd.prog 39 #[.pointer (some ⟨g, 0, none⟩), two x y, .agg (vs (keyB seed x y)).toArray] w fun e w' => e = .returned (.tuple #[]) ∧ TS w' g seed ∧ KF g w w' := by
  obtain ⟨As, ns, cs, hb, hsd, hnc, hcm, hm⟩ := h
  have hg := hb.lt
  obtain ⟨kq, hkq⟩ : ∃ kq, kq = vs (keyB seed x y) := ⟨_, rfl⟩
  have hkl : kq.length = 32 := by rw [hkq, vs_length, keyB_length]
  have HKl := Lib.hid hkl
  have HKe : Hid (kq = vs (keyB seed x y)) := Lib.hid hkq
  have HB0 := Lib.hid hb
  have HSd := Lib.hid hsd
  have HM0 := Lib.hid hm
  have hq := fun (W : World) (m : Option Nat) => run_eql_map_nil (P := Tryd.prog) W 64 68 28 m Tryd.underlying64
  have hmk := Tryd.make_map
  have c1 : w.cell? ⟨g, 1, none⟩ = some (.map (some r0)) := hb.cellAt rfl
  obtain ⟨hgr, es, ck, hes, hok⟩ := hm r0 rfl
  have hr0 := (Array.getElem?_eq_some_iff.1 hes).1
  have hes2 : ((w.alloc (.cells (pairC x y).toArray 68)).alloc (.cells kq.toArray 28)).heap[r0]? = some (.map es ck) := (Below.heap_alloc _ _ r0 (by simp; omega)).trans ((Below.heap_alloc w _ r0 hr0).trans hes)
  have hlen := fun (ty : TypeId) => run_len_map (P := Tryd.prog) ((w.alloc (.cells (pairC x y).toArray 68)).alloc (.cells kq.toArray 28)) 64 ty r0 es ck (by kernel_rfl) hes2
  have hsz := hfull es ck hes
  simp only [pairC] at hlen
  have hsz2 : decide ((121 : Int) ≤ (es.size : Int)) = true := by simp; omega
  clear hes2 hes hok hfull hgr hr0
  rw [← hkq]
  clear hb hsd hkq hkl hm
  unfold two
  go_enter Tryd.func39, Tryd.ntmps39
  go_wp2_with (refine wpList_store_map rfl (.tmp 22) (.tmp 20) rfl g 1 rfl (some (w.heap.size + 1 + 1)) rfl 66 [.slice As ns cs, .map (some r0)] (((HB0.out.alloc _).alloc _).alloc _) (by simp) ?_; intro wz hbz hgz; obtain ⟨h4, h5, hmz, hfz⟩ := keep_new (keyB seed) HB0.out hgz; clear hgz)
  obtain ⟨r, hr⟩ : ∃ r, r = w.heap.size + 1 + 1 := ⟨_, rfl⟩
  rw [← hr] at hbz hmz
  rw [← hr]
  obtain ⟨b5, hb5⟩ : ∃ b5, b5 = w.heap.size + 1 := ⟨_, rfl⟩
  rw [← hb5] at h5
  rw [← hb5]
  obtain ⟨b4, hb4⟩ : ∃ b4, b4 = w.heap.size := ⟨_, rfl⟩
  rw [← hb4] at h4
  rw [← hb4]
  clear hr hb5 hb4
  have HB := Lib.hid hbz
  have H4 := Lib.hid h4
  have H5 := Lib.hid h5
  have HM := Lib.hid hmz
  have HFz := Lib.hid hfz
  clear hbz h4 h5 hmz hfz
  try dsimp only [Act.put]
  refine wp_region_held_drew (S := fun W => Blk W g 66 [.slice As ns cs, .map (some r)] ∧ Blk W b4 68 [.int .u16 (x : Int), .int .u16 (y : Int)] ∧ Blk W b5 28 kq) (by kernel_rfl) ⟨HB.out.drew, H4.out.drew, H5.out.drew⟩ (fun hHeld => ?_)
  change wpAnyH _ _ _ _ _ _ #[false, false, false, false, false, false, false] _ _
  refine wpAnyH_take (i := 0) (v := (.pointer (some ⟨g, 0, none⟩))) rfl (by kernel_rfl) (by kernel_rfl) (by kernel_rfl) (fun _ _ _ h => h) (Or.inl ⟨by kernel_rfl, fun w hSw => ?_⟩) (by assumption) ?_
  · (try dsimp only at hSw); go_simp <;> (try rfl)
  change wpAnyH _ _ _ _ _ _ _ (Act.put _ (some (23 : Nat)) (.pointer (some ⟨g, 0, none⟩))) _
  simp only [Act.put, List.setIfInBounds_toArray, List.set_cons_zero, List.set_cons_succ]
  refine wpAnyH_take (i := 1) (v := (.pointer (some ⟨g, 0, none⟩))) rfl (by kernel_rfl) (by kernel_rfl) (by kernel_rfl) (fun _ _ _ h => h) (Or.inl ⟨by kernel_rfl, fun w hSw => ?_⟩) (by assumption) ?_
  · (try dsimp only at hSw); go_simp <;> (try rfl)
  change wpAnyH _ _ _ _ _ _ _ (Act.put _ (some (24 : Nat)) (.pointer (some ⟨g, 0, none⟩))) _
  simp only [Act.put, List.setIfInBounds_toArray, List.set_cons_zero, List.set_cons_succ]
  refine wpAnyH_take (i := 2) (v := (.pointer (some ⟨g, 1, none⟩))) rfl (by kernel_rfl) (by kernel_rfl) (by kernel_rfl) (fun _ _ _ h => h) (Or.inl ⟨by kernel_rfl, fun w hSw => ?_⟩) (by assumption) ?_
  · (try dsimp only at hSw); go_simp <;> (try rfl)
  change wpAnyH _ _ _ _ _ _ _ (Act.put _ (some (25 : Nat)) (.pointer (some ⟨g, 1, none⟩))) _
  simp only [Act.put, List.setIfInBounds_toArray, List.set_cons_zero, List.set_cons_succ]
  refine wpAnyH_take (i := 3) (v := (.map (some r))) rfl (by kernel_rfl) (by kernel_rfl) (by kernel_rfl) (fun _ _ _ h => h) (yields_load_at (by kernel_rfl) 64 (.tmp 25) rfl (.pointer (some ⟨g, 1, none⟩)) (by simp [Act.eval]) (.map (some r)) (fun W hW => load_map (hW.1.cellAt rfl))) (by assumption) ?_
  change wpAnyH _ _ _ _ _ _ _ (Act.put _ (some (26 : Nat)) (.map (some r))) _
  simp only [Act.put, List.setIfInBounds_toArray, List.set_cons_zero, List.set_cons_succ]
  refine wpAnyH_take (i := 4) (v := (.agg #[.int .u16 (x : Int), .int .u16 (y : Int)])) rfl (by kernel_rfl) (by kernel_rfl) (by kernel_rfl) (fun _ _ _ h => h) (yields_load_at (by kernel_rfl) 68 (.tmp 4) rfl (.pointer (some ⟨b4, 0, none⟩)) (by simp [Act.eval]) (.agg #[.int .u16 (x : Int), .int .u16 (y : Int)]) (fun W hW => hW.2.1.loadAt 68 _ Tryd.underlying68 rfl (by kernel_rfl))) (by assumption) ?_
  change wpAnyH _ _ _ _ _ _ _ (Act.put _ (some (27 : Nat)) (.agg #[.int .u16 (x : Int), .int .u16 (y : Int)])) _
  simp only [Act.put, List.setIfInBounds_toArray, List.set_cons_zero, List.set_cons_succ]
  refine wpAnyH_take (i := 5) (v := (.agg kq.toArray)) rfl (by kernel_rfl) (by kernel_rfl) (by kernel_rfl) (fun _ _ _ h => h) (yields_load_at (by kernel_rfl) 28 (.tmp 5) rfl (.pointer (some ⟨b5, 0, none⟩)) (by simp [Act.eval]) (.agg kq.toArray) (fun W hW => hW.2.2.loadAt 28 _ Tryd.underlying28 rfl (by rw [HKl.out]; kernel_rfl))) (by assumption) ?_
  change wpAnyH _ _ _ _ _ _ _ (Act.put _ (some (28 : Nat)) (.agg kq.toArray)) _
  simp only [Act.put, List.setIfInBounds_toArray, List.set_cons_zero, List.set_cons_succ]
  refine wpAnyH_ready (rs := [6]) (by kernel_rfl) (by simp) ?_
  refine AllReadyH.cons (o := ⟨none, .mapUpdate 64 (.tmp 26) (.tmp 27) (.tmp 28), _, _, _, none⟩) rfl (fun K hK => ?_) AllReadyH.nil
  refine step_update_two (by kernel_rfl) (.tmp 26) (.tmp 27) (.tmp 28) rfl HM.out.drew_ x y (by simp [Act.eval]) (by simp [Act.eval, two]) (by simp [Act.eval]; exact HKe.out) ?_; intro wu hmu hgu; have HMu := Lib.hid hmu; have hmap := map_at HM.out; have HBu := Lib.hid (HB.out.drew.grown hgu (HB.out.drew.ne_map hmap)); have H4u := Lib.hid (H4.out.drew.grown hgu (H4.out.drew.ne_map hmap)); have H5u := Lib.hid (H5.out.drew.grown hgu (H5.out.drew.ne_map hmap)); have HFu := Lib.hid (HFz.out.drew.trans (KF.grown hgu (HM.out r rfl).1 hmap)); clear hmu hgu hmap
  refine hK.out _ _ ⟨HBu.out, H4u.out, H5u.out⟩ (fun hHeld1 => ?_)
  clear hHeld hK K
  have hHeld := hHeld1
  clear hHeld1
  change wpAnyH _ _ _ _ _ _ _ (Act.put _ none undef) _
  simp only [Act.put]
  refine wpAnyH_done (by kernel_rfl) ?_ _
  go_wp2
  exact bodyPost_end (v := .tuple #[]) (by kernel_rfl) rfl ⟨rfl, ⟨some r, As, ns, cs, HBu.out, HSd.out.kf HFu.out, hnc, hcm, HMu.out⟩, HFu.out⟩

set_option maxHeartbeats 4000000 in
set_option maxRecDepth 100000 in
theorem keep_room (g : Nat) (seed : List UInt8) (x y : Nat) (w : World) (r : Nat) (h : TM w g seed (some r)) (hfull : ∀ es ck, w.heap[r]? = some (.map es ck) → es.size < 121) :
    Calls Tryd.prog 39 #[.pointer (some ⟨g, 0, none⟩), two x y, .agg (vs (keyB seed x y)).toArray] w fun e w' => e = .returned (.tuple #[]) ∧ TS w' g seed ∧ KF g w w' := by
  obtain ⟨As, ns, cs, hb, hsd, hnc, hcm, hm⟩ := h
  have hg := hb.lt
  obtain ⟨kq, hkq⟩ : ∃ kq, kq = vs (keyB seed x y) := ⟨_, rfl⟩
  have hkl : kq.length = 32 := by rw [hkq, vs_length, keyB_length]
  have HKl := Lib.hid hkl
  have HKe : Hid (kq = vs (keyB seed x y)) := Lib.hid hkq
  have HB0 := Lib.hid hb
  have HSd := Lib.hid hsd
  have HM0 := Lib.hid hm
  have hq := fun (W : World) (m : Option Nat) => run_eql_map_nil (P := Tryd.prog) W 64 68 28 m Tryd.underlying64
  have hmk := Tryd.make_map
  have c1 : w.cell? ⟨g, 1, none⟩ = some (.map (some r)) := hb.cellAt rfl
  obtain ⟨hgr, es, ck, hes, hok⟩ := hm r rfl
  have hr := (Array.getElem?_eq_some_iff.1 hes).1
  have hes2 : ((w.alloc (.cells (pairC x y).toArray 68)).alloc (.cells kq.toArray 28)).heap[r]? = some (.map es ck) := (Below.heap_alloc _ _ r (by simp; omega)).trans ((Below.heap_alloc w _ r hr).trans hes)
  have hlen := fun (ty : TypeId) => run_len_map (P := Tryd.prog) ((w.alloc (.cells (pairC x y).toArray 68)).alloc (.cells kq.toArray 28)) 64 ty r es ck (by kernel_rfl) hes2
  have hsz := hfull es ck hes
  simp only [pairC] at hlen
  have hsz2 : decide ((121 : Int) ≤ (es.size : Int)) = false := by simp; omega
  obtain ⟨h4, h5, hmz, hfz⟩ := keep_old (x := x) (y := y) (kq := kq) (keyB seed) hb hm
  have hbz := (hb.alloc (.cells (pairC x y).toArray 68)).alloc (.cells kq.toArray 28)
  have H4' := Lib.hid h4
  have H5' := Lib.hid h5
  have HM' := Lib.hid hmz
  have HFz' := Lib.hid hfz
  have HB' := Lib.hid hbz
  clear hes2 hes hok hfull hgr hr h4 h5 hmz hfz hbz
  rw [← hkq]
  clear hb hsd hkq hkl hm
  unfold two
  go_enter Tryd.func39, Tryd.ntmps39
  go_wp2
  obtain ⟨wz, hwz⟩ : ∃ wz, wz = ((w.alloc (.cells (pairC x y).toArray 68)).alloc (.cells kq.toArray 28)) := ⟨_, rfl⟩
  have h4 := H4'.out
  have h5 := H5'.out
  have hmz := HM'.out
  have hfz := HFz'.out
  have hbz := HB'.out
  rw [← hwz] at h4 h5 hmz hfz hbz
  simp only [pairC] at hwz
  rw [← hwz]
  clear H4' H5' HM' HFz' HB' hwz
  obtain ⟨b5, hb5⟩ : ∃ b5, b5 = w.heap.size + 1 := ⟨_, rfl⟩
  rw [← hb5] at h5
  rw [← hb5]
  obtain ⟨b4, hb4⟩ : ∃ b4, b4 = w.heap.size := ⟨_, rfl⟩
  rw [← hb4] at h4
  rw [← hb4]
  clear hb5 hb4
  have HB := Lib.hid hbz
  have H4 := Lib.hid h4
  have H5 := Lib.hid h5
  have HM := Lib.hid hmz
  have HFz := Lib.hid hfz
  clear hbz h4 h5 hmz hfz
  try dsimp only [Act.put]
  refine wp_region_held_drew (S := fun W => Blk W g 66 [.slice As ns cs, .map (some r)] ∧ Blk W b4 68 [.int .u16 (x : Int), .int .u16 (y : Int)] ∧ Blk W b5 28 kq) (by kernel_rfl) ⟨HB.out.drew, H4.out.drew, H5.out.drew⟩ (fun hHeld => ?_)
  change wpAnyH _ _ _ _ _ _ #[false, false, false, false, false, false, false] _ _
  refine wpAnyH_take (i := 0) (v := (.pointer (some ⟨g, 0, none⟩))) rfl (by kernel_rfl) (by kernel_rfl) (by kernel_rfl) (fun _ _ _ h => h) (Or.inl ⟨by kernel_rfl, fun w hSw => ?_⟩) (by assumption) ?_
  · (try dsimp only at hSw); go_simp <;> (try rfl)
  change wpAnyH _ _ _ _ _ _ _ (Act.put _ (some (23 : Nat)) (.pointer (some ⟨g, 0, none⟩))) _
  simp only [Act.put, List.setIfInBounds_toArray, List.set_cons_zero, List.set_cons_succ]
  refine wpAnyH_take (i := 1) (v := (.pointer (some ⟨g, 0, none⟩))) rfl (by kernel_rfl) (by kernel_rfl) (by kernel_rfl) (fun _ _ _ h => h) (Or.inl ⟨by kernel_rfl, fun w hSw => ?_⟩) (by assumption) ?_
  · (try dsimp only at hSw); go_simp <;> (try rfl)
  change wpAnyH _ _ _ _ _ _ _ (Act.put _ (some (24 : Nat)) (.pointer (some ⟨g, 0, none⟩))) _
  simp only [Act.put, List.setIfInBounds_toArray, List.set_cons_zero, List.set_cons_succ]
  refine wpAnyH_take (i := 2) (v := (.pointer (some ⟨g, 1, none⟩))) rfl (by kernel_rfl) (by kernel_rfl) (by kernel_rfl) (fun _ _ _ h => h) (Or.inl ⟨by kernel_rfl, fun w hSw => ?_⟩) (by assumption) ?_
  · (try dsimp only at hSw); go_simp <;> (try rfl)
  change wpAnyH _ _ _ _ _ _ _ (Act.put _ (some (25 : Nat)) (.pointer (some ⟨g, 1, none⟩))) _
  simp only [Act.put, List.setIfInBounds_toArray, List.set_cons_zero, List.set_cons_succ]
  refine wpAnyH_take (i := 3) (v := (.map (some r))) rfl (by kernel_rfl) (by kernel_rfl) (by kernel_rfl) (fun _ _ _ h => h) (yields_load_at (by kernel_rfl) 64 (.tmp 25) rfl (.pointer (some ⟨g, 1, none⟩)) (by simp [Act.eval]) (.map (some r)) (fun W hW => load_map (hW.1.cellAt rfl))) (by assumption) ?_
  change wpAnyH _ _ _ _ _ _ _ (Act.put _ (some (26 : Nat)) (.map (some r))) _
  simp only [Act.put, List.setIfInBounds_toArray, List.set_cons_zero, List.set_cons_succ]
  refine wpAnyH_take (i := 4) (v := (.agg #[.int .u16 (x : Int), .int .u16 (y : Int)])) rfl (by kernel_rfl) (by kernel_rfl) (by kernel_rfl) (fun _ _ _ h => h) (yields_load_at (by kernel_rfl) 68 (.tmp 4) rfl (.pointer (some ⟨b4, 0, none⟩)) (by simp [Act.eval]) (.agg #[.int .u16 (x : Int), .int .u16 (y : Int)]) (fun W hW => hW.2.1.loadAt 68 _ Tryd.underlying68 rfl (by kernel_rfl))) (by assumption) ?_
  change wpAnyH _ _ _ _ _ _ _ (Act.put _ (some (27 : Nat)) (.agg #[.int .u16 (x : Int), .int .u16 (y : Int)])) _
  simp only [Act.put, List.setIfInBounds_toArray, List.set_cons_zero, List.set_cons_succ]
  refine wpAnyH_take (i := 5) (v := (.agg kq.toArray)) rfl (by kernel_rfl) (by kernel_rfl) (by kernel_rfl) (fun _ _ _ h => h) (yields_load_at (by kernel_rfl) 28 (.tmp 5) rfl (.pointer (some ⟨b5, 0, none⟩)) (by simp [Act.eval]) (.agg kq.toArray) (fun W hW => hW.2.2.loadAt 28 _ Tryd.underlying28 rfl (by rw [HKl.out]; kernel_rfl))) (by assumption) ?_
  change wpAnyH _ _ _ _ _ _ _ (Act.put _ (some (28 : Nat)) (.agg kq.toArray)) _
  simp only [Act.put, List.setIfInBounds_toArray, List.set_cons_zero, List.set_cons_succ]
  refine wpAnyH_ready (rs := [6]) (by kernel_rfl) (by simp) ?_
  refine AllReadyH.cons (o := ⟨none, .mapUpdate 64 (.tmp 26) (.tmp 27) (.tmp 28), _, _, _, none⟩) rfl (fun K hK => ?_) AllReadyH.nil
  refine step_update_two (by kernel_rfl) (.tmp 26) (.tmp 27) (.tmp 28) rfl HM.out.drew_ x y (by simp [Act.eval]) (by simp [Act.eval, two]) (by simp [Act.eval]; exact HKe.out) ?_; intro wu hmu hgu; have HMu := Lib.hid hmu; have hmap := map_at HM.out; have HBu := Lib.hid (HB.out.drew.grown hgu (HB.out.drew.ne_map hmap)); have H4u := Lib.hid (H4.out.drew.grown hgu (H4.out.drew.ne_map hmap)); have H5u := Lib.hid (H5.out.drew.grown hgu (H5.out.drew.ne_map hmap)); have HFu := Lib.hid (HFz.out.drew.trans (KF.grown hgu (HM.out r rfl).1 hmap)); clear hmu hgu hmap
  refine hK.out _ _ ⟨HBu.out, H4u.out, H5u.out⟩ (fun hHeld1 => ?_)
  clear hHeld hK K
  have hHeld := hHeld1
  clear hHeld1
  change wpAnyH _ _ _ _ _ _ _ (Act.put _ none undef) _
  simp only [Act.put]
  refine wpAnyH_done (by kernel_rfl) ?_ _
  go_wp2
  exact bodyPost_end (v := .tuple #[]) (by kernel_rfl) rfl ⟨rfl, ⟨some r, As, ns, cs, HBu.out, HSd.out.kf HFu.out, hnc, hcm, HMu.out⟩, HFu.out⟩

theorem keep_any (g : Nat) (seed : List UInt8) (x y : Nat) (w : World) (h : TS w g seed) :
    Calls Tryd.prog 39 #[.pointer (some ⟨g, 0, none⟩), two x y, .agg (vs (keyB seed x y)).toArray] w fun e w' => e = .returned (.tuple #[]) ∧ TS w' g seed ∧ KF g w w' := by
  obtain ⟨m, hm⟩ := h
  cases m with
  | none => exact keep_none g seed x y w hm
  | some r =>
    obtain ⟨es, ck, hes⟩ : ∃ es ck, w.heap[r]? = some (.map es ck) := by
      obtain ⟨_, _, _, _, _, _, _, hm⟩ := hm
      exact map_at hm
    by_cases hs : es.size < 121
    · exact keep_room g seed x y w r hm (fun es' ck' h' => by rw [hes] at h'; injection h' with h'; injection h' with h1 _; rw [← h1]; exact hs)
    · exact keep_full g seed x y w r hm (fun es' ck' h' => by rw [hes] at h'; injection h' with h'; injection h' with h1 _; rw [← h1]; omega)

end Go.Proofs.YtolildehdibpbaaDoor
