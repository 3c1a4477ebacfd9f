/-
  The step 'step' of an entry that is being done.
-/
import Derived.Test.YtfflkodgojiklaaGreatDoorCoF
namespace Go.Proofs.YtfflkodgojiklaaGreatDoor
open Go.RowKit

theorem Led.only {w w' : World} {g : Nat} (h : Led w) (hb : w.grownBy w' (some g)) (hg : 0 ≠ g) : Led w' := fun i hi => hb.cell (h i hi) (fun e => hg (Option.some.inj e))
theorem Led.ne {w : World} {g : Nat} {t : TypeId} {a b c : Value} {s : ByteArray} {r : List Value} (h : Led w) (hb : Blk w g t (a :: b :: c :: .string s :: r)) : 0 ≠ g := fun e => by
  have h3 := h 3 (by omega)
  rw [e] at h3
  have h4 : w.cell? ⟨g, 3, none⟩ = some (.string s) := hb.cellAt (i := 3) rfl
  rw [h4] at h3
  cases h3
theorem EV.ne_ {w : World} {g : Nat} {t : TypeId} {i : Int} {r : List Value} (h : EV w) (hb : Blk w g t (.int .i64 i :: r)) : g ≠ 1 := fun e => by
  obtain ⟨te, pe, h0⟩ := h
  rw [← e] at h0
  have h4 : w.cell? ⟨g, 0, none⟩ = some (.int .i64 i) := hb.cellAt (i := 0) rfl
  rw [h4] at h0
  cases h0

set_option maxHeartbeats 8000000 in
set_option maxRecDepth 100000 in
theorem dstep_any (y : Ey) (n : Int) (l : Lg) (A : Option Addr) (nn c : Nat) (B : Option Addr) (m d : Nat) (x : Lt) (o a : Int) (F : Option Addr) (k kc : Nat) (g : Nat) (w : World) (hB : Blk w g 61 [.int .i64 y.co.cl, .int .i64 y.co.sp, .int .i64 y.co.op, .string (ba y.co.lt), .int .i64 y.co.a, .int .i64 y.co.b, .string (ba y.co.tx), .int .u32 (y.ms : Int), .int .i64 n, .int .i64 l.sq, .int .i64 l.tt, .slice A nn c, .slice B m d, .string (ba x.nm), .int .i64 x.st, .int .i64 x.am, .int .i64 x.du, .string (ba x.po), .string (ba x.pa), .int .i64 o, .int .i64 a, .slice F k kc]) (hL : Led w) :
    Calls Tryz.prog 22 #[.pointer (some ⟨g, 0, none⟩)] w fun e w' => e = .returned (.int .i64 (stepL x y.co.op y.co.a y.co.b y.co.tx).2) ∧ w.grownBy w' (some g) ∧ Blk w' g 61 [.int .i64 y.co.cl, .int .i64 y.co.sp, .int .i64 y.co.op, .string (ba y.co.lt), .int .i64 y.co.a, .int .i64 y.co.b, .string (ba y.co.tx), .int .u32 (y.ms : Int), .int .i64 n, .int .i64 l.sq, .int .i64 l.tt, .slice A nn c, .slice B m d, .string (ba y.co.lt), .int .i64 (stepL x y.co.op y.co.a y.co.b y.co.tx).1.st, .int .i64 (stepL x y.co.op y.co.a y.co.b y.co.tx).1.am, .int .i64 (stepL x y.co.op y.co.a y.co.b y.co.tx).1.du, .string (ba (stepL x y.co.op y.co.a y.co.b y.co.tx).1.po), .string (ba (stepL x y.co.op y.co.a y.co.b y.co.tx).1.pa), .int .i64 o, .int .i64 a, .slice F k kc] := by
  have hf : ∀ W, Led W → Calls Tryz.prog 40 #[x.val, .int .i64 y.co.op, .int .i64 y.co.a, .int .i64 y.co.b, .string (ba y.co.tx)] W fun e w' => e = .returned (ltE (stepL x y.co.op y.co.a y.co.b y.co.tx)) ∧ Below W.heap.size W w' := fun W hW => step_any x y.co.op y.co.a y.co.b y.co.tx W hW
  obtain ⟨⟨z, r⟩, hr⟩ : ∃ r, stepL x y.co.op y.co.a y.co.b y.co.tx = r := ⟨_, rfl⟩
  rw [hr] at hf ⊢
  simp only at hf ⊢
  have hf2 : ∀ W, Led W → Calls Tryz.prog 40 #[.agg #[.string (ba x.nm), .int .i64 x.st, .int .i64 x.am, .int .i64 x.du, .string (ba x.po), .string (ba x.pa)], .int .i64 y.co.op, .int .i64 y.co.a, .int .i64 y.co.b, .string (ba y.co.tx)] W fun e w' => e = .returned (.tuple #[.agg #[.string (ba z.nm), .int .i64 z.st, .int .i64 z.am, .int .i64 z.du, .string (ba z.po), .string (ba z.pa)], .int .i64 r]) ∧ Below W.heap.size W w' := hf
  have HF := Lib.hid hf2
  have HNe := Lib.hid (hL.ne hB)
  have HLe := Lib.hid hL
  have HR0 : Hid (w.rangeAt g 0 [.int .i64 y.co.cl, .int .i64 y.co.sp, .int .i64 y.co.op, .string (ba y.co.lt), .int .i64 y.co.a, .int .i64 y.co.b, .string (ba y.co.tx)]) := Lib.hid (hB.mid [] _ [.int .u32 (y.ms : Int), .int .i64 n, .int .i64 l.sq, .int .i64 l.tt, .slice A nn c, .slice B m d, .string (ba x.nm), .int .i64 x.st, .int .i64 x.am, .int .i64 x.du, .string (ba x.po), .string (ba x.pa), .int .i64 o, .int .i64 a, .slice F k kc] 0 rfl rfl)
  have HB1 := Lib.hid (hB.alloc (.cells #[.int .i64 y.co.cl, .int .i64 y.co.sp, .int .i64 y.co.op, .string (ba y.co.lt), .int .i64 y.co.a, .int .i64 y.co.b, .string (ba y.co.tx)] 27))
  have HC1 : Hid (Blk (w.alloc (.cells #[.int .i64 y.co.cl, .int .i64 y.co.sp, .int .i64 y.co.op, .string (ba y.co.lt), .int .i64 y.co.a, .int .i64 y.co.b, .string (ba y.co.tx)] 27)) w.heap.size 27 [.int .i64 y.co.cl, .int .i64 y.co.sp, .int .i64 y.co.op, .string (ba y.co.lt), .int .i64 y.co.a, .int .i64 y.co.b, .string (ba y.co.tx)]) := Lib.hid (Blk.fresh rfl rfl)
  have HG1 := Lib.hid (World.grownBy_alloc w (.cells #[.int .i64 y.co.cl, .int .i64 y.co.sp, .int .i64 y.co.op, .string (ba y.co.lt), .int .i64 y.co.a, .int .i64 y.co.b, .string (ba y.co.tx)] 27) (some g))
  clear hf hf2 hB hL hr
  go_enter Tryz.func22, Tryz.ntmps22
  go_wp2_with (first
    | (refine wpList_load_mid rfl 27 (.tmp 9) rfl g 0 rfl [.int .i64 y.co.cl, .int .i64 y.co.sp, .int .i64 y.co.op, .string (ba y.co.lt), .int .i64 y.co.a, .int .i64 y.co.b, .string (ba y.co.tx)] _ HR0.out Tryz.underlying27 rfl (by kernel_rfl) ?_))
  try dsimp only [Act.put]
  refine wp_region_held_drew (S := fun W => w.grownBy W (some g) ∧ Blk W g 61 [.int .i64 y.co.cl, .int .i64 y.co.sp, .int .i64 y.co.op, .string (ba y.co.lt), .int .i64 y.co.a, .int .i64 y.co.b, .string (ba y.co.tx), .int .u32 (y.ms : Int), .int .i64 n, .int .i64 l.sq, .int .i64 l.tt, .slice A nn c, .slice B m d, .string (ba x.nm), .int .i64 x.st, .int .i64 x.am, .int .i64 x.du, .string (ba x.po), .string (ba x.pa), .int .i64 o, .int .i64 a, .slice F k kc] ∧ Blk W w.heap.size 27 [.int .i64 y.co.cl, .int .i64 y.co.sp, .int .i64 y.co.op, .string (ba y.co.lt), .int .i64 y.co.a, .int .i64 y.co.b, .string (ba y.co.tx)]) (by kernel_rfl) ⟨only_trans HG1.out (only_drew _ g), HB1.out.drew, HC1.out.drew⟩ (fun hHeld => ?_)
  change wpAnyH _ _ _ _ _ _ #[false, false, false, false, false, false, false, false, false, false, false, false, false, false, false, false, false, false, false] _ _
  refine wpAnyH_take (i := 0) (v := (.pointer (some ⟨g, 0, none⟩))) rfl (by kernel_rfl) (by kernel_rfl) (by kernel_rfl) (fun _ _ _ h => h) (Or.inl ⟨by kernel_rfl, fun w hSw => ?_⟩) (by assumption) ?_
  · (try dsimp only at hSw); go_simp <;> (try rfl)
  change wpAnyH _ _ _ _ _ _ _ (Act.put _ (some (12 : Nat)) (.pointer (some ⟨g, 0, none⟩))) _
  simp only [Act.put, List.setIfInBounds_toArray, List.set_cons_zero, List.set_cons_succ]
  refine wpAnyH_take (i := 1) (v := (.pointer (some ⟨g, 0, none⟩))) rfl (by kernel_rfl) (by kernel_rfl) (by kernel_rfl) (fun _ _ _ h => h) (Or.inl ⟨by kernel_rfl, fun w hSw => ?_⟩) (by assumption) ?_
  · (try dsimp only at hSw); go_simp <;> (try rfl)
  change wpAnyH _ _ _ _ _ _ _ (Act.put _ (some (13 : Nat)) (.pointer (some ⟨g, 0, none⟩))) _
  simp only [Act.put, List.setIfInBounds_toArray, List.set_cons_zero, List.set_cons_succ]
  refine wpAnyH_take (i := 2) (v := (.pointer (some ⟨g, 13, none⟩))) rfl (by kernel_rfl) (by kernel_rfl) (by kernel_rfl) (fun _ _ _ h => h) (Or.inl ⟨by kernel_rfl, fun w hSw => ?_⟩) (by assumption) ?_
  · (try dsimp only at hSw); go_simp <;> (try rfl)
  change wpAnyH _ _ _ _ _ _ _ (Act.put _ (some (14 : Nat)) (.pointer (some ⟨g, 13, none⟩))) _
  simp only [Act.put, List.setIfInBounds_toArray, List.set_cons_zero, List.set_cons_succ]
  refine wpAnyH_take (i := 3) (v := (.agg #[.string (ba x.nm), .int .i64 x.st, .int .i64 x.am, .int .i64 x.du, .string (ba x.po), .string (ba x.pa)])) rfl (by kernel_rfl) (by kernel_rfl) (by kernel_rfl) (fun _ _ _ h => h) (yieldsIf_load_mid (by kernel_rfl) 39 (.tmp 14) rfl g (13) (by simp [Act.eval]) [.string (ba x.nm), .int .i64 x.st, .int .i64 x.am, .int .i64 x.du, .string (ba x.po), .string (ba x.pa)] _ (fun W hW => hW.2.1.mid [.int .i64 y.co.cl, .int .i64 y.co.sp, .int .i64 y.co.op, .string (ba y.co.lt), .int .i64 y.co.a, .int .i64 y.co.b, .string (ba y.co.tx), .int .u32 (y.ms : Int), .int .i64 n, .int .i64 l.sq, .int .i64 l.tt, .slice A nn c, .slice B m d] _ [.int .i64 o, .int .i64 a, .slice F k kc] _ rfl rfl) Tryz.underlying39 rfl (by kernel_rfl)) (by assumption) ?_
  change wpAnyH _ _ _ _ _ _ _ (Act.put _ (some (15 : Nat)) (.agg #[.string (ba x.nm), .int .i64 x.st, .int .i64 x.am, .int .i64 x.du, .string (ba x.po), .string (ba x.pa)])) _
  simp only [Act.put, List.setIfInBounds_toArray, List.set_cons_zero, List.set_cons_succ]
  refine wpAnyH_take (i := 4) (v := (.pointer (some ⟨w.heap.size, 2, none⟩))) rfl (by kernel_rfl) (by kernel_rfl) (by kernel_rfl) (fun _ _ _ h => h) (Or.inl ⟨by kernel_rfl, fun w hSw => ?_⟩) (by assumption) ?_
  · (try dsimp only at hSw); go_simp <;> (try rfl)
  change wpAnyH _ _ _ _ _ _ _ (Act.put _ (some (16 : Nat)) (.pointer (some ⟨w.heap.size, 2, none⟩))) _
  simp only [Act.put, List.setIfInBounds_toArray, List.set_cons_zero, List.set_cons_succ]
  refine wpAnyH_take (i := 5) (v := (.int .i64 y.co.op)) rfl (by kernel_rfl) (by kernel_rfl) (by kernel_rfl) (fun _ _ _ h => h) (yields_load_at (by kernel_rfl) 3 (.tmp 16) rfl (.pointer (some ⟨w.heap.size, 2, none⟩)) (by simp [Act.eval]) (.int .i64 y.co.op) (fun W hW => load_one' (Tryz.agg_int _) (hW.2.2.cellAt rfl))) (by assumption) ?_
  change wpAnyH _ _ _ _ _ _ _ (Act.put _ (some (17 : Nat)) (.int .i64 y.co.op)) _
  simp only [Act.put, List.setIfInBounds_toArray, List.set_cons_zero, List.set_cons_succ]
  refine wpAnyH_take (i := 6) (v := (.pointer (some ⟨w.heap.size, 4, none⟩))) rfl (by kernel_rfl) (by kernel_rfl) (by kernel_rfl) (fun _ _ _ h => h) (Or.inl ⟨by kernel_rfl, fun w hSw => ?_⟩) (by assumption) ?_
  · (try dsimp only at hSw); go_simp <;> (try rfl)
  change wpAnyH _ _ _ _ _ _ _ (Act.put _ (some (18 : Nat)) (.pointer (some ⟨w.heap.size, 4, none⟩))) _
  simp only [Act.put, List.setIfInBounds_toArray, List.set_cons_zero, List.set_cons_succ]
  refine wpAnyH_take (i := 7) (v := (.int .i64 y.co.a)) rfl (by kernel_rfl) (by kernel_rfl) (by kernel_rfl) (fun _ _ _ h => h) (yields_load_at (by kernel_rfl) 2 (.tmp 18) rfl (.pointer (some ⟨w.heap.size, 4, none⟩)) (by simp [Act.eval]) (.int .i64 y.co.a) (fun W hW => load_one' (Tryz.agg_i64 _) (hW.2.2.cellAt rfl))) (by assumption) ?_
  change wpAnyH _ _ _ _ _ _ _ (Act.put _ (some (19 : Nat)) (.int .i64 y.co.a)) _
  simp only [Act.put, List.setIfInBounds_toArray, List.set_cons_zero, List.set_cons_succ]
  refine wpAnyH_take (i := 8) (v := (.pointer (some ⟨w.heap.size, 5, none⟩))) rfl (by kernel_rfl) (by kernel_rfl) (by kernel_rfl) (fun _ _ _ h => h) (Or.inl ⟨by kernel_rfl, fun w hSw => ?_⟩) (by assumption) ?_
  · (try dsimp only at hSw); go_simp <;> (try rfl)
  change wpAnyH _ _ _ _ _ _ _ (Act.put _ (some (20 : Nat)) (.pointer (some ⟨w.heap.size, 5, none⟩))) _
  simp only [Act.put, List.setIfInBounds_toArray, List.set_cons_zero, List.set_cons_succ]
  refine wpAnyH_take (i := 9) (v := (.int .i64 y.co.b)) rfl (by kernel_rfl) (by kernel_rfl) (by kernel_rfl) (fun _ _ _ h => h) (yields_load_at (by kernel_rfl) 2 (.tmp 20) rfl (.pointer (some ⟨w.heap.size, 5, none⟩)) (by simp [Act.eval]) (.int .i64 y.co.b) (fun W hW => load_one' (Tryz.agg_i64 _) (hW.2.2.cellAt rfl))) (by assumption) ?_
  change wpAnyH _ _ _ _ _ _ _ (Act.put _ (some (21 : Nat)) (.int .i64 y.co.b)) _
  simp only [Act.put, List.setIfInBounds_toArray, List.set_cons_zero, List.set_cons_succ]
  refine wpAnyH_take (i := 10) (v := (.pointer (some ⟨w.heap.size, 6, none⟩))) rfl (by kernel_rfl) (by kernel_rfl) (by kernel_rfl) (fun _ _ _ h => h) (Or.inl ⟨by kernel_rfl, fun w hSw => ?_⟩) (by assumption) ?_
  · (try dsimp only at hSw); go_simp <;> (try rfl)
  change wpAnyH _ _ _ _ _ _ _ (Act.put _ (some (22 : Nat)) (.pointer (some ⟨w.heap.size, 6, none⟩))) _
  simp only [Act.put, List.setIfInBounds_toArray, List.set_cons_zero, List.set_cons_succ]
  refine wpAnyH_take (i := 11) (v := (.string (ba y.co.tx))) rfl (by kernel_rfl) (by kernel_rfl) (by kernel_rfl) (fun _ _ _ h => h) (yields_load_at (by kernel_rfl) 9 (.tmp 22) rfl (.pointer (some ⟨w.heap.size, 6, none⟩)) (by simp [Act.eval]) (.string (ba y.co.tx)) (fun W hW => load_one' (Tryz.agg_str _) (hW.2.2.cellAt rfl))) (by assumption) ?_
  change wpAnyH _ _ _ _ _ _ _ (Act.put _ (some (23 : Nat)) (.string (ba y.co.tx))) _
  simp only [Act.put, List.setIfInBounds_toArray, List.set_cons_zero, List.set_cons_succ]
  refine wpAnyH_ready (rs := [12, 16]) (by kernel_rfl) (by simp) ?_
  refine AllReadyH.cons rfl (fun K hK => ?_) (AllReadyH.cons (o := ⟨some 4, .alloc 39, _, _, _, none⟩) rfl (fun K hK => ?_) AllReadyH.nil)
  · as_aux_lemma =>
    go_simp
    refine (HF.out _ (HLe.out.only hHeld.1 HNe.out)).mono ?_
    rintro e w5 ⟨rfl, hb5⟩; have HW5 := Lib.hid hb5; clear hb5
    go_wp2_with fail
    refine hK.out _ _ ⟨only_trans hHeld.1 (only_below HW5.out), hHeld.2.1.through HW5.out, hHeld.2.2.through HW5.out⟩ (fun hHeld1 => ?_)
    clear hHeld hK K
    have hHeld := hHeld1
    clear hHeld1
    refine wpAnyH_take (i := 13) (v := (.tuple #[.agg #[.string (ba z.nm), .int .i64 z.st, .int .i64 z.am, .int .i64 z.du, .string (ba z.po), .string (ba z.pa)], .int .i64 r])) rfl (by kernel_rfl) (by kernel_rfl) (by kernel_rfl) (fun _ _ _ h => h) (Or.inl ⟨by kernel_rfl, fun w hSw => ?_⟩) (by assumption) ?_
    · (try dsimp only at hSw); go_simp <;> (try rfl)
    change wpAnyH _ _ _ _ _ _ _ (Act.put _ (some (11 : Nat)) (.tuple #[.agg #[.string (ba z.nm), .int .i64 z.st, .int .i64 z.am, .int .i64 z.du, .string (ba z.po), .string (ba z.pa)], .int .i64 r])) _
    simp only [Act.put, List.setIfInBounds_toArray, List.set_cons_zero, List.set_cons_succ]
    refine wpAnyH_take (i := 14) (v := (.agg #[.string (ba z.nm), .int .i64 z.st, .int .i64 z.am, .int .i64 z.du, .string (ba z.po), .string (ba z.pa)])) rfl (by kernel_rfl) (by kernel_rfl) (by kernel_rfl) (fun _ _ _ h => h) (Or.inl ⟨by kernel_rfl, fun w hSw => ?_⟩) (by assumption) ?_
    · (try dsimp only at hSw); go_simp <;> (try rfl)
    change wpAnyH _ _ _ _ _ _ _ (Act.put _ (some (25 : Nat)) (.agg #[.string (ba z.nm), .int .i64 z.st, .int .i64 z.am, .int .i64 z.du, .string (ba z.po), .string (ba z.pa)])) _
    simp only [Act.put, List.setIfInBounds_toArray, List.set_cons_zero, List.set_cons_succ]
    refine wpAnyH_take (i := 15) (v := (.int .i64 r)) rfl (by kernel_rfl) (by kernel_rfl) (by kernel_rfl) (fun _ _ _ h => h) (Or.inl ⟨by kernel_rfl, fun w hSw => ?_⟩) (by assumption) ?_
    · (try dsimp only at hSw); go_simp <;> (try rfl)
    change wpAnyH _ _ _ _ _ _ _ (Act.put _ (some (26 : Nat)) (.int .i64 r)) _
    simp only [Act.put, List.setIfInBounds_toArray, List.set_cons_zero, List.set_cons_succ]
    refine wpAnyH_ready (rs := [16]) (by kernel_rfl) (by simp) ?_
    refine AllReadyH.cons (o := ⟨some 4, .alloc 39, _, _, _, none⟩) rfl (fun K hK => ?_) AllReadyH.nil
    refine step_alloc_lg rfl rfl (Tryz.alloc_lt' _) ?_; intro g3 w3 hq3 hb3 hw3; have HN3 : Hid (Blk w3 g3 39 [.string (ba []), .int .i64 0, .int .i64 0, .int .i64 0, .string (ba []), .string (ba [])]) := Lib.hid hb3; have HQ3 := Lib.hid hw3; have HJ : Hid (w.heap.size ≤ g3) := Lib.hid (Nat.le_trans hHeld.1.size hq3); clear hb3 hw3 hq3
    refine hK.out _ _ ⟨only_trans hHeld.1 (only_below HQ3.out), hHeld.2.1.through HQ3.out, hHeld.2.2.through HQ3.out⟩ (fun hHeld1 => ?_)
    clear hHeld hK K
    have hHeld := hHeld1
    clear hHeld1
    change wpAnyH _ _ _ _ _ _ _ (Act.put _ (some (4 : Nat)) (.pointer (some ⟨g3, 0, none⟩))) _
    simp only [Act.put, List.setIfInBounds_toArray, List.set_cons_zero, List.set_cons_succ]
    refine wpAnyH_ready (rs := [17]) (by kernel_rfl) (by simp) ?_
    refine AllReadyH.cons (o := ⟨none, .store 39 (.tmp 4) (.tmp 25), _, _, _, none⟩) rfl (fun K hK => ?_) AllReadyH.nil
    refine step_store_blk rfl 39 (.tmp 4) (.tmp 25) rfl g3 [.string (ba z.nm), .int .i64 z.st, .int .i64 z.am, .int .i64 z.du, .string (ba z.po), .string (ba z.pa)] rfl rfl 39 [.string (ba []), .int .i64 0, .int .i64 0, .int .i64 0, .string (ba []), .string (ba [])] HN3.out (by kernel_rfl) rfl (one6 _ _ _ _ _ _) ?_; intro w6 hb6 hg6; have HS6 : Hid (Blk w6 g3 39 [.string (ba z.nm), .int .i64 z.st, .int .i64 z.am, .int .i64 z.du, .string (ba z.po), .string (ba z.pa)]) := Lib.hid hb6; have HT6 := Lib.hid hg6; clear hb6 hg6
    refine hK.out _ _ ⟨only_new_ hHeld.1 HT6.out (HJ.out), hHeld.2.1.grown HT6.out (fun e => hHeld.2.1.ne_ HN3.out (by decide) (Option.some.inj e)), hHeld.2.2.grown HT6.out (fun e => hHeld.2.2.ne_ HN3.out (by decide) (Option.some.inj e))⟩ (fun hHeld1 => ?_)
    clear hHeld hK K
    have hHeld := hHeld1
    clear hHeld1
    change wpAnyH _ _ _ _ _ _ _ (Act.put _ none undef) _
    simp only [Act.put]
    refine wpAnyH_take (i := 18) (v := (.int .i64 r)) rfl (by kernel_rfl) (by kernel_rfl) (by kernel_rfl) (fun _ _ _ h => h) (Or.inl ⟨by kernel_rfl, fun w hSw => ?_⟩) (by assumption) ?_
    · (try dsimp only at hSw); go_simp <;> (try rfl)
    change wpAnyH _ _ _ _ _ _ _ (Act.put _ (some (5 : Nat)) (.int .i64 r)) _
    simp only [Act.put, List.setIfInBounds_toArray, List.set_cons_zero, List.set_cons_succ]
    refine wpAnyH_done (by kernel_rfl) ?_ _
    have HGe := Lib.hid hHeld.1
    have HBe := Lib.hid hHeld.2.1
    have c3 := hHeld.2.2.cellAt (i := 3) rfl
    clear hHeld
    go_wp2_with (first
  | (refine wpList_store_cell rfl 9 (.tmp 29) (.tmp 28) rfl g3 0 rfl (.string (ba y.co.lt)) rfl rfl rfl (fun w => by kernel_rfl) 39 [.string (ba z.nm), .int .i64 z.st, .int .i64 z.am, .int .i64 z.du, .string (ba z.po), .string (ba z.pa)] HS6.out (by simp) ?_; intro w7 hb7 hg7; have HS7 : Hid (Blk w7 g3 39 [.string (ba y.co.lt), .int .i64 z.st, .int .i64 z.am, .int .i64 z.du, .string (ba z.po), .string (ba z.pa)]) := Lib.hid hb7; have HB7 := Lib.hid (HBe.out.grown hg7 (fun e => HBe.out.ne_ HS6.out (by decide) (Option.some.inj e))); have HG7 := Lib.hid (only_new_ HGe.out hg7 HJ.out); clear hb7 hg7)
  | (refine wpList_load_blk rfl 39 (.tmp 4) rfl g3 rfl 39 [.string (ba y.co.lt), .int .i64 z.st, .int .i64 z.am, .int .i64 z.du, .string (ba z.po), .string (ba z.pa)] _ HS7.out Tryz.underlying39 rfl (by kernel_rfl) ?_)
  | (refine wpList_store_in rfl 39 (.tmp 33) (.tmp 31) rfl g 13 [.string (ba y.co.lt), .int .i64 z.st, .int .i64 z.am, .int .i64 z.du, .string (ba z.po), .string (ba z.pa)] rfl rfl 61 [.int .i64 y.co.cl, .int .i64 y.co.sp, .int .i64 y.co.op, .string (ba y.co.lt), .int .i64 y.co.a, .int .i64 y.co.b, .string (ba y.co.tx), .int .u32 (y.ms : Int), .int .i64 n, .int .i64 l.sq, .int .i64 l.tt, .slice A nn c, .slice B m d] [.string (ba x.nm), .int .i64 x.st, .int .i64 x.am, .int .i64 x.du, .string (ba x.po), .string (ba x.pa)] [.int .i64 o, .int .i64 a, .slice F k kc] HB7.out rfl (by kernel_rfl) rfl (one6 _ _ _ _ _ _) ?_; intro w9 hb9 hg9; have HB9 : Hid (Blk w9 g 61 [.int .i64 y.co.cl, .int .i64 y.co.sp, .int .i64 y.co.op, .string (ba y.co.lt), .int .i64 y.co.a, .int .i64 y.co.b, .string (ba y.co.tx), .int .u32 (y.ms : Int), .int .i64 n, .int .i64 l.sq, .int .i64 l.tt, .slice A nn c, .slice B m d, .string (ba y.co.lt), .int .i64 z.st, .int .i64 z.am, .int .i64 z.du, .string (ba z.po), .string (ba z.pa), .int .i64 o, .int .i64 a, .slice F k kc]) := Lib.hid hb9; have HG9 := Lib.hid (only_trans HG7.out hg9); clear hb9 hg9))
    go_ret
    exact ⟨(by first | trivial | exact ret_i64 rfl), HG9.out, HB9.out⟩
  · as_aux_lemma =>
    refine step_alloc_lg rfl rfl (Tryz.alloc_lt' _) ?_; intro g3 w3 hq3 hb3 hw3; have HN3 : Hid (Blk w3 g3 39 [.string (ba []), .int .i64 0, .int .i64 0, .int .i64 0, .string (ba []), .string (ba [])]) := Lib.hid hb3; have HQ3 := Lib.hid hw3; have HJ : Hid (w.heap.size ≤ g3) := Lib.hid (Nat.le_trans hHeld.1.size hq3); clear hb3 hw3 hq3
    refine hK.out _ _ ⟨only_trans hHeld.1 (only_below HQ3.out), hHeld.2.1.through HQ3.out, hHeld.2.2.through HQ3.out⟩ (fun hHeld1 => ?_)
    clear hHeld hK K
    have hHeld := hHeld1
    clear hHeld1
    change wpAnyH _ _ _ _ _ _ _ (Act.put _ (some (4 : Nat)) (.pointer (some ⟨g3, 0, none⟩))) _
    simp only [Act.put, List.setIfInBounds_toArray, List.set_cons_zero, List.set_cons_succ]
    refine wpAnyH_ready (rs := [12]) (by kernel_rfl) (by simp) ?_
    refine AllReadyH.cons rfl (fun K hK => ?_) AllReadyH.nil
    go_simp
    refine (HF.out _ (HLe.out.only hHeld.1 HNe.out)).mono ?_
    rintro e w5 ⟨rfl, hb5⟩; have HN3b := Lib.hid (HN3.out.through hb5); have HW5 := Lib.hid hb5; clear hb5
    go_wp2_with fail
    refine hK.out _ _ ⟨only_trans hHeld.1 (only_below HW5.out), hHeld.2.1.through HW5.out, hHeld.2.2.through HW5.out⟩ (fun hHeld1 => ?_)
    clear hHeld hK K
    have hHeld := hHeld1
    clear hHeld1
    refine wpAnyH_take (i := 13) (v := (.tuple #[.agg #[.string (ba z.nm), .int .i64 z.st, .int .i64 z.am, .int .i64 z.du, .string (ba z.po), .string (ba z.pa)], .int .i64 r])) rfl (by kernel_rfl) (by kernel_rfl) (by kernel_rfl) (fun _ _ _ h => h) (Or.inl ⟨by kernel_rfl, fun w hSw => ?_⟩) (by assumption) ?_
    · (try dsimp only at hSw); go_simp <;> (try rfl)
    change wpAnyH _ _ _ _ _ _ _ (Act.put _ (some (11 : Nat)) (.tuple #[.agg #[.string (ba z.nm), .int .i64 z.st, .int .i64 z.am, .int .i64 z.du, .string (ba z.po), .string (ba z.pa)], .int .i64 r])) _
    simp only [Act.put, List.setIfInBounds_toArray, List.set_cons_zero, List.set_cons_succ]
    refine wpAnyH_take (i := 14) (v := (.agg #[.string (ba z.nm), .int .i64 z.st, .int .i64 z.am, .int .i64 z.du, .string (ba z.po), .string (ba z.pa)])) rfl (by kernel_rfl) (by kernel_rfl) (by kernel_rfl) (fun _ _ _ h => h) (Or.inl ⟨by kernel_rfl, fun w hSw => ?_⟩) (by assumption) ?_
    · (try dsimp only at hSw); go_simp <;> (try rfl)
    change wpAnyH _ _ _ _ _ _ _ (Act.put _ (some (25 : Nat)) (.agg #[.string (ba z.nm), .int .i64 z.st, .int .i64 z.am, .int .i64 z.du, .string (ba z.po), .string (ba z.pa)])) _
    simp only [Act.put, List.setIfInBounds_toArray, List.set_cons_zero, List.set_cons_succ]
    refine wpAnyH_take (i := 15) (v := (.int .i64 r)) rfl (by kernel_rfl) (by kernel_rfl) (by kernel_rfl) (fun _ _ _ h => h) (Or.inl ⟨by kernel_rfl, fun w hSw => ?_⟩) (by assumption) ?_
    · (try dsimp only at hSw); go_simp <;> (try rfl)
    change wpAnyH _ _ _ _ _ _ _ (Act.put _ (some (26 : Nat)) (.int .i64 r)) _
    simp only [Act.put, List.setIfInBounds_toArray, List.set_cons_zero, List.set_cons_succ]
    refine wpAnyH_ready (rs := [17]) (by kernel_rfl) (by simp) ?_
    refine AllReadyH.cons (o := ⟨none, .store 39 (.tmp 4) (.tmp 25), _, _, _, none⟩) rfl (fun K hK => ?_) AllReadyH.nil
    refine step_store_blk rfl 39 (.tmp 4) (.tmp 25) rfl g3 [.string (ba z.nm), .int .i64 z.st, .int .i64 z.am, .int .i64 z.du, .string (ba z.po), .string (ba z.pa)] rfl rfl 39 [.string (ba []), .int .i64 0, .int .i64 0, .int .i64 0, .string (ba []), .string (ba [])] HN3b.out (by kernel_rfl) rfl (one6 _ _ _ _ _ _) ?_; intro w6 hb6 hg6; have HS6 : Hid (Blk w6 g3 39 [.string (ba z.nm), .int .i64 z.st, .int .i64 z.am, .int .i64 z.du, .string (ba z.po), .string (ba z.pa)]) := Lib.hid hb6; have HT6 := Lib.hid hg6; clear hb6 hg6
    refine hK.out _ _ ⟨only_new_ hHeld.1 HT6.out (HJ.out), hHeld.2.1.grown HT6.out (fun e => hHeld.2.1.ne_ HN3b.out (by decide) (Option.some.inj e)), hHeld.2.2.grown HT6.out (fun e => hHeld.2.2.ne_ HN3b.out (by decide) (Option.some.inj e))⟩ (fun hHeld1 => ?_)
    clear hHeld hK K
    have hHeld := hHeld1
    clear hHeld1
    change wpAnyH _ _ _ _ _ _ _ (Act.put _ none undef) _
    simp only [Act.put]
    refine wpAnyH_take (i := 18) (v := (.int .i64 r)) rfl (by kernel_rfl) (by kernel_rfl) (by kernel_rfl) (fun _ _ _ h => h) (Or.inl ⟨by kernel_rfl, fun w hSw => ?_⟩) (by assumption) ?_
    · (try dsimp only at hSw); go_simp <;> (try rfl)
    change wpAnyH _ _ _ _ _ _ _ (Act.put _ (some (5 : Nat)) (.int .i64 r)) _
    simp only [Act.put, List.setIfInBounds_toArray, List.set_cons_zero, List.set_cons_succ]
    refine wpAnyH_done (by kernel_rfl) ?_ _
    have HGe := Lib.hid hHeld.1
    have HBe := Lib.hid hHeld.2.1
    have c3 := hHeld.2.2.cellAt (i := 3) rfl
    clear hHeld
    go_wp2_with (first
  | (refine wpList_store_cell rfl 9 (.tmp 29) (.tmp 28) rfl g3 0 rfl (.string (ba y.co.lt)) rfl rfl rfl (fun w => by kernel_rfl) 39 [.string (ba z.nm), .int .i64 z.st, .int .i64 z.am, .int .i64 z.du, .string (ba z.po), .string (ba z.pa)] HS6.out (by simp) ?_; intro w7 hb7 hg7; have HS7 : Hid (Blk w7 g3 39 [.string (ba y.co.lt), .int .i64 z.st, .int .i64 z.am, .int .i64 z.du, .string (ba z.po), .string (ba z.pa)]) := Lib.hid hb7; have HB7 := Lib.hid (HBe.out.grown hg7 (fun e => HBe.out.ne_ HS6.out (by decide) (Option.some.inj e))); have HG7 := Lib.hid (only_new_ HGe.out hg7 HJ.out); clear hb7 hg7)
  | (refine wpList_load_blk rfl 39 (.tmp 4) rfl g3 rfl 39 [.string (ba y.co.lt), .int .i64 z.st, .int .i64 z.am, .int .i64 z.du, .string (ba z.po), .string (ba z.pa)] _ HS7.out Tryz.underlying39 rfl (by kernel_rfl) ?_)
  | (refine wpList_store_in rfl 39 (.tmp 33) (.tmp 31) rfl g 13 [.string (ba y.co.lt), .int .i64 z.st, .int .i64 z.am, .int .i64 z.du, .string (ba z.po), .string (ba z.pa)] rfl rfl 61 [.int .i64 y.co.cl, .int .i64 y.co.sp, .int .i64 y.co.op, .string (ba y.co.lt), .int .i64 y.co.a, .int .i64 y.co.b, .string (ba y.co.tx), .int .u32 (y.ms : Int), .int .i64 n, .int .i64 l.sq, .int .i64 l.tt, .slice A nn c, .slice B m d] [.string (ba x.nm), .int .i64 x.st, .int .i64 x.am, .int .i64 x.du, .string (ba x.po), .string (ba x.pa)] [.int .i64 o, .int .i64 a, .slice F k kc] HB7.out rfl (by kernel_rfl) rfl (one6 _ _ _ _ _ _) ?_; intro w9 hb9 hg9; have HB9 : Hid (Blk w9 g 61 [.int .i64 y.co.cl, .int .i64 y.co.sp, .int .i64 y.co.op, .string (ba y.co.lt), .int .i64 y.co.a, .int .i64 y.co.b, .string (ba y.co.tx), .int .u32 (y.ms : Int), .int .i64 n, .int .i64 l.sq, .int .i64 l.tt, .slice A nn c, .slice B m d, .string (ba y.co.lt), .int .i64 z.st, .int .i64 z.am, .int .i64 z.du, .string (ba z.po), .string (ba z.pa), .int .i64 o, .int .i64 a, .slice F k kc]) := Lib.hid hb9; have HG9 := Lib.hid (only_trans HG7.out hg9); clear hb9 hg9))
    go_ret
    exact ⟨(by first | trivial | exact ret_i64 rfl), HG9.out, HB9.out⟩


end Go.Proofs.YtfflkodgojiklaaGreatDoor
