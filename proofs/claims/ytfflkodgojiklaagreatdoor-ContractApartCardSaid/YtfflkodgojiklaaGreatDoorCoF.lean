/-
  The step 'find' of an entry that is being done.
-/
import Derived.Test.YtfflkodgojiklaaGreatDoorCoA
namespace Go.Proofs.YtfflkodgojiklaaGreatDoor
open Go.RowKit

theorem only_new_ {a b c : World} {g h : Nat} (hab : a.grownBy b (some g)) (hbc : b.grownBy c (some h)) (hh : a.heap.size ≤ h) : a.grownBy c (some g) := only_new hab hbc hh
theorem below_drew (w : World) : Below w.heap.size w w.drew := (Below.refl _ w).drew

set_option maxHeartbeats 8000000 in
set_option maxRecDepth 100000 in
theorem dfind_any (y : Ey) (n : Int) (l : Lg) (A : Option Addr) (nn c : Nat) (B : Option Addr) (m d : Nat) (x : Lt) (o a : Int) (F : Option Addr) (k kc : Nat) (g : Nat) (w : World) (hB : Blk w g 61 [.int .i64 y.co.cl, .int .i64 y.co.sp, .int .i64 y.co.op, .string (ba y.co.lt), .int .i64 y.co.a, .int .i64 y.co.b, .string (ba y.co.tx), .int .u32 (y.ms : Int), .int .i64 n, .int .i64 l.sq, .int .i64 l.tt, .slice A nn c, .slice B m d, .string (ba x.nm), .int .i64 x.st, .int .i64 x.am, .int .i64 x.du, .string (ba x.po), .string (ba x.pa), .int .i64 o, .int .i64 a, .slice F k kc]) (hL : LgIn w A nn B m l) (hn : nn ≤ 1000000) :
    Calls Tryz.prog 19 #[.pointer (some ⟨g, 0, none⟩)] w fun e w' => e = .returned (.int .i64 (if (findR (findL y.co.lt l.ls)).2 = false ∧ y.co.op ≠ 1 then 7 else 0)) ∧ w.grownBy w' (some g) ∧
      (¬ ((findR (findL y.co.lt l.ls)).2 = false ∧ y.co.op ≠ 1) → Blk w' g 61 [.int .i64 y.co.cl, .int .i64 y.co.sp, .int .i64 y.co.op, .string (ba y.co.lt), .int .i64 y.co.a, .int .i64 y.co.b, .string (ba y.co.tx), .int .u32 (y.ms : Int), .int .i64 n, .int .i64 l.sq, .int .i64 l.tt, .slice A nn c, .slice B m d, .string (ba (findR (findL y.co.lt l.ls)).1.nm), .int .i64 (findR (findL y.co.lt l.ls)).1.st, .int .i64 (findR (findL y.co.lt l.ls)).1.am, .int .i64 (findR (findL y.co.lt l.ls)).1.du, .string (ba (findR (findL y.co.lt l.ls)).1.po), .string (ba (findR (findL y.co.lt l.ls)).1.pa), .int .i64 o, .int .i64 a, .slice F k kc]) := by
  have HB := Lib.hid hB
  have HLd := Lib.hid (hL.through (below_drew w))
  have hf : ∀ W, LgIn W A nn B m l → Calls Tryz.prog 37 #[l.val A nn c B m d, .string (ba y.co.lt)] W fun e w' => e = .returned (.tuple #[.agg (findR (findL y.co.lt l.ls)).1.cells.toArray, .bool (findR (findL y.co.lt l.ls)).2]) ∧ Below W.heap.size W w' := fun W hW => find_any l y.co.lt A nn c B m d W hW hn
  obtain ⟨⟨z, bo⟩, hr⟩ : ∃ r, findR (findL y.co.lt l.ls) = r := ⟨_, rfl⟩
  rw [hr] at hf ⊢
  simp only at hf ⊢
  have hf2 : ∀ W, LgIn W A nn B m l → Calls Tryz.prog 37 #[.agg #[.int .i64 l.sq, .int .i64 l.tt, .slice A nn c, .slice B m d], .string (ba y.co.lt)] W fun e w' => e = .returned (.tuple #[.agg #[.string (ba z.nm), .int .i64 z.st, .int .i64 z.am, .int .i64 z.du, .string (ba z.po), .string (ba z.pa)], .bool bo]) ∧ Below W.heap.size W w' := hf
  have HF := Lib.hid hf2
  clear hf hf2 hB hL hr
  cases bo with
  | true =>
    rw [if_neg (by simp)]
    go_enter Tryz.func19, Tryz.ntmps19
    go_wp2
    try dsimp only [Act.put]
    refine wp_region_held_drew (S := fun W => w.grownBy W (some g) ∧ Blk W g 61 [.int .i64 y.co.cl, .int .i64 y.co.sp, .int .i64 y.co.op, .string (ba y.co.lt), .int .i64 y.co.a, .int .i64 y.co.b, .string (ba y.co.tx), .int .u32 (y.ms : Int), .int .i64 n, .int .i64 l.sq, .int .i64 l.tt, .slice A nn c, .slice B m d, .string (ba x.nm), .int .i64 x.st, .int .i64 x.am, .int .i64 x.du, .string (ba x.po), .string (ba x.pa), .int .i64 o, .int .i64 a, .slice F k kc]) (by kernel_rfl) ⟨only_drew w g, HB.out.drew⟩ (fun hHeld => ?_)
    change wpAnyH _ _ _ _ _ _ #[false, false, false, false, false, false, false, false, false, false, false, false, false, false, false, false, false] _ _
    refine wpAnyH_take (i := 0) (v := (.pointer (some ⟨g, 0, none⟩))) rfl (by kernel_rfl) (by kernel_rfl) (by kernel_rfl) (fun _ _ _ h => h) (Or.inl ⟨by kernel_rfl, fun w hSw => ?_⟩) (by assumption) ?_
    · (try dsimp only at hSw); go_simp <;> (try rfl)
    change wpAnyH _ _ _ _ _ _ _ (Act.put _ (some (6 : Nat)) (.pointer (some ⟨g, 0, none⟩))) _
    simp only [Act.put, List.setIfInBounds_toArray, List.set_cons_zero, List.set_cons_succ]
    refine wpAnyH_take (i := 1) (v := (.pointer (some ⟨g, 0, none⟩))) rfl (by kernel_rfl) (by kernel_rfl) (by kernel_rfl) (fun _ _ _ h => h) (Or.inl ⟨by kernel_rfl, fun w hSw => ?_⟩) (by assumption) ?_
    · (try dsimp only at hSw); go_simp <;> (try rfl)
    change wpAnyH _ _ _ _ _ _ _ (Act.put _ (some (7 : Nat)) (.pointer (some ⟨g, 0, none⟩))) _
    simp only [Act.put, List.setIfInBounds_toArray, List.set_cons_zero, List.set_cons_succ]
    refine wpAnyH_take (i := 2) (v := (.pointer (some ⟨g, 9, none⟩))) rfl (by kernel_rfl) (by kernel_rfl) (by kernel_rfl) (fun _ _ _ h => h) (Or.inl ⟨by kernel_rfl, fun w hSw => ?_⟩) (by assumption) ?_
    · (try dsimp only at hSw); go_simp <;> (try rfl)
    change wpAnyH _ _ _ _ _ _ _ (Act.put _ (some (8 : Nat)) (.pointer (some ⟨g, 9, none⟩))) _
    simp only [Act.put, List.setIfInBounds_toArray, List.set_cons_zero, List.set_cons_succ]
    refine wpAnyH_take (i := 3) (v := (.agg #[.int .i64 l.sq, .int .i64 l.tt, .slice A nn c, .slice B m d])) rfl (by kernel_rfl) (by kernel_rfl) (by kernel_rfl) (fun _ _ _ h => h) (yieldsIf_load_mid (by kernel_rfl) 25 (.tmp 8) rfl g (9) (by simp [Act.eval]) [.int .i64 l.sq, .int .i64 l.tt, .slice A nn c, .slice B m d] _ (fun W hW => hW.2.mid [.int .i64 y.co.cl, .int .i64 y.co.sp, .int .i64 y.co.op, .string (ba y.co.lt), .int .i64 y.co.a, .int .i64 y.co.b, .string (ba y.co.tx), .int .u32 (y.ms : Int), .int .i64 n] _ [.string (ba x.nm), .int .i64 x.st, .int .i64 x.am, .int .i64 x.du, .string (ba x.po), .string (ba x.pa), .int .i64 o, .int .i64 a, .slice F k kc] _ rfl rfl) Tryz.underlying25 rfl (by kernel_rfl)) (by assumption) ?_
    change wpAnyH _ _ _ _ _ _ _ (Act.put _ (some (9 : Nat)) (.agg #[.int .i64 l.sq, .int .i64 l.tt, .slice A nn c, .slice B m d])) _
    simp only [Act.put, List.setIfInBounds_toArray, List.set_cons_zero, List.set_cons_succ]
    refine wpAnyH_take (i := 4) (v := (.pointer (some ⟨g, 0, none⟩))) rfl (by kernel_rfl) (by kernel_rfl) (by kernel_rfl) (fun _ _ _ h => h) (Or.inl ⟨by kernel_rfl, fun w hSw => ?_⟩) (by assumption) ?_
    · (try dsimp only at hSw); go_simp <;> (try rfl)
    change wpAnyH _ _ _ _ _ _ _ (Act.put _ (some (10 : Nat)) (.pointer (some ⟨g, 0, none⟩))) _
    simp only [Act.put, List.setIfInBounds_toArray, List.set_cons_zero, List.set_cons_succ]
    refine wpAnyH_take (i := 5) (v := (.pointer (some ⟨g, 0, none⟩))) rfl (by kernel_rfl) (by kernel_rfl) (by kernel_rfl) (fun _ _ _ h => h) (Or.inl ⟨by kernel_rfl, fun w hSw => ?_⟩) (by assumption) ?_
    · (try dsimp only at hSw); go_simp <;> (try rfl)
    change wpAnyH _ _ _ _ _ _ _ (Act.put _ (some (11 : Nat)) (.pointer (some ⟨g, 0, none⟩))) _
    simp only [Act.put, List.setIfInBounds_toArray, List.set_cons_zero, List.set_cons_succ]
    refine wpAnyH_take (i := 6) (v := (.pointer (some ⟨g, 0, none⟩))) rfl (by kernel_rfl) (by kernel_rfl) (by kernel_rfl) (fun _ _ _ h => h) (Or.inl ⟨by kernel_rfl, fun w hSw => ?_⟩) (by assumption) ?_
    · (try dsimp only at hSw); go_simp <;> (try rfl)
    change wpAnyH _ _ _ _ _ _ _ (Act.put _ (some (12 : Nat)) (.pointer (some ⟨g, 0, none⟩))) _
    simp only [Act.put, List.setIfInBounds_toArray, List.set_cons_zero, List.set_cons_succ]
    refine wpAnyH_take (i := 7) (v := (.pointer (some ⟨g, 0, none⟩))) rfl (by kernel_rfl) (by kernel_rfl) (by kernel_rfl) (fun _ _ _ h => h) (Or.inl ⟨by kernel_rfl, fun w hSw => ?_⟩) (by assumption) ?_
    · (try dsimp only at hSw); go_simp <;> (try rfl)
    change wpAnyH _ _ _ _ _ _ _ (Act.put _ (some (13 : Nat)) (.pointer (some ⟨g, 0, none⟩))) _
    simp only [Act.put, List.setIfInBounds_toArray, List.set_cons_zero, List.set_cons_succ]
    refine wpAnyH_take (i := 8) (v := (.pointer (some ⟨g, 3, none⟩))) rfl (by kernel_rfl) (by kernel_rfl) (by kernel_rfl) (fun _ _ _ h => h) (Or.inl ⟨by kernel_rfl, fun w hSw => ?_⟩) (by assumption) ?_
    · (try dsimp only at hSw); go_simp <;> (try rfl)
    change wpAnyH _ _ _ _ _ _ _ (Act.put _ (some (14 : Nat)) (.pointer (some ⟨g, 3, none⟩))) _
    simp only [Act.put, List.setIfInBounds_toArray, List.set_cons_zero, List.set_cons_succ]
    refine wpAnyH_take (i := 9) (v := (.string (ba y.co.lt))) rfl (by kernel_rfl) (by kernel_rfl) (by kernel_rfl) (fun _ _ _ h => h) (yields_load_at (by kernel_rfl) 9 (.tmp 14) rfl (.pointer (some ⟨g, 3, none⟩)) (by simp [Act.eval]) (.string (ba y.co.lt)) (fun W hW => load_one' (Tryz.agg_str _) (hW.2.cellAt rfl))) (by assumption) ?_
    change wpAnyH _ _ _ _ _ _ _ (Act.put _ (some (15 : Nat)) (.string (ba y.co.lt))) _
    simp only [Act.put, List.setIfInBounds_toArray, List.set_cons_zero, List.set_cons_succ]
    refine wpAnyH_ready (rs := [10, 14]) (by kernel_rfl) (by simp) ?_
    refine AllReadyH.cons rfl (fun K hK => ?_) (AllReadyH.cons (o := ⟨some 3, .alloc 39, _, _, _, none⟩) rfl (fun K hK => ?_) AllReadyH.nil)
    · as_aux_lemma =>
      go_simp
      refine (HF.out _ HLd.out).mono ?_
      rintro e w5 ⟨rfl, hb5⟩; have HW5 := Lib.hid hb5; clear hb5
      go_wp2_with fail
      refine hK.out _ _ ⟨only_trans hHeld.1 (only_below HW5.out), hHeld.2.through HW5.out⟩ (fun hHeld1 => ?_)
      clear hHeld hK K
      have hHeld := hHeld1
      clear hHeld1
      refine wpAnyH_take (i := 11) (v := (.tuple #[.agg #[.string (ba z.nm), .int .i64 z.st, .int .i64 z.am, .int .i64 z.du, .string (ba z.po), .string (ba z.pa)], .bool true])) rfl (by kernel_rfl) (by kernel_rfl) (by kernel_rfl) (fun _ _ _ h => h) (Or.inl ⟨by kernel_rfl, fun w hSw => ?_⟩) (by assumption) ?_
      · (try dsimp only at hSw); go_simp <;> (try rfl)
      change wpAnyH _ _ _ _ _ _ _ (Act.put _ (some (5 : Nat)) (.tuple #[.agg #[.string (ba z.nm), .int .i64 z.st, .int .i64 z.am, .int .i64 z.du, .string (ba z.po), .string (ba z.pa)], .bool true])) _
      simp only [Act.put, List.setIfInBounds_toArray, List.set_cons_zero, List.set_cons_succ]
      refine wpAnyH_take (i := 12) (v := (.agg #[.string (ba z.nm), .int .i64 z.st, .int .i64 z.am, .int .i64 z.du, .string (ba z.po), .string (ba z.pa)])) rfl (by kernel_rfl) (by kernel_rfl) (by kernel_rfl) (fun _ _ _ h => h) (Or.inl ⟨by kernel_rfl, fun w hSw => ?_⟩) (by assumption) ?_
      · (try dsimp only at hSw); go_simp <;> (try rfl)
      change wpAnyH _ _ _ _ _ _ _ (Act.put _ (some (17 : Nat)) (.agg #[.string (ba z.nm), .int .i64 z.st, .int .i64 z.am, .int .i64 z.du, .string (ba z.po), .string (ba z.pa)])) _
      simp only [Act.put, List.setIfInBounds_toArray, List.set_cons_zero, List.set_cons_succ]
      refine wpAnyH_take (i := 13) (v := (.bool true)) rfl (by kernel_rfl) (by kernel_rfl) (by kernel_rfl) (fun _ _ _ h => h) (Or.inl ⟨by kernel_rfl, fun w hSw => ?_⟩) (by assumption) ?_
      · (try dsimp only at hSw); go_simp <;> (try rfl)
      change wpAnyH _ _ _ _ _ _ _ (Act.put _ (some (18 : Nat)) (.bool true)) _
      simp only [Act.put, List.setIfInBounds_toArray, List.set_cons_zero, List.set_cons_succ]
      refine wpAnyH_ready (rs := [14]) (by kernel_rfl) (by simp) ?_
      refine AllReadyH.cons (o := ⟨some 3, .alloc 39, _, _, _, none⟩) rfl (fun K hK => ?_) AllReadyH.nil
      refine step_alloc_lg rfl rfl (Tryz.alloc_lt' _) ?_; intro g3 w3 hq3 hb3 hw3; have HN3 : Hid (Blk w3 g3 39 [.string (ba []), .int .i64 0, .int .i64 0, .int .i64 0, .string (ba []), .string (ba [])]) := Lib.hid hb3; have HQ3 := Lib.hid hw3; have HJ : Hid (w.heap.size ≤ g3) := Lib.hid (Nat.le_trans hHeld.1.size hq3); clear hb3 hw3 hq3
      refine hK.out _ _ ⟨only_trans hHeld.1 (only_below HQ3.out), hHeld.2.through HQ3.out⟩ (fun hHeld1 => ?_)
      clear hHeld hK K
      have hHeld := hHeld1
      clear hHeld1
      change wpAnyH _ _ _ _ _ _ _ (Act.put _ (some (3 : Nat)) (.pointer (some ⟨g3, 0, none⟩))) _
      simp only [Act.put, List.setIfInBounds_toArray, List.set_cons_zero, List.set_cons_succ]
      refine wpAnyH_ready (rs := [15]) (by kernel_rfl) (by simp) ?_
      refine AllReadyH.cons (o := ⟨none, .store 39 (.tmp 3) (.tmp 17), _, _, _, none⟩) rfl (fun K hK => ?_) AllReadyH.nil
      refine step_store_blk rfl 39 (.tmp 3) (.tmp 17) rfl g3 [.string (ba z.nm), .int .i64 z.st, .int .i64 z.am, .int .i64 z.du, .string (ba z.po), .string (ba z.pa)] rfl rfl 39 [.string (ba []), .int .i64 0, .int .i64 0, .int .i64 0, .string (ba []), .string (ba [])] HN3.out (by kernel_rfl) rfl (one6 _ _ _ _ _ _) ?_; intro w6 hb6 hg6; have HS6 : Hid (Blk w6 g3 39 [.string (ba z.nm), .int .i64 z.st, .int .i64 z.am, .int .i64 z.du, .string (ba z.po), .string (ba z.pa)]) := Lib.hid hb6; have HT6 := Lib.hid hg6; clear hb6 hg6
      refine hK.out _ _ ⟨only_new_ hHeld.1 HT6.out (HJ.out), hHeld.2.grown HT6.out (fun e => hHeld.2.ne_ HN3.out (by decide) (Option.some.inj e))⟩ (fun hHeld1 => ?_)
      clear hHeld hK K
      have hHeld := hHeld1
      clear hHeld1
      change wpAnyH _ _ _ _ _ _ _ (Act.put _ none undef) _
      simp only [Act.put]
      refine wpAnyH_take (i := 16) (v := (.bool true)) rfl (by kernel_rfl) (by kernel_rfl) (by kernel_rfl) (fun _ _ _ h => h) (Or.inl ⟨by kernel_rfl, fun w hSw => ?_⟩) (by assumption) ?_
      · (try dsimp only at hSw); go_simp <;> (try rfl)
      change wpAnyH _ _ _ _ _ _ _ (Act.put _ (some (4 : Nat)) (.bool true)) _
      simp only [Act.put, List.setIfInBounds_toArray, List.set_cons_zero, List.set_cons_succ]
      refine wpAnyH_done (by kernel_rfl) ?_ _
      have HGe := Lib.hid hHeld.1
      have HBe := Lib.hid hHeld.2
      have c2 := HBe.out.cellAt (i := 2) rfl
      clear hHeld
      go_wp2_with (first
  | (refine wpList_load_blk rfl 39 (.tmp 3) rfl g3 rfl 39 [.string (ba z.nm), .int .i64 z.st, .int .i64 z.am, .int .i64 z.du, .string (ba z.po), .string (ba z.pa)] _ HS6.out Tryz.underlying39 rfl (by kernel_rfl) ?_)
  | (refine wpList_store_in rfl 39 (.tmp 33) (.tmp 31) rfl g 13 [.string (ba z.nm), .int .i64 z.st, .int .i64 z.am, .int .i64 z.du, .string (ba z.po), .string (ba z.pa)] rfl rfl 61 [.int .i64 y.co.cl, .int .i64 y.co.sp, .int .i64 y.co.op, .string (ba y.co.lt), .int .i64 y.co.a, .int .i64 y.co.b, .string (ba y.co.tx), .int .u32 (y.ms : Int), .int .i64 n, .int .i64 l.sq, .int .i64 l.tt, .slice A nn c, .slice B m d] [.string (ba x.nm), .int .i64 x.st, .int .i64 x.am, .int .i64 x.du, .string (ba x.po), .string (ba x.pa)] [.int .i64 o, .int .i64 a, .slice F k kc] HBe.out rfl (by kernel_rfl) rfl (one6 _ _ _ _ _ _) ?_; intro w9 hb9 hg9; have HB9 : Hid (Blk w9 g 61 [.int .i64 y.co.cl, .int .i64 y.co.sp, .int .i64 y.co.op, .string (ba y.co.lt), .int .i64 y.co.a, .int .i64 y.co.b, .string (ba y.co.tx), .int .u32 (y.ms : Int), .int .i64 n, .int .i64 l.sq, .int .i64 l.tt, .slice A nn c, .slice B m d, .string (ba z.nm), .int .i64 z.st, .int .i64 z.am, .int .i64 z.du, .string (ba z.po), .string (ba z.pa), .int .i64 o, .int .i64 a, .slice F k kc]) := Lib.hid hb9; have HG9 := Lib.hid (only_trans HGe.out hg9); clear hb9 hg9))
      go_ret
      exact ⟨(by first | trivial | exact ret_i64 rfl), HG9.out, fun _ => HB9.out⟩
    · as_aux_lemma =>
      refine step_alloc_lg rfl rfl (Tryz.alloc_lt' _) ?_; intro g3 w3 hq3 hb3 hw3; have HN3 : Hid (Blk w3 g3 39 [.string (ba []), .int .i64 0, .int .i64 0, .int .i64 0, .string (ba []), .string (ba [])]) := Lib.hid hb3; have HQ3 := Lib.hid hw3; have HJ : Hid (w.heap.size ≤ g3) := Lib.hid (Nat.le_trans hHeld.1.size hq3); clear hb3 hw3 hq3
      refine hK.out _ _ ⟨only_trans hHeld.1 (only_below HQ3.out), hHeld.2.through HQ3.out⟩ (fun hHeld1 => ?_)
      clear hHeld hK K
      have hHeld := hHeld1
      clear hHeld1
      change wpAnyH _ _ _ _ _ _ _ (Act.put _ (some (3 : Nat)) (.pointer (some ⟨g3, 0, none⟩))) _
      simp only [Act.put, List.setIfInBounds_toArray, List.set_cons_zero, List.set_cons_succ]
      refine wpAnyH_ready (rs := [10]) (by kernel_rfl) (by simp) ?_
      refine AllReadyH.cons rfl (fun K hK => ?_) AllReadyH.nil
      go_simp
      refine (HF.out _ (HLd.out.through HQ3.out)).mono ?_
      rintro e w5 ⟨rfl, hb5⟩; have HN3b := Lib.hid (HN3.out.through hb5); have HW5 := Lib.hid hb5; clear hb5
      go_wp2_with fail
      refine hK.out _ _ ⟨only_trans hHeld.1 (only_below HW5.out), hHeld.2.through HW5.out⟩ (fun hHeld1 => ?_)
      clear hHeld hK K
      have hHeld := hHeld1
      clear hHeld1
      refine wpAnyH_take (i := 11) (v := (.tuple #[.agg #[.string (ba z.nm), .int .i64 z.st, .int .i64 z.am, .int .i64 z.du, .string (ba z.po), .string (ba z.pa)], .bool true])) rfl (by kernel_rfl) (by kernel_rfl) (by kernel_rfl) (fun _ _ _ h => h) (Or.inl ⟨by kernel_rfl, fun w hSw => ?_⟩) (by assumption) ?_
      · (try dsimp only at hSw); go_simp <;> (try rfl)
      change wpAnyH _ _ _ _ _ _ _ (Act.put _ (some (5 : Nat)) (.tuple #[.agg #[.string (ba z.nm), .int .i64 z.st, .int .i64 z.am, .int .i64 z.du, .string (ba z.po), .string (ba z.pa)], .bool true])) _
      simp only [Act.put, List.setIfInBounds_toArray, List.set_cons_zero, List.set_cons_succ]
      refine wpAnyH_take (i := 12) (v := (.agg #[.string (ba z.nm), .int .i64 z.st, .int .i64 z.am, .int .i64 z.du, .string (ba z.po), .string (ba z.pa)])) rfl (by kernel_rfl) (by kernel_rfl) (by kernel_rfl) (fun _ _ _ h => h) (Or.inl ⟨by kernel_rfl, fun w hSw => ?_⟩) (by assumption) ?_
      · (try dsimp only at hSw); go_simp <;> (try rfl)
      change wpAnyH _ _ _ _ _ _ _ (Act.put _ (some (17 : Nat)) (.agg #[.string (ba z.nm), .int .i64 z.st, .int .i64 z.am, .int .i64 z.du, .string (ba z.po), .string (ba z.pa)])) _
      simp only [Act.put, List.setIfInBounds_toArray, List.set_cons_zero, List.set_cons_succ]
      refine wpAnyH_take (i := 13) (v := (.bool true)) rfl (by kernel_rfl) (by kernel_rfl) (by kernel_rfl) (fun _ _ _ h => h) (Or.inl ⟨by kernel_rfl, fun w hSw => ?_⟩) (by assumption) ?_
      · (try dsimp only at hSw); go_simp <;> (try rfl)
      change wpAnyH _ _ _ _ _ _ _ (Act.put _ (some (18 : Nat)) (.bool true)) _
      simp only [Act.put, List.setIfInBounds_toArray, List.set_cons_zero, List.set_cons_succ]
      refine wpAnyH_ready (rs := [15]) (by kernel_rfl) (by simp) ?_
      refine AllReadyH.cons (o := ⟨none, .store 39 (.tmp 3) (.tmp 17), _, _, _, none⟩) rfl (fun K hK => ?_) AllReadyH.nil
      refine step_store_blk rfl 39 (.tmp 3) (.tmp 17) rfl g3 [.string (ba z.nm), .int .i64 z.st, .int .i64 z.am, .int .i64 z.du, .string (ba z.po), .string (ba z.pa)] rfl rfl 39 [.string (ba []), .int .i64 0, .int .i64 0, .int .i64 0, .string (ba []), .string (ba [])] HN3b.out (by kernel_rfl) rfl (one6 _ _ _ _ _ _) ?_; intro w6 hb6 hg6; have HS6 : Hid (Blk w6 g3 39 [.string (ba z.nm), .int .i64 z.st, .int .i64 z.am, .int .i64 z.du, .string (ba z.po), .string (ba z.pa)]) := Lib.hid hb6; have HT6 := Lib.hid hg6; clear hb6 hg6
      refine hK.out _ _ ⟨only_new_ hHeld.1 HT6.out (HJ.out), hHeld.2.grown HT6.out (fun e => hHeld.2.ne_ HN3b.out (by decide) (Option.some.inj e))⟩ (fun hHeld1 => ?_)
      clear hHeld hK K
      have hHeld := hHeld1
      clear hHeld1
      change wpAnyH _ _ _ _ _ _ _ (Act.put _ none undef) _
      simp only [Act.put]
      refine wpAnyH_take (i := 16) (v := (.bool true)) rfl (by kernel_rfl) (by kernel_rfl) (by kernel_rfl) (fun _ _ _ h => h) (Or.inl ⟨by kernel_rfl, fun w hSw => ?_⟩) (by assumption) ?_
      · (try dsimp only at hSw); go_simp <;> (try rfl)
      change wpAnyH _ _ _ _ _ _ _ (Act.put _ (some (4 : Nat)) (.bool true)) _
      simp only [Act.put, List.setIfInBounds_toArray, List.set_cons_zero, List.set_cons_succ]
      refine wpAnyH_done (by kernel_rfl) ?_ _
      have HGe := Lib.hid hHeld.1
      have HBe := Lib.hid hHeld.2
      have c2 := HBe.out.cellAt (i := 2) rfl
      clear hHeld
      go_wp2_with (first
  | (refine wpList_load_blk rfl 39 (.tmp 3) rfl g3 rfl 39 [.string (ba z.nm), .int .i64 z.st, .int .i64 z.am, .int .i64 z.du, .string (ba z.po), .string (ba z.pa)] _ HS6.out Tryz.underlying39 rfl (by kernel_rfl) ?_)
  | (refine wpList_store_in rfl 39 (.tmp 33) (.tmp 31) rfl g 13 [.string (ba z.nm), .int .i64 z.st, .int .i64 z.am, .int .i64 z.du, .string (ba z.po), .string (ba z.pa)] rfl rfl 61 [.int .i64 y.co.cl, .int .i64 y.co.sp, .int .i64 y.co.op, .string (ba y.co.lt), .int .i64 y.co.a, .int .i64 y.co.b, .string (ba y.co.tx), .int .u32 (y.ms : Int), .int .i64 n, .int .i64 l.sq, .int .i64 l.tt, .slice A nn c, .slice B m d] [.string (ba x.nm), .int .i64 x.st, .int .i64 x.am, .int .i64 x.du, .string (ba x.po), .string (ba x.pa)] [.int .i64 o, .int .i64 a, .slice F k kc] HBe.out rfl (by kernel_rfl) rfl (one6 _ _ _ _ _ _) ?_; intro w9 hb9 hg9; have HB9 : Hid (Blk w9 g 61 [.int .i64 y.co.cl, .int .i64 y.co.sp, .int .i64 y.co.op, .string (ba y.co.lt), .int .i64 y.co.a, .int .i64 y.co.b, .string (ba y.co.tx), .int .u32 (y.ms : Int), .int .i64 n, .int .i64 l.sq, .int .i64 l.tt, .slice A nn c, .slice B m d, .string (ba z.nm), .int .i64 z.st, .int .i64 z.am, .int .i64 z.du, .string (ba z.po), .string (ba z.pa), .int .i64 o, .int .i64 a, .slice F k kc]) := Lib.hid hb9; have HG9 := Lib.hid (only_trans HGe.out hg9); clear hb9 hg9))
      go_ret
      exact ⟨(by first | trivial | exact ret_i64 rfl), HG9.out, fun _ => HB9.out⟩

  | false =>
    by_cases hop : y.co.op = 1
    · rw [if_neg (by simp [hop])]
      have ho1 : (y.co.op != 1) = false := by simp [hop]
      have HO := Lib.hid hop
      clear hop
      go_enter Tryz.func19, Tryz.ntmps19
      go_wp2
      try dsimp only [Act.put]
      refine wp_region_held_drew (S := fun W => w.grownBy W (some g) ∧ Blk W g 61 [.int .i64 y.co.cl, .int .i64 y.co.sp, .int .i64 y.co.op, .string (ba y.co.lt), .int .i64 y.co.a, .int .i64 y.co.b, .string (ba y.co.tx), .int .u32 (y.ms : Int), .int .i64 n, .int .i64 l.sq, .int .i64 l.tt, .slice A nn c, .slice B m d, .string (ba x.nm), .int .i64 x.st, .int .i64 x.am, .int .i64 x.du, .string (ba x.po), .string (ba x.pa), .int .i64 o, .int .i64 a, .slice F k kc]) (by kernel_rfl) ⟨only_drew w g, HB.out.drew⟩ (fun hHeld => ?_)
      change wpAnyH _ _ _ _ _ _ #[false, false, false, false, false, false, false, false, false, false, false, false, false, false, false, false, false] _ _
      refine wpAnyH_take (i := 0) (v := (.pointer (some ⟨g, 0, none⟩))) rfl (by kernel_rfl) (by kernel_rfl) (by kernel_rfl) (fun _ _ _ h => h) (Or.inl ⟨by kernel_rfl, fun w hSw => ?_⟩) (by assumption) ?_
      · (try dsimp only at hSw); go_simp <;> (try rfl)
      change wpAnyH _ _ _ _ _ _ _ (Act.put _ (some (6 : Nat)) (.pointer (some ⟨g, 0, none⟩))) _
      simp only [Act.put, List.setIfInBounds_toArray, List.set_cons_zero, List.set_cons_succ]
      refine wpAnyH_take (i := 1) (v := (.pointer (some ⟨g, 0, none⟩))) rfl (by kernel_rfl) (by kernel_rfl) (by kernel_rfl) (fun _ _ _ h => h) (Or.inl ⟨by kernel_rfl, fun w hSw => ?_⟩) (by assumption) ?_
      · (try dsimp only at hSw); go_simp <;> (try rfl)
      change wpAnyH _ _ _ _ _ _ _ (Act.put _ (some (7 : Nat)) (.pointer (some ⟨g, 0, none⟩))) _
      simp only [Act.put, List.setIfInBounds_toArray, List.set_cons_zero, List.set_cons_succ]
      refine wpAnyH_take (i := 2) (v := (.pointer (some ⟨g, 9, none⟩))) rfl (by kernel_rfl) (by kernel_rfl) (by kernel_rfl) (fun _ _ _ h => h) (Or.inl ⟨by kernel_rfl, fun w hSw => ?_⟩) (by assumption) ?_
      · (try dsimp only at hSw); go_simp <;> (try rfl)
      change wpAnyH _ _ _ _ _ _ _ (Act.put _ (some (8 : Nat)) (.pointer (some ⟨g, 9, none⟩))) _
      simp only [Act.put, List.setIfInBounds_toArray, List.set_cons_zero, List.set_cons_succ]
      refine wpAnyH_take (i := 3) (v := (.agg #[.int .i64 l.sq, .int .i64 l.tt, .slice A nn c, .slice B m d])) rfl (by kernel_rfl) (by kernel_rfl) (by kernel_rfl) (fun _ _ _ h => h) (yieldsIf_load_mid (by kernel_rfl) 25 (.tmp 8) rfl g (9) (by simp [Act.eval]) [.int .i64 l.sq, .int .i64 l.tt, .slice A nn c, .slice B m d] _ (fun W hW => hW.2.mid [.int .i64 y.co.cl, .int .i64 y.co.sp, .int .i64 y.co.op, .string (ba y.co.lt), .int .i64 y.co.a, .int .i64 y.co.b, .string (ba y.co.tx), .int .u32 (y.ms : Int), .int .i64 n] _ [.string (ba x.nm), .int .i64 x.st, .int .i64 x.am, .int .i64 x.du, .string (ba x.po), .string (ba x.pa), .int .i64 o, .int .i64 a, .slice F k kc] _ rfl rfl) Tryz.underlying25 rfl (by kernel_rfl)) (by assumption) ?_
      change wpAnyH _ _ _ _ _ _ _ (Act.put _ (some (9 : Nat)) (.agg #[.int .i64 l.sq, .int .i64 l.tt, .slice A nn c, .slice B m d])) _
      simp only [Act.put, List.setIfInBounds_toArray, List.set_cons_zero, List.set_cons_succ]
      refine wpAnyH_take (i := 4) (v := (.pointer (some ⟨g, 0, none⟩))) rfl (by kernel_rfl) (by kernel_rfl) (by kernel_rfl) (fun _ _ _ h => h) (Or.inl ⟨by kernel_rfl, fun w hSw => ?_⟩) (by assumption) ?_
      · (try dsimp only at hSw); go_simp <;> (try rfl)
      change wpAnyH _ _ _ _ _ _ _ (Act.put _ (some (10 : Nat)) (.pointer (some ⟨g, 0, none⟩))) _
      simp only [Act.put, List.setIfInBounds_toArray, List.set_cons_zero, List.set_cons_succ]
      refine wpAnyH_take (i := 5) (v := (.pointer (some ⟨g, 0, none⟩))) rfl (by kernel_rfl) (by kernel_rfl) (by kernel_rfl) (fun _ _ _ h => h) (Or.inl ⟨by kernel_rfl, fun w hSw => ?_⟩) (by assumption) ?_
      · (try dsimp only at hSw); go_simp <;> (try rfl)
      change wpAnyH _ _ _ _ _ _ _ (Act.put _ (some (11 : Nat)) (.pointer (some ⟨g, 0, none⟩))) _
      simp only [Act.put, List.setIfInBounds_toArray, List.set_cons_zero, List.set_cons_succ]
      refine wpAnyH_take (i := 6) (v := (.pointer (some ⟨g, 0, none⟩))) rfl (by kernel_rfl) (by kernel_rfl) (by kernel_rfl) (fun _ _ _ h => h) (Or.inl ⟨by kernel_rfl, fun w hSw => ?_⟩) (by assumption) ?_
      · (try dsimp only at hSw); go_simp <;> (try rfl)
      change wpAnyH _ _ _ _ _ _ _ (Act.put _ (some (12 : Nat)) (.pointer (some ⟨g, 0, none⟩))) _
      simp only [Act.put, List.setIfInBounds_toArray, List.set_cons_zero, List.set_cons_succ]
      refine wpAnyH_take (i := 7) (v := (.pointer (some ⟨g, 0, none⟩))) rfl (by kernel_rfl) (by kernel_rfl) (by kernel_rfl) (fun _ _ _ h => h) (Or.inl ⟨by kernel_rfl, fun w hSw => ?_⟩) (by assumption) ?_
      · (try dsimp only at hSw); go_simp <;> (try rfl)
      change wpAnyH _ _ _ _ _ _ _ (Act.put _ (some (13 : Nat)) (.pointer (some ⟨g, 0, none⟩))) _
      simp only [Act.put, List.setIfInBounds_toArray, List.set_cons_zero, List.set_cons_succ]
      refine wpAnyH_take (i := 8) (v := (.pointer (some ⟨g, 3, none⟩))) rfl (by kernel_rfl) (by kernel_rfl) (by kernel_rfl) (fun _ _ _ h => h) (Or.inl ⟨by kernel_rfl, fun w hSw => ?_⟩) (by assumption) ?_
      · (try dsimp only at hSw); go_simp <;> (try rfl)
      change wpAnyH _ _ _ _ _ _ _ (Act.put _ (some (14 : Nat)) (.pointer (some ⟨g, 3, none⟩))) _
      simp only [Act.put, List.setIfInBounds_toArray, List.set_cons_zero, List.set_cons_succ]
      refine wpAnyH_take (i := 9) (v := (.string (ba y.co.lt))) rfl (by kernel_rfl) (by kernel_rfl) (by kernel_rfl) (fun _ _ _ h => h) (yields_load_at (by kernel_rfl) 9 (.tmp 14) rfl (.pointer (some ⟨g, 3, none⟩)) (by simp [Act.eval]) (.string (ba y.co.lt)) (fun W hW => load_one' (Tryz.agg_str _) (hW.2.cellAt rfl))) (by assumption) ?_
      change wpAnyH _ _ _ _ _ _ _ (Act.put _ (some (15 : Nat)) (.string (ba y.co.lt))) _
      simp only [Act.put, List.setIfInBounds_toArray, List.set_cons_zero, List.set_cons_succ]
      refine wpAnyH_ready (rs := [10, 14]) (by kernel_rfl) (by simp) ?_
      refine AllReadyH.cons rfl (fun K hK => ?_) (AllReadyH.cons (o := ⟨some 3, .alloc 39, _, _, _, none⟩) rfl (fun K hK => ?_) AllReadyH.nil)
      · as_aux_lemma =>
        go_simp
        refine (HF.out _ HLd.out).mono ?_
        rintro e w5 ⟨rfl, hb5⟩; have HW5 := Lib.hid hb5; clear hb5
        go_wp2_with fail
        refine hK.out _ _ ⟨only_trans hHeld.1 (only_below HW5.out), hHeld.2.through HW5.out⟩ (fun hHeld1 => ?_)
        clear hHeld hK K
        have hHeld := hHeld1
        clear hHeld1
        refine wpAnyH_take (i := 11) (v := (.tuple #[.agg #[.string (ba z.nm), .int .i64 z.st, .int .i64 z.am, .int .i64 z.du, .string (ba z.po), .string (ba z.pa)], .bool false])) rfl (by kernel_rfl) (by kernel_rfl) (by kernel_rfl) (fun _ _ _ h => h) (Or.inl ⟨by kernel_rfl, fun w hSw => ?_⟩) (by assumption) ?_
        · (try dsimp only at hSw); go_simp <;> (try rfl)
        change wpAnyH _ _ _ _ _ _ _ (Act.put _ (some (5 : Nat)) (.tuple #[.agg #[.string (ba z.nm), .int .i64 z.st, .int .i64 z.am, .int .i64 z.du, .string (ba z.po), .string (ba z.pa)], .bool false])) _
        simp only [Act.put, List.setIfInBounds_toArray, List.set_cons_zero, List.set_cons_succ]
        refine wpAnyH_take (i := 12) (v := (.agg #[.string (ba z.nm), .int .i64 z.st, .int .i64 z.am, .int .i64 z.du, .string (ba z.po), .string (ba z.pa)])) rfl (by kernel_rfl) (by kernel_rfl) (by kernel_rfl) (fun _ _ _ h => h) (Or.inl ⟨by kernel_rfl, fun w hSw => ?_⟩) (by assumption) ?_
        · (try dsimp only at hSw); go_simp <;> (try rfl)
        change wpAnyH _ _ _ _ _ _ _ (Act.put _ (some (17 : Nat)) (.agg #[.string (ba z.nm), .int .i64 z.st, .int .i64 z.am, .int .i64 z.du, .string (ba z.po), .string (ba z.pa)])) _
        simp only [Act.put, List.setIfInBounds_toArray, List.set_cons_zero, List.set_cons_succ]
        refine wpAnyH_take (i := 13) (v := (.bool false)) rfl (by kernel_rfl) (by kernel_rfl) (by kernel_rfl) (fun _ _ _ h => h) (Or.inl ⟨by kernel_rfl, fun w hSw => ?_⟩) (by assumption) ?_
        · (try dsimp only at hSw); go_simp <;> (try rfl)
        change wpAnyH _ _ _ _ _ _ _ (Act.put _ (some (18 : Nat)) (.bool false)) _
        simp only [Act.put, List.setIfInBounds_toArray, List.set_cons_zero, List.set_cons_succ]
        refine wpAnyH_ready (rs := [14]) (by kernel_rfl) (by simp) ?_
        refine AllReadyH.cons (o := ⟨some 3, .alloc 39, _, _, _, none⟩) rfl (fun K hK => ?_) AllReadyH.nil
        refine step_alloc_lg rfl rfl (Tryz.alloc_lt' _) ?_; intro g3 w3 hq3 hb3 hw3; have HN3 : Hid (Blk w3 g3 39 [.string (ba []), .int .i64 0, .int .i64 0, .int .i64 0, .string (ba []), .string (ba [])]) := Lib.hid hb3; have HQ3 := Lib.hid hw3; have HJ : Hid (w.heap.size ≤ g3) := Lib.hid (Nat.le_trans hHeld.1.size hq3); clear hb3 hw3 hq3
        refine hK.out _ _ ⟨only_trans hHeld.1 (only_below HQ3.out), hHeld.2.through HQ3.out⟩ (fun hHeld1 => ?_)
        clear hHeld hK K
        have hHeld := hHeld1
        clear hHeld1
        change wpAnyH _ _ _ _ _ _ _ (Act.put _ (some (3 : Nat)) (.pointer (some ⟨g3, 0, none⟩))) _
        simp only [Act.put, List.setIfInBounds_toArray, List.set_cons_zero, List.set_cons_succ]
        refine wpAnyH_ready (rs := [15]) (by kernel_rfl) (by simp) ?_
        refine AllReadyH.cons (o := ⟨none, .store 39 (.tmp 3) (.tmp 17), _, _, _, none⟩) rfl (fun K hK => ?_) AllReadyH.nil
        refine step_store_blk rfl 39 (.tmp 3) (.tmp 17) rfl g3 [.string (ba z.nm), .int .i64 z.st, .int .i64 z.am, .int .i64 z.du, .string (ba z.po), .string (ba z.pa)] rfl rfl 39 [.string (ba []), .int .i64 0, .int .i64 0, .int .i64 0, .string (ba []), .string (ba [])] HN3.out (by kernel_rfl) rfl (one6 _ _ _ _ _ _) ?_; intro w6 hb6 hg6; have HS6 : Hid (Blk w6 g3 39 [.string (ba z.nm), .int .i64 z.st, .int .i64 z.am, .int .i64 z.du, .string (ba z.po), .string (ba z.pa)]) := Lib.hid hb6; have HT6 := Lib.hid hg6; clear hb6 hg6
        refine hK.out _ _ ⟨only_new_ hHeld.1 HT6.out (HJ.out), hHeld.2.grown HT6.out (fun e => hHeld.2.ne_ HN3.out (by decide) (Option.some.inj e))⟩ (fun hHeld1 => ?_)
        clear hHeld hK K
        have hHeld := hHeld1
        clear hHeld1
        change wpAnyH _ _ _ _ _ _ _ (Act.put _ none undef) _
        simp only [Act.put]
        refine wpAnyH_take (i := 16) (v := (.bool false)) rfl (by kernel_rfl) (by kernel_rfl) (by kernel_rfl) (fun _ _ _ h => h) (Or.inl ⟨by kernel_rfl, fun w hSw => ?_⟩) (by assumption) ?_
        · (try dsimp only at hSw); go_simp <;> (try rfl)
        change wpAnyH _ _ _ _ _ _ _ (Act.put _ (some (4 : Nat)) (.bool false)) _
        simp only [Act.put, List.setIfInBounds_toArray, List.set_cons_zero, List.set_cons_succ]
        refine wpAnyH_done (by kernel_rfl) ?_ _
        have HGe := Lib.hid hHeld.1
        have HBe := Lib.hid hHeld.2
        have c2 := HBe.out.cellAt (i := 2) rfl
        clear hHeld
        go_wp2_with (first
  | (refine wpList_load_blk rfl 39 (.tmp 3) rfl g3 rfl 39 [.string (ba z.nm), .int .i64 z.st, .int .i64 z.am, .int .i64 z.du, .string (ba z.po), .string (ba z.pa)] _ HS6.out Tryz.underlying39 rfl (by kernel_rfl) ?_)
  | (refine wpList_store_in rfl 39 (.tmp 33) (.tmp 31) rfl g 13 [.string (ba z.nm), .int .i64 z.st, .int .i64 z.am, .int .i64 z.du, .string (ba z.po), .string (ba z.pa)] rfl rfl 61 [.int .i64 y.co.cl, .int .i64 y.co.sp, .int .i64 y.co.op, .string (ba y.co.lt), .int .i64 y.co.a, .int .i64 y.co.b, .string (ba y.co.tx), .int .u32 (y.ms : Int), .int .i64 n, .int .i64 l.sq, .int .i64 l.tt, .slice A nn c, .slice B m d] [.string (ba x.nm), .int .i64 x.st, .int .i64 x.am, .int .i64 x.du, .string (ba x.po), .string (ba x.pa)] [.int .i64 o, .int .i64 a, .slice F k kc] HBe.out rfl (by kernel_rfl) rfl (one6 _ _ _ _ _ _) ?_; intro w9 hb9 hg9; have HB9 : Hid (Blk w9 g 61 [.int .i64 y.co.cl, .int .i64 y.co.sp, .int .i64 y.co.op, .string (ba y.co.lt), .int .i64 y.co.a, .int .i64 y.co.b, .string (ba y.co.tx), .int .u32 (y.ms : Int), .int .i64 n, .int .i64 l.sq, .int .i64 l.tt, .slice A nn c, .slice B m d, .string (ba z.nm), .int .i64 z.st, .int .i64 z.am, .int .i64 z.du, .string (ba z.po), .string (ba z.pa), .int .i64 o, .int .i64 a, .slice F k kc]) := Lib.hid hb9; have HG9 := Lib.hid (only_trans HGe.out hg9); clear hb9 hg9))
        go_ret
        exact ⟨(by first | trivial | exact ret_i64 rfl), HG9.out, fun _ => HB9.out⟩
      · as_aux_lemma =>
        refine step_alloc_lg rfl rfl (Tryz.alloc_lt' _) ?_; intro g3 w3 hq3 hb3 hw3; have HN3 : Hid (Blk w3 g3 39 [.string (ba []), .int .i64 0, .int .i64 0, .int .i64 0, .string (ba []), .string (ba [])]) := Lib.hid hb3; have HQ3 := Lib.hid hw3; have HJ : Hid (w.heap.size ≤ g3) := Lib.hid (Nat.le_trans hHeld.1.size hq3); clear hb3 hw3 hq3
        refine hK.out _ _ ⟨only_trans hHeld.1 (only_below HQ3.out), hHeld.2.through HQ3.out⟩ (fun hHeld1 => ?_)
        clear hHeld hK K
        have hHeld := hHeld1
        clear hHeld1
        change wpAnyH _ _ _ _ _ _ _ (Act.put _ (some (3 : Nat)) (.pointer (some ⟨g3, 0, none⟩))) _
        simp only [Act.put, List.setIfInBounds_toArray, List.set_cons_zero, List.set_cons_succ]
        refine wpAnyH_ready (rs := [10]) (by kernel_rfl) (by simp) ?_
        refine AllReadyH.cons rfl (fun K hK => ?_) AllReadyH.nil
        go_simp
        refine (HF.out _ (HLd.out.through HQ3.out)).mono ?_
        rintro e w5 ⟨rfl, hb5⟩; have HN3b := Lib.hid (HN3.out.through hb5); have HW5 := Lib.hid hb5; clear hb5
        go_wp2_with fail
        refine hK.out _ _ ⟨only_trans hHeld.1 (only_below HW5.out), hHeld.2.through HW5.out⟩ (fun hHeld1 => ?_)
        clear hHeld hK K
        have hHeld := hHeld1
        clear hHeld1
        refine wpAnyH_take (i := 11) (v := (.tuple #[.agg #[.string (ba z.nm), .int .i64 z.st, .int .i64 z.am, .int .i64 z.du, .string (ba z.po), .string (ba z.pa)], .bool false])) rfl (by kernel_rfl) (by kernel_rfl) (by kernel_rfl) (fun _ _ _ h => h) (Or.inl ⟨by kernel_rfl, fun w hSw => ?_⟩) (by assumption) ?_
        · (try dsimp only at hSw); go_simp <;> (try rfl)
        change wpAnyH _ _ _ _ _ _ _ (Act.put _ (some (5 : Nat)) (.tuple #[.agg #[.string (ba z.nm), .int .i64 z.st, .int .i64 z.am, .int .i64 z.du, .string (ba z.po), .string (ba z.pa)], .bool false])) _
        simp only [Act.put, List.setIfInBounds_toArray, List.set_cons_zero, List.set_cons_succ]
        refine wpAnyH_take (i := 12) (v := (.agg #[.string (ba z.nm), .int .i64 z.st, .int .i64 z.am, .int .i64 z.du, .string (ba z.po), .string (ba z.pa)])) rfl (by kernel_rfl) (by kernel_rfl) (by kernel_rfl) (fun _ _ _ h => h) (Or.inl ⟨by kernel_rfl, fun w hSw => ?_⟩) (by assumption) ?_
        · (try dsimp only at hSw); go_simp <;> (try rfl)
        change wpAnyH _ _ _ _ _ _ _ (Act.put _ (some (17 : Nat)) (.agg #[.string (ba z.nm), .int .i64 z.st, .int .i64 z.am, .int .i64 z.du, .string (ba z.po), .string (ba z.pa)])) _
        simp only [Act.put, List.setIfInBounds_toArray, List.set_cons_zero, List.set_cons_succ]
        refine wpAnyH_take (i := 13) (v := (.bool false)) rfl (by kernel_rfl) (by kernel_rfl) (by kernel_rfl) (fun _ _ _ h => h) (Or.inl ⟨by kernel_rfl, fun w hSw => ?_⟩) (by assumption) ?_
        · (try dsimp only at hSw); go_simp <;> (try rfl)
        change wpAnyH _ _ _ _ _ _ _ (Act.put _ (some (18 : Nat)) (.bool false)) _
        simp only [Act.put, List.setIfInBounds_toArray, List.set_cons_zero, List.set_cons_succ]
        refine wpAnyH_ready (rs := [15]) (by kernel_rfl) (by simp) ?_
        refine AllReadyH.cons (o := ⟨none, .store 39 (.tmp 3) (.tmp 17), _, _, _, none⟩) rfl (fun K hK => ?_) AllReadyH.nil
        refine step_store_blk rfl 39 (.tmp 3) (.tmp 17) rfl g3 [.string (ba z.nm), .int .i64 z.st, .int .i64 z.am, .int .i64 z.du, .string (ba z.po), .string (ba z.pa)] rfl rfl 39 [.string (ba []), .int .i64 0, .int .i64 0, .int .i64 0, .string (ba []), .string (ba [])] HN3b.out (by kernel_rfl) rfl (one6 _ _ _ _ _ _) ?_; intro w6 hb6 hg6; have HS6 : Hid (Blk w6 g3 39 [.string (ba z.nm), .int .i64 z.st, .int .i64 z.am, .int .i64 z.du, .string (ba z.po), .string (ba z.pa)]) := Lib.hid hb6; have HT6 := Lib.hid hg6; clear hb6 hg6
        refine hK.out _ _ ⟨only_new_ hHeld.1 HT6.out (HJ.out), hHeld.2.grown HT6.out (fun e => hHeld.2.ne_ HN3b.out (by decide) (Option.some.inj e))⟩ (fun hHeld1 => ?_)
        clear hHeld hK K
        have hHeld := hHeld1
        clear hHeld1
        change wpAnyH _ _ _ _ _ _ _ (Act.put _ none undef) _
        simp only [Act.put]
        refine wpAnyH_take (i := 16) (v := (.bool false)) rfl (by kernel_rfl) (by kernel_rfl) (by kernel_rfl) (fun _ _ _ h => h) (Or.inl ⟨by kernel_rfl, fun w hSw => ?_⟩) (by assumption) ?_
        · (try dsimp only at hSw); go_simp <;> (try rfl)
        change wpAnyH _ _ _ _ _ _ _ (Act.put _ (some (4 : Nat)) (.bool false)) _
        simp only [Act.put, List.setIfInBounds_toArray, List.set_cons_zero, List.set_cons_succ]
        refine wpAnyH_done (by kernel_rfl) ?_ _
        have HGe := Lib.hid hHeld.1
        have HBe := Lib.hid hHeld.2
        have c2 := HBe.out.cellAt (i := 2) rfl
        clear hHeld
        go_wp2_with (first
  | (refine wpList_load_blk rfl 39 (.tmp 3) rfl g3 rfl 39 [.string (ba z.nm), .int .i64 z.st, .int .i64 z.am, .int .i64 z.du, .string (ba z.po), .string (ba z.pa)] _ HS6.out Tryz.underlying39 rfl (by kernel_rfl) ?_)
  | (refine wpList_store_in rfl 39 (.tmp 33) (.tmp 31) rfl g 13 [.string (ba z.nm), .int .i64 z.st, .int .i64 z.am, .int .i64 z.du, .string (ba z.po), .string (ba z.pa)] rfl rfl 61 [.int .i64 y.co.cl, .int .i64 y.co.sp, .int .i64 y.co.op, .string (ba y.co.lt), .int .i64 y.co.a, .int .i64 y.co.b, .string (ba y.co.tx), .int .u32 (y.ms : Int), .int .i64 n, .int .i64 l.sq, .int .i64 l.tt, .slice A nn c, .slice B m d] [.string (ba x.nm), .int .i64 x.st, .int .i64 x.am, .int .i64 x.du, .string (ba x.po), .string (ba x.pa)] [.int .i64 o, .int .i64 a, .slice F k kc] HBe.out rfl (by kernel_rfl) rfl (one6 _ _ _ _ _ _) ?_; intro w9 hb9 hg9; have HB9 : Hid (Blk w9 g 61 [.int .i64 y.co.cl, .int .i64 y.co.sp, .int .i64 y.co.op, .string (ba y.co.lt), .int .i64 y.co.a, .int .i64 y.co.b, .string (ba y.co.tx), .int .u32 (y.ms : Int), .int .i64 n, .int .i64 l.sq, .int .i64 l.tt, .slice A nn c, .slice B m d, .string (ba z.nm), .int .i64 z.st, .int .i64 z.am, .int .i64 z.du, .string (ba z.po), .string (ba z.pa), .int .i64 o, .int .i64 a, .slice F k kc]) := Lib.hid hb9; have HG9 := Lib.hid (only_trans HGe.out hg9); clear hb9 hg9))
        go_ret
        exact ⟨(by first | trivial | exact ret_i64 rfl), HG9.out, fun _ => HB9.out⟩

    · rw [if_pos ⟨rfl, hop⟩]
      have ho1 : (y.co.op != 1) = true := by simp [hop]
      have HO := Lib.hid hop
      clear hop
      go_enter Tryz.func19, Tryz.ntmps19
      go_wp2
      try dsimp only [Act.put]
      refine wp_region_held_drew (S := fun W => w.grownBy W (some g) ∧ Blk W g 61 [.int .i64 y.co.cl, .int .i64 y.co.sp, .int .i64 y.co.op, .string (ba y.co.lt), .int .i64 y.co.a, .int .i64 y.co.b, .string (ba y.co.tx), .int .u32 (y.ms : Int), .int .i64 n, .int .i64 l.sq, .int .i64 l.tt, .slice A nn c, .slice B m d, .string (ba x.nm), .int .i64 x.st, .int .i64 x.am, .int .i64 x.du, .string (ba x.po), .string (ba x.pa), .int .i64 o, .int .i64 a, .slice F k kc]) (by kernel_rfl) ⟨only_drew w g, HB.out.drew⟩ (fun hHeld => ?_)
      change wpAnyH _ _ _ _ _ _ #[false, false, false, false, false, false, false, false, false, false, false, false, false, false, false, false, false] _ _
      refine wpAnyH_take (i := 0) (v := (.pointer (some ⟨g, 0, none⟩))) rfl (by kernel_rfl) (by kernel_rfl) (by kernel_rfl) (fun _ _ _ h => h) (Or.inl ⟨by kernel_rfl, fun w hSw => ?_⟩) (by assumption) ?_
      · (try dsimp only at hSw); go_simp <;> (try rfl)
      change wpAnyH _ _ _ _ _ _ _ (Act.put _ (some (6 : Nat)) (.pointer (some ⟨g, 0, none⟩))) _
      simp only [Act.put, List.setIfInBounds_toArray, List.set_cons_zero, List.set_cons_succ]
      refine wpAnyH_take (i := 1) (v := (.pointer (some ⟨g, 0, none⟩))) rfl (by kernel_rfl) (by kernel_rfl) (by kernel_rfl) (fun _ _ _ h => h) (Or.inl ⟨by kernel_rfl, fun w hSw => ?_⟩) (by assumption) ?_
      · (try dsimp only at hSw); go_simp <;> (try rfl)
      change wpAnyH _ _ _ _ _ _ _ (Act.put _ (some (7 : Nat)) (.pointer (some ⟨g, 0, none⟩))) _
      simp only [Act.put, List.setIfInBounds_toArray, List.set_cons_zero, List.set_cons_succ]
      refine wpAnyH_take (i := 2) (v := (.pointer (some ⟨g, 9, none⟩))) rfl (by kernel_rfl) (by kernel_rfl) (by kernel_rfl) (fun _ _ _ h => h) (Or.inl ⟨by kernel_rfl, fun w hSw => ?_⟩) (by assumption) ?_
      · (try dsimp only at hSw); go_simp <;> (try rfl)
      change wpAnyH _ _ _ _ _ _ _ (Act.put _ (some (8 : Nat)) (.pointer (some ⟨g, 9, none⟩))) _
      simp only [Act.put, List.setIfInBounds_toArray, List.set_cons_zero, List.set_cons_succ]
      refine wpAnyH_take (i := 3) (v := (.agg #[.int .i64 l.sq, .int .i64 l.tt, .slice A nn c, .slice B m d])) rfl (by kernel_rfl) (by kernel_rfl) (by kernel_rfl) (fun _ _ _ h => h) (yieldsIf_load_mid (by kernel_rfl) 25 (.tmp 8) rfl g (9) (by simp [Act.eval]) [.int .i64 l.sq, .int .i64 l.tt, .slice A nn c, .slice B m d] _ (fun W hW => hW.2.mid [.int .i64 y.co.cl, .int .i64 y.co.sp, .int .i64 y.co.op, .string (ba y.co.lt), .int .i64 y.co.a, .int .i64 y.co.b, .string (ba y.co.tx), .int .u32 (y.ms : Int), .int .i64 n] _ [.string (ba x.nm), .int .i64 x.st, .int .i64 x.am, .int .i64 x.du, .string (ba x.po), .string (ba x.pa), .int .i64 o, .int .i64 a, .slice F k kc] _ rfl rfl) Tryz.underlying25 rfl (by kernel_rfl)) (by assumption) ?_
      change wpAnyH _ _ _ _ _ _ _ (Act.put _ (some (9 : Nat)) (.agg #[.int .i64 l.sq, .int .i64 l.tt, .slice A nn c, .slice B m d])) _
      simp only [Act.put, List.setIfInBounds_toArray, List.set_cons_zero, List.set_cons_succ]
      refine wpAnyH_take (i := 4) (v := (.pointer (some ⟨g, 0, none⟩))) rfl (by kernel_rfl) (by kernel_rfl) (by kernel_rfl) (fun _ _ _ h => h) (Or.inl ⟨by kernel_rfl, fun w hSw => ?_⟩) (by assumption) ?_
      · (try dsimp only at hSw); go_simp <;> (try rfl)
      change wpAnyH _ _ _ _ _ _ _ (Act.put _ (some (10 : Nat)) (.pointer (some ⟨g, 0, none⟩))) _
      simp only [Act.put, List.setIfInBounds_toArray, List.set_cons_zero, List.set_cons_succ]
      refine wpAnyH_take (i := 5) (v := (.pointer (some ⟨g, 0, none⟩))) rfl (by kernel_rfl) (by kernel_rfl) (by kernel_rfl) (fun _ _ _ h => h) (Or.inl ⟨by kernel_rfl, fun w hSw => ?_⟩) (by assumption) ?_
      · (try dsimp only at hSw); go_simp <;> (try rfl)
      change wpAnyH _ _ _ _ _ _ _ (Act.put _ (some (11 : Nat)) (.pointer (some ⟨g, 0, none⟩))) _
      simp only [Act.put, List.setIfInBounds_toArray, List.set_cons_zero, List.set_cons_succ]
      refine wpAnyH_take (i := 6) (v := (.pointer (some ⟨g, 0, none⟩))) rfl (by kernel_rfl) (by kernel_rfl) (by kernel_rfl) (fun _ _ _ h => h) (Or.inl ⟨by kernel_rfl, fun w hSw => ?_⟩) (by assumption) ?_
      · (try dsimp only at hSw); go_simp <;> (try rfl)
      change wpAnyH _ _ _ _ _ _ _ (Act.put _ (some (12 : Nat)) (.pointer (some ⟨g, 0, none⟩))) _
      simp only [Act.put, List.setIfInBounds_toArray, List.set_cons_zero, List.set_cons_succ]
      refine wpAnyH_take (i := 7) (v := (.pointer (some ⟨g, 0, none⟩))) rfl (by kernel_rfl) (by kernel_rfl) (by kernel_rfl) (fun _ _ _ h => h) (Or.inl ⟨by kernel_rfl, fun w hSw => ?_⟩) (by assumption) ?_
      · (try dsimp only at hSw); go_simp <;> (try rfl)
      change wpAnyH _ _ _ _ _ _ _ (Act.put _ (some (13 : Nat)) (.pointer (some ⟨g, 0, none⟩))) _
      simp only [Act.put, List.setIfInBounds_toArray, List.set_cons_zero, List.set_cons_succ]
      refine wpAnyH_take (i := 8) (v := (.pointer (some ⟨g, 3, none⟩))) rfl (by kernel_rfl) (by kernel_rfl) (by kernel_rfl) (fun _ _ _ h => h) (Or.inl ⟨by kernel_rfl, fun w hSw => ?_⟩) (by assumption) ?_
      · (try dsimp only at hSw); go_simp <;> (try rfl)
      change wpAnyH _ _ _ _ _ _ _ (Act.put _ (some (14 : Nat)) (.pointer (some ⟨g, 3, none⟩))) _
      simp only [Act.put, List.setIfInBounds_toArray, List.set_cons_zero, List.set_cons_succ]
      refine wpAnyH_take (i := 9) (v := (.string (ba y.co.lt))) rfl (by kernel_rfl) (by kernel_rfl) (by kernel_rfl) (fun _ _ _ h => h) (yields_load_at (by kernel_rfl) 9 (.tmp 14) rfl (.pointer (some ⟨g, 3, none⟩)) (by simp [Act.eval]) (.string (ba y.co.lt)) (fun W hW => load_one' (Tryz.agg_str _) (hW.2.cellAt rfl))) (by assumption) ?_
      change wpAnyH _ _ _ _ _ _ _ (Act.put _ (some (15 : Nat)) (.string (ba y.co.lt))) _
      simp only [Act.put, List.setIfInBounds_toArray, List.set_cons_zero, List.set_cons_succ]
      refine wpAnyH_ready (rs := [10, 14]) (by kernel_rfl) (by simp) ?_
      refine AllReadyH.cons rfl (fun K hK => ?_) (AllReadyH.cons (o := ⟨some 3, .alloc 39, _, _, _, none⟩) rfl (fun K hK => ?_) AllReadyH.nil)
      · as_aux_lemma =>
        go_simp
        refine (HF.out _ HLd.out).mono ?_
        rintro e w5 ⟨rfl, hb5⟩; have HW5 := Lib.hid hb5; clear hb5
        go_wp2_with fail
        refine hK.out _ _ ⟨only_trans hHeld.1 (only_below HW5.out), hHeld.2.through HW5.out⟩ (fun hHeld1 => ?_)
        clear hHeld hK K
        have hHeld := hHeld1
        clear hHeld1
        refine wpAnyH_take (i := 11) (v := (.tuple #[.agg #[.string (ba z.nm), .int .i64 z.st, .int .i64 z.am, .int .i64 z.du, .string (ba z.po), .string (ba z.pa)], .bool false])) rfl (by kernel_rfl) (by kernel_rfl) (by kernel_rfl) (fun _ _ _ h => h) (Or.inl ⟨by kernel_rfl, fun w hSw => ?_⟩) (by assumption) ?_
        · (try dsimp only at hSw); go_simp <;> (try rfl)
        change wpAnyH _ _ _ _ _ _ _ (Act.put _ (some (5 : Nat)) (.tuple #[.agg #[.string (ba z.nm), .int .i64 z.st, .int .i64 z.am, .int .i64 z.du, .string (ba z.po), .string (ba z.pa)], .bool false])) _
        simp only [Act.put, List.setIfInBounds_toArray, List.set_cons_zero, List.set_cons_succ]
        refine wpAnyH_take (i := 12) (v := (.agg #[.string (ba z.nm), .int .i64 z.st, .int .i64 z.am, .int .i64 z.du, .string (ba z.po), .string (ba z.pa)])) rfl (by kernel_rfl) (by kernel_rfl) (by kernel_rfl) (fun _ _ _ h => h) (Or.inl ⟨by kernel_rfl, fun w hSw => ?_⟩) (by assumption) ?_
        · (try dsimp only at hSw); go_simp <;> (try rfl)
        change wpAnyH _ _ _ _ _ _ _ (Act.put _ (some (17 : Nat)) (.agg #[.string (ba z.nm), .int .i64 z.st, .int .i64 z.am, .int .i64 z.du, .string (ba z.po), .string (ba z.pa)])) _
        simp only [Act.put, List.setIfInBounds_toArray, List.set_cons_zero, List.set_cons_succ]
        refine wpAnyH_take (i := 13) (v := (.bool false)) rfl (by kernel_rfl) (by kernel_rfl) (by kernel_rfl) (fun _ _ _ h => h) (Or.inl ⟨by kernel_rfl, fun w hSw => ?_⟩) (by assumption) ?_
        · (try dsimp only at hSw); go_simp <;> (try rfl)
        change wpAnyH _ _ _ _ _ _ _ (Act.put _ (some (18 : Nat)) (.bool false)) _
        simp only [Act.put, List.setIfInBounds_toArray, List.set_cons_zero, List.set_cons_succ]
        refine wpAnyH_ready (rs := [14]) (by kernel_rfl) (by simp) ?_
        refine AllReadyH.cons (o := ⟨some 3, .alloc 39, _, _, _, none⟩) rfl (fun K hK => ?_) AllReadyH.nil
        refine step_alloc_lg rfl rfl (Tryz.alloc_lt' _) ?_; intro g3 w3 hq3 hb3 hw3; have HN3 : Hid (Blk w3 g3 39 [.string (ba []), .int .i64 0, .int .i64 0, .int .i64 0, .string (ba []), .string (ba [])]) := Lib.hid hb3; have HQ3 := Lib.hid hw3; have HJ : Hid (w.heap.size ≤ g3) := Lib.hid (Nat.le_trans hHeld.1.size hq3); clear hb3 hw3 hq3
        refine hK.out _ _ ⟨only_trans hHeld.1 (only_below HQ3.out), hHeld.2.through HQ3.out⟩ (fun hHeld1 => ?_)
        clear hHeld hK K
        have hHeld := hHeld1
        clear hHeld1
        change wpAnyH _ _ _ _ _ _ _ (Act.put _ (some (3 : Nat)) (.pointer (some ⟨g3, 0, none⟩))) _
        simp only [Act.put, List.setIfInBounds_toArray, List.set_cons_zero, List.set_cons_succ]
        refine wpAnyH_ready (rs := [15]) (by kernel_rfl) (by simp) ?_
        refine AllReadyH.cons (o := ⟨none, .store 39 (.tmp 3) (.tmp 17), _, _, _, none⟩) rfl (fun K hK => ?_) AllReadyH.nil
        refine step_store_blk rfl 39 (.tmp 3) (.tmp 17) rfl g3 [.string (ba z.nm), .int .i64 z.st, .int .i64 z.am, .int .i64 z.du, .string (ba z.po), .string (ba z.pa)] rfl rfl 39 [.string (ba []), .int .i64 0, .int .i64 0, .int .i64 0, .string (ba []), .string (ba [])] HN3.out (by kernel_rfl) rfl (one6 _ _ _ _ _ _) ?_; intro w6 hb6 hg6; have HS6 : Hid (Blk w6 g3 39 [.string (ba z.nm), .int .i64 z.st, .int .i64 z.am, .int .i64 z.du, .string (ba z.po), .string (ba z.pa)]) := Lib.hid hb6; have HT6 := Lib.hid hg6; clear hb6 hg6
        refine hK.out _ _ ⟨only_new_ hHeld.1 HT6.out (HJ.out), hHeld.2.grown HT6.out (fun e => hHeld.2.ne_ HN3.out (by decide) (Option.some.inj e))⟩ (fun hHeld1 => ?_)
        clear hHeld hK K
        have hHeld := hHeld1
        clear hHeld1
        change wpAnyH _ _ _ _ _ _ _ (Act.put _ none undef) _
        simp only [Act.put]
        refine wpAnyH_take (i := 16) (v := (.bool false)) rfl (by kernel_rfl) (by kernel_rfl) (by kernel_rfl) (fun _ _ _ h => h) (Or.inl ⟨by kernel_rfl, fun w hSw => ?_⟩) (by assumption) ?_
        · (try dsimp only at hSw); go_simp <;> (try rfl)
        change wpAnyH _ _ _ _ _ _ _ (Act.put _ (some (4 : Nat)) (.bool false)) _
        simp only [Act.put, List.setIfInBounds_toArray, List.set_cons_zero, List.set_cons_succ]
        refine wpAnyH_done (by kernel_rfl) ?_ _
        have HGe := Lib.hid hHeld.1
        have HBe := Lib.hid hHeld.2
        have c2 := HBe.out.cellAt (i := 2) rfl
        clear hHeld
        go_wp2
        go_ret
        exact ⟨(by first | trivial | exact ret_i64 rfl), HGe.out, fun h => absurd ⟨(by first | trivial | rfl), HO.out⟩ h⟩
      · as_aux_lemma =>
        refine step_alloc_lg rfl rfl (Tryz.alloc_lt' _) ?_; intro g3 w3 hq3 hb3 hw3; have HN3 : Hid (Blk w3 g3 39 [.string (ba []), .int .i64 0, .int .i64 0, .int .i64 0, .string (ba []), .string (ba [])]) := Lib.hid hb3; have HQ3 := Lib.hid hw3; have HJ : Hid (w.heap.size ≤ g3) := Lib.hid (Nat.le_trans hHeld.1.size hq3); clear hb3 hw3 hq3
        refine hK.out _ _ ⟨only_trans hHeld.1 (only_below HQ3.out), hHeld.2.through HQ3.out⟩ (fun hHeld1 => ?_)
        clear hHeld hK K
        have hHeld := hHeld1
        clear hHeld1
        change wpAnyH _ _ _ _ _ _ _ (Act.put _ (some (3 : Nat)) (.pointer (some ⟨g3, 0, none⟩))) _
        simp only [Act.put, List.setIfInBounds_toArray, List.set_cons_zero, List.set_cons_succ]
        refine wpAnyH_ready (rs := [10]) (by kernel_rfl) (by simp) ?_
        refine AllReadyH.cons rfl (fun K hK => ?_) AllReadyH.nil
        go_simp
        refine (HF.out _ (HLd.out.through HQ3.out)).mono ?_
        rintro e w5 ⟨rfl, hb5⟩; have HN3b := Lib.hid (HN3.out.through hb5); have HW5 := Lib.hid hb5; clear hb5
        go_wp2_with fail
        refine hK.out _ _ ⟨only_trans hHeld.1 (only_below HW5.out), hHeld.2.through HW5.out⟩ (fun hHeld1 => ?_)
        clear hHeld hK K
        have hHeld := hHeld1
        clear hHeld1
        refine wpAnyH_take (i := 11) (v := (.tuple #[.agg #[.string (ba z.nm), .int .i64 z.st, .int .i64 z.am, .int .i64 z.du, .string (ba z.po), .string (ba z.pa)], .bool false])) rfl (by kernel_rfl) (by kernel_rfl) (by kernel_rfl) (fun _ _ _ h => h) (Or.inl ⟨by kernel_rfl, fun w hSw => ?_⟩) (by assumption) ?_
        · (try dsimp only at hSw); go_simp <;> (try rfl)
        change wpAnyH _ _ _ _ _ _ _ (Act.put _ (some (5 : Nat)) (.tuple #[.agg #[.string (ba z.nm), .int .i64 z.st, .int .i64 z.am, .int .i64 z.du, .string (ba z.po), .string (ba z.pa)], .bool false])) _
        simp only [Act.put, List.setIfInBounds_toArray, List.set_cons_zero, List.set_cons_succ]
        refine wpAnyH_take (i := 12) (v := (.agg #[.string (ba z.nm), .int .i64 z.st, .int .i64 z.am, .int .i64 z.du, .string (ba z.po), .string (ba z.pa)])) rfl (by kernel_rfl) (by kernel_rfl) (by kernel_rfl) (fun _ _ _ h => h) (Or.inl ⟨by kernel_rfl, fun w hSw => ?_⟩) (by assumption) ?_
        · (try dsimp only at hSw); go_simp <;> (try rfl)
        change wpAnyH _ _ _ _ _ _ _ (Act.put _ (some (17 : Nat)) (.agg #[.string (ba z.nm), .int .i64 z.st, .int .i64 z.am, .int .i64 z.du, .string (ba z.po), .string (ba z.pa)])) _
        simp only [Act.put, List.setIfInBounds_toArray, List.set_cons_zero, List.set_cons_succ]
        refine wpAnyH_take (i := 13) (v := (.bool false)) rfl (by kernel_rfl) (by kernel_rfl) (by kernel_rfl) (fun _ _ _ h => h) (Or.inl ⟨by kernel_rfl, fun w hSw => ?_⟩) (by assumption) ?_
        · (try dsimp only at hSw); go_simp <;> (try rfl)
        change wpAnyH _ _ _ _ _ _ _ (Act.put _ (some (18 : Nat)) (.bool false)) _
        simp only [Act.put, List.setIfInBounds_toArray, List.set_cons_zero, List.set_cons_succ]
        refine wpAnyH_ready (rs := [15]) (by kernel_rfl) (by simp) ?_
        refine AllReadyH.cons (o := ⟨none, .store 39 (.tmp 3) (.tmp 17), _, _, _, none⟩) rfl (fun K hK => ?_) AllReadyH.nil
        refine step_store_blk rfl 39 (.tmp 3) (.tmp 17) rfl g3 [.string (ba z.nm), .int .i64 z.st, .int .i64 z.am, .int .i64 z.du, .string (ba z.po), .string (ba z.pa)] rfl rfl 39 [.string (ba []), .int .i64 0, .int .i64 0, .int .i64 0, .string (ba []), .string (ba [])] HN3b.out (by kernel_rfl) rfl (one6 _ _ _ _ _ _) ?_; intro w6 hb6 hg6; have HS6 : Hid (Blk w6 g3 39 [.string (ba z.nm), .int .i64 z.st, .int .i64 z.am, .int .i64 z.du, .string (ba z.po), .string (ba z.pa)]) := Lib.hid hb6; have HT6 := Lib.hid hg6; clear hb6 hg6
        refine hK.out _ _ ⟨only_new_ hHeld.1 HT6.out (HJ.out), hHeld.2.grown HT6.out (fun e => hHeld.2.ne_ HN3b.out (by decide) (Option.some.inj e))⟩ (fun hHeld1 => ?_)
        clear hHeld hK K
        have hHeld := hHeld1
        clear hHeld1
        change wpAnyH _ _ _ _ _ _ _ (Act.put _ none undef) _
        simp only [Act.put]
        refine wpAnyH_take (i := 16) (v := (.bool false)) rfl (by kernel_rfl) (by kernel_rfl) (by kernel_rfl) (fun _ _ _ h => h) (Or.inl ⟨by kernel_rfl, fun w hSw => ?_⟩) (by assumption) ?_
        · (try dsimp only at hSw); go_simp <;> (try rfl)
        change wpAnyH _ _ _ _ _ _ _ (Act.put _ (some (4 : Nat)) (.bool false)) _
        simp only [Act.put, List.setIfInBounds_toArray, List.set_cons_zero, List.set_cons_succ]
        refine wpAnyH_done (by kernel_rfl) ?_ _
        have HGe := Lib.hid hHeld.1
        have HBe := Lib.hid hHeld.2
        have c2 := HBe.out.cellAt (i := 2) rfl
        clear hHeld
        go_wp2
        go_ret
        exact ⟨(by first | trivial | exact ret_i64 rfl), HGe.out, fun h => absurd ⟨(by first | trivial | rfl), HO.out⟩ h⟩


end Go.Proofs.YtfflkodgojiklaaGreatDoor
