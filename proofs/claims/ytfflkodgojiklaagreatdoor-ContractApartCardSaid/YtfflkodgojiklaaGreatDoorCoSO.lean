/-
  The step 'store' of an entry that is being done.
-/
import Derived.Test.YtfflkodgojiklaaGreatDoorCoF
namespace Go.Proofs.YtfflkodgojiklaaGreatDoor
open Go.RowKit

set_option maxHeartbeats 8000000 in
set_option maxRecDepth 100000 in
theorem dstore_any (y : Ey) (n : Int) (l : Lg) (A : Option Addr) (nn c : Nat) (B : Option Addr) (m d : Nat) (x : Lt) (o a : Int) (F : Option Addr) (k kc : Nat) (g : Nat) (w : World) (hB : Blk w g 61 [.int .i64 y.co.cl, .int .i64 y.co.sp, .int .i64 y.co.op, .string (ba y.co.lt), .int .i64 y.co.a, .int .i64 y.co.b, .string (ba y.co.tx), .int .u32 (y.ms : Int), .int .i64 n, .int .i64 l.sq, .int .i64 l.tt, .slice A nn c, .slice B m d, .string (ba x.nm), .int .i64 x.st, .int .i64 x.am, .int .i64 x.du, .string (ba x.po), .string (ba x.pa), .int .i64 o, .int .i64 a, .slice F k kc]) (hL : LgIn w A nn B m l) (hn : nn ≤ 1000) (hm : m ≤ 1000000) (hnc : nn ≤ c) (hx : x.nm.length ≤ 140737488355328) :
    Calls Tryz.prog 23 #[.pointer (some ⟨g, 0, none⟩)] w fun e w' => e = .returned (.int .i64 (withL l x).2) ∧ w.grownBy w' (some g) ∧ ∃ A5 n5 c5 B5 m5 d5, Blk w' g 61 [.int .i64 y.co.cl, .int .i64 y.co.sp, .int .i64 y.co.op, .string (ba y.co.lt), .int .i64 y.co.a, .int .i64 y.co.b, .string (ba y.co.tx), .int .u32 (y.ms : Int), .int .i64 n, .int .i64 (withL l x).1.sq, .int .i64 (withL l x).1.tt, .slice A5 n5 c5, .slice B5 m5 d5, .string (ba x.nm), .int .i64 x.st, .int .i64 x.am, .int .i64 x.du, .string (ba x.po), .string (ba x.pa), .int .i64 o, .int .i64 a, .slice F k kc] ∧ LgIn w' A5 n5 B5 m5 (withL l x).1 ∧ n5 ≤ c5 ∧ m5 ≤ d5 ∧ (∀ a, A5 = some a → w.heap.size ≤ a.block) ∧ ∀ a, B5 = some a → w.heap.size ≤ a.block := by
  have HLd := Lib.hid (hL.through (below_drew w))
  have hf : ∀ W, LgIn W A nn B m l → Calls Tryz.prog 41 #[l.val A nn c B m d, .agg #[.string (ba x.nm), .int .i64 x.st, .int .i64 x.am, .int .i64 x.du, .string (ba x.po), .string (ba x.pa)]] W (LgOutCE W (withL l x).1 (withL l x).2) := fun W hW => with_any l x A nn c B m d W hW hn hm hnc hx
  obtain ⟨⟨l1, r⟩, hr⟩ : ∃ r, withL l x = r := ⟨_, rfl⟩
  rw [hr] at hf ⊢
  simp only at hf ⊢
  have hf2 : ∀ W, LgIn W A nn B m l → Calls Tryz.prog 41 #[.agg #[.int .i64 l.sq, .int .i64 l.tt, .slice A nn c, .slice B m d], .agg #[.string (ba x.nm), .int .i64 x.st, .int .i64 x.am, .int .i64 x.du, .string (ba x.po), .string (ba x.pa)]] W fun e w' => ∃ A5 n5 c5 B5 m5 d5, e = .returned (.tuple #[.agg #[.int .i64 l1.sq, .int .i64 l1.tt, .slice A5 n5 c5, .slice B5 m5 d5], .int .i64 r]) ∧ LgIn w' A5 n5 B5 m5 l1 ∧ n5 ≤ c5 ∧ m5 ≤ d5 ∧ Below W.heap.size W w' ∧ (∀ a, A5 = some a → W.heap.size ≤ a.block) ∧ ∀ a, B5 = some a → W.heap.size ≤ a.block := hf
  have HF := Lib.hid hf2
  have HB := Lib.hid hB
  have HLt := Lib.hid hB.lt
  clear hf hf2 hB hL hr
  go_enter Tryz.func23, Tryz.ntmps23
  go_wp2
  try dsimp only [Act.put]
  refine wp_region_held_drew (S := fun W => w.grownBy W (some g) ∧ Blk W g 61 [.int .i64 y.co.cl, .int .i64 y.co.sp, .int .i64 y.co.op, .string (ba y.co.lt), .int .i64 y.co.a, .int .i64 y.co.b, .string (ba y.co.tx), .int .u32 (y.ms : Int), .int .i64 n, .int .i64 l.sq, .int .i64 l.tt, .slice A nn c, .slice B m d, .string (ba x.nm), .int .i64 x.st, .int .i64 x.am, .int .i64 x.du, .string (ba x.po), .string (ba x.pa), .int .i64 o, .int .i64 a, .slice F k kc]) (by kernel_rfl) ⟨only_drew w g, HB.out.drew⟩ (fun hHeld => ?_)
  change wpAnyH _ _ _ _ _ _ #[false, false, false, false, false, false, false, false, false, false, false, false, false, false, false] _ _
  refine wpAnyH_take (i := 0) (v := (.pointer (some ⟨g, 0, none⟩))) rfl (by kernel_rfl) (by kernel_rfl) (by kernel_rfl) (fun _ _ _ h => h) (Or.inl ⟨by kernel_rfl, fun w hSw => ?_⟩) (by assumption) ?_
  · (try dsimp only at hSw); go_simp <;> (try rfl)
  change wpAnyH _ _ _ _ _ _ _ (Act.put _ (some (6 : Nat)) (.pointer (some ⟨g, 0, none⟩))) _
  simp only [Act.put, List.setIfInBounds_toArray, List.set_cons_zero, List.set_cons_succ]
  refine wpAnyH_take (i := 1) (v := (.pointer (some ⟨g, 0, none⟩))) rfl (by kernel_rfl) (by kernel_rfl) (by kernel_rfl) (fun _ _ _ h => h) (Or.inl ⟨by kernel_rfl, fun w hSw => ?_⟩) (by assumption) ?_
  · (try dsimp only at hSw); go_simp <;> (try rfl)
  change wpAnyH _ _ _ _ _ _ _ (Act.put _ (some (7 : Nat)) (.pointer (some ⟨g, 0, none⟩))) _
  simp only [Act.put, List.setIfInBounds_toArray, List.set_cons_zero, List.set_cons_succ]
  refine wpAnyH_take (i := 2) (v := (.pointer (some ⟨g, 9, none⟩))) rfl (by kernel_rfl) (by kernel_rfl) (by kernel_rfl) (fun _ _ _ h => h) (Or.inl ⟨by kernel_rfl, fun w hSw => ?_⟩) (by assumption) ?_
  · (try dsimp only at hSw); go_simp <;> (try rfl)
  change wpAnyH _ _ _ _ _ _ _ (Act.put _ (some (8 : Nat)) (.pointer (some ⟨g, 9, none⟩))) _
  simp only [Act.put, List.setIfInBounds_toArray, List.set_cons_zero, List.set_cons_succ]
  refine wpAnyH_take (i := 3) (v := (.agg #[.int .i64 l.sq, .int .i64 l.tt, .slice A nn c, .slice B m d])) rfl (by kernel_rfl) (by kernel_rfl) (by kernel_rfl) (fun _ _ _ h => h) (yieldsIf_load_mid (by kernel_rfl) 25 (.tmp 8) rfl g (9) (by simp [Act.eval]) [.int .i64 l.sq, .int .i64 l.tt, .slice A nn c, .slice B m d] _ (fun W hW => hW.2.mid [.int .i64 y.co.cl, .int .i64 y.co.sp, .int .i64 y.co.op, .string (ba y.co.lt), .int .i64 y.co.a, .int .i64 y.co.b, .string (ba y.co.tx), .int .u32 (y.ms : Int), .int .i64 n] _ [.string (ba x.nm), .int .i64 x.st, .int .i64 x.am, .int .i64 x.du, .string (ba x.po), .string (ba x.pa), .int .i64 o, .int .i64 a, .slice F k kc] _ rfl rfl) Tryz.underlying25 rfl (by kernel_rfl)) (by assumption) ?_
  change wpAnyH _ _ _ _ _ _ _ (Act.put _ (some (9 : Nat)) (.agg #[.int .i64 l.sq, .int .i64 l.tt, .slice A nn c, .slice B m d])) _
  simp only [Act.put, List.setIfInBounds_toArray, List.set_cons_zero, List.set_cons_succ]
  refine wpAnyH_take (i := 4) (v := (.pointer (some ⟨g, 0, none⟩))) rfl (by kernel_rfl) (by kernel_rfl) (by kernel_rfl) (fun _ _ _ h => h) (Or.inl ⟨by kernel_rfl, fun w hSw => ?_⟩) (by assumption) ?_
  · (try dsimp only at hSw); go_simp <;> (try rfl)
  change wpAnyH _ _ _ _ _ _ _ (Act.put _ (some (10 : Nat)) (.pointer (some ⟨g, 0, none⟩))) _
  simp only [Act.put, List.setIfInBounds_toArray, List.set_cons_zero, List.set_cons_succ]
  refine wpAnyH_take (i := 5) (v := (.pointer (some ⟨g, 0, none⟩))) rfl (by kernel_rfl) (by kernel_rfl) (by kernel_rfl) (fun _ _ _ h => h) (Or.inl ⟨by kernel_rfl, fun w hSw => ?_⟩) (by assumption) ?_
  · (try dsimp only at hSw); go_simp <;> (try rfl)
  change wpAnyH _ _ _ _ _ _ _ (Act.put _ (some (11 : Nat)) (.pointer (some ⟨g, 0, none⟩))) _
  simp only [Act.put, List.setIfInBounds_toArray, List.set_cons_zero, List.set_cons_succ]
  refine wpAnyH_take (i := 6) (v := (.pointer (some ⟨g, 13, none⟩))) rfl (by kernel_rfl) (by kernel_rfl) (by kernel_rfl) (fun _ _ _ h => h) (Or.inl ⟨by kernel_rfl, fun w hSw => ?_⟩) (by assumption) ?_
  · (try dsimp only at hSw); go_simp <;> (try rfl)
  change wpAnyH _ _ _ _ _ _ _ (Act.put _ (some (12 : Nat)) (.pointer (some ⟨g, 13, none⟩))) _
  simp only [Act.put, List.setIfInBounds_toArray, List.set_cons_zero, List.set_cons_succ]
  refine wpAnyH_take (i := 7) (v := (.agg #[.string (ba x.nm), .int .i64 x.st, .int .i64 x.am, .int .i64 x.du, .string (ba x.po), .string (ba x.pa)])) rfl (by kernel_rfl) (by kernel_rfl) (by kernel_rfl) (fun _ _ _ h => h) (yieldsIf_load_mid (by kernel_rfl) 39 (.tmp 12) rfl g (13) (by simp [Act.eval]) [.string (ba x.nm), .int .i64 x.st, .int .i64 x.am, .int .i64 x.du, .string (ba x.po), .string (ba x.pa)] _ (fun W hW => hW.2.mid [.int .i64 y.co.cl, .int .i64 y.co.sp, .int .i64 y.co.op, .string (ba y.co.lt), .int .i64 y.co.a, .int .i64 y.co.b, .string (ba y.co.tx), .int .u32 (y.ms : Int), .int .i64 n, .int .i64 l.sq, .int .i64 l.tt, .slice A nn c, .slice B m d] _ [.int .i64 o, .int .i64 a, .slice F k kc] _ rfl rfl) Tryz.underlying39 rfl (by kernel_rfl)) (by assumption) ?_
  change wpAnyH _ _ _ _ _ _ _ (Act.put _ (some (13 : Nat)) (.agg #[.string (ba x.nm), .int .i64 x.st, .int .i64 x.am, .int .i64 x.du, .string (ba x.po), .string (ba x.pa)])) _
  simp only [Act.put, List.setIfInBounds_toArray, List.set_cons_zero, List.set_cons_succ]
  refine wpAnyH_ready (rs := [8, 12]) (by kernel_rfl) (by simp) ?_
  refine AllReadyH.cons rfl (fun K hK => ?_) (AllReadyH.cons (o := ⟨some 3, .alloc 25, _, _, _, none⟩) rfl (fun K hK => ?_) AllReadyH.nil)
  · as_aux_lemma =>
    go_simp
    refine (HF.out _ HLd.out).mono ?_
    rintro e w5 ⟨A5, n5, c5, B5, m5, d5, rfl, hl5, hc5, hd5, hb5, hf5, hg5⟩; have HW5 := Lib.hid hb5; have HL5 := Lib.hid hl5; have HC5 := Lib.hid hc5; have HD5 := Lib.hid hd5; have HF5 := Lib.hid (fun a ha => Nat.le_trans hHeld.1.size (hf5 a ha)); have HF6 := Lib.hid (fun a ha => Nat.le_trans hHeld.1.size (hg5 a ha)); clear hb5 hl5 hc5 hd5 hf5 hg5
    go_wp2_with fail
    refine hK.out _ _ ⟨only_trans hHeld.1 (only_below HW5.out), hHeld.2.through HW5.out⟩ (fun hHeld1 => ?_)
    clear hHeld hK K
    have hHeld := hHeld1
    clear hHeld1
    refine wpAnyH_take (i := 9) (v := (.tuple #[.agg #[.int .i64 l1.sq, .int .i64 l1.tt, .slice A5 n5 c5, .slice B5 m5 d5], .int .i64 r])) rfl (by kernel_rfl) (by kernel_rfl) (by kernel_rfl) (fun _ _ _ h => h) (Or.inl ⟨by kernel_rfl, fun w hSw => ?_⟩) (by assumption) ?_
    · (try dsimp only at hSw); go_simp <;> (try rfl)
    change wpAnyH _ _ _ _ _ _ _ (Act.put _ (some (5 : Nat)) (.tuple #[.agg #[.int .i64 l1.sq, .int .i64 l1.tt, .slice A5 n5 c5, .slice B5 m5 d5], .int .i64 r])) _
    simp only [Act.put, List.setIfInBounds_toArray, List.set_cons_zero, List.set_cons_succ]
    refine wpAnyH_take (i := 10) (v := (.agg #[.int .i64 l1.sq, .int .i64 l1.tt, .slice A5 n5 c5, .slice B5 m5 d5])) rfl (by kernel_rfl) (by kernel_rfl) (by kernel_rfl) (fun _ _ _ h => h) (Or.inl ⟨by kernel_rfl, fun w hSw => ?_⟩) (by assumption) ?_
    · (try dsimp only at hSw); go_simp <;> (try rfl)
    change wpAnyH _ _ _ _ _ _ _ (Act.put _ (some (15 : Nat)) (.agg #[.int .i64 l1.sq, .int .i64 l1.tt, .slice A5 n5 c5, .slice B5 m5 d5])) _
    simp only [Act.put, List.setIfInBounds_toArray, List.set_cons_zero, List.set_cons_succ]
    refine wpAnyH_take (i := 11) (v := (.int .i64 r)) rfl (by kernel_rfl) (by kernel_rfl) (by kernel_rfl) (fun _ _ _ h => h) (Or.inl ⟨by kernel_rfl, fun w hSw => ?_⟩) (by assumption) ?_
    · (try dsimp only at hSw); go_simp <;> (try rfl)
    change wpAnyH _ _ _ _ _ _ _ (Act.put _ (some (16 : Nat)) (.int .i64 r)) _
    simp only [Act.put, List.setIfInBounds_toArray, List.set_cons_zero, List.set_cons_succ]
    refine wpAnyH_ready (rs := [12]) (by kernel_rfl) (by simp) ?_
    refine AllReadyH.cons (o := ⟨some 3, .alloc 25, _, _, _, none⟩) rfl (fun K hK => ?_) AllReadyH.nil
    refine step_alloc_lg rfl rfl (Tryz.alloc_lg' _) ?_; intro g3 w3 hq3 hb3 hw3; have HN3 : Hid (Blk w3 g3 25 [.int .i64 0, .int .i64 0, .slice none 0 0, .slice none 0 0]) := Lib.hid hb3; have HQ3 := Lib.hid hw3; have HJ : Hid (w.heap.size ≤ g3) := Lib.hid (Nat.le_trans hHeld.1.size hq3); have HJ5 := Lib.hid hq3; clear hb3 hw3 hq3
    refine hK.out _ _ ⟨only_trans hHeld.1 (only_below HQ3.out), hHeld.2.through HQ3.out⟩ (fun hHeld1 => ?_)
    clear hHeld hK K
    have hHeld := hHeld1
    clear hHeld1
    change wpAnyH _ _ _ _ _ _ _ (Act.put _ (some (3 : Nat)) (.pointer (some ⟨g3, 0, none⟩))) _
    simp only [Act.put, List.setIfInBounds_toArray, List.set_cons_zero, List.set_cons_succ]
    refine wpAnyH_ready (rs := [13]) (by kernel_rfl) (by simp) ?_
    refine AllReadyH.cons (o := ⟨none, .store 25 (.tmp 3) (.tmp 15), _, _, _, none⟩) rfl (fun K hK => ?_) AllReadyH.nil
    refine step_store_blk rfl 25 (.tmp 3) (.tmp 15) rfl g3 [.int .i64 l1.sq, .int .i64 l1.tt, .slice A5 n5 c5, .slice B5 m5 d5] rfl rfl 25 [.int .i64 0, .int .i64 0, .slice none 0 0, .slice none 0 0] HN3.out (by kernel_rfl) rfl (one4l _ _ _ _ _ _ _ _) ?_; intro w6 hb6 hg6; have HS6 : Hid (Blk w6 g3 25 [.int .i64 l1.sq, .int .i64 l1.tt, .slice A5 n5 c5, .slice B5 m5 d5]) := Lib.hid hb6; have HT6 := Lib.hid hg6; have HL6 := Lib.hid (HL5.out.through (HQ3.out.grown hg6 HQ3.out.size (fun k hk => by have := Option.some.inj hk; have := HJ5.out; omega))); clear hb6 hg6
    refine hK.out _ _ ⟨only_new_ hHeld.1 HT6.out (HJ.out), hHeld.2.grown HT6.out (fun e => hHeld.2.ne_ HN3.out (by decide) (Option.some.inj e))⟩ (fun hHeld1 => ?_)
    clear hHeld hK K
    have hHeld := hHeld1
    clear hHeld1
    change wpAnyH _ _ _ _ _ _ _ (Act.put _ none undef) _
    simp only [Act.put]
    refine wpAnyH_take (i := 14) (v := (.int .i64 r)) rfl (by kernel_rfl) (by kernel_rfl) (by kernel_rfl) (fun _ _ _ h => h) (Or.inl ⟨by kernel_rfl, fun w hSw => ?_⟩) (by assumption) ?_
    · (try dsimp only at hSw); go_simp <;> (try rfl)
    change wpAnyH _ _ _ _ _ _ _ (Act.put _ (some (4 : Nat)) (.int .i64 r)) _
    simp only [Act.put, List.setIfInBounds_toArray, List.set_cons_zero, List.set_cons_succ]
    refine wpAnyH_done (by kernel_rfl) ?_ _
    have HGe := Lib.hid hHeld.1
    have HBe := Lib.hid hHeld.2
    clear hHeld
    go_wp2_with (first
  | (refine wpList_load_blk rfl 25 (.tmp 3) rfl g3 rfl 25 [.int .i64 l1.sq, .int .i64 l1.tt, .slice A5 n5 c5, .slice B5 m5 d5] _ HS6.out Tryz.underlying25 rfl (by kernel_rfl) ?_)
  | (refine wpList_store_in rfl 25 (.tmp 20) (.tmp 18) rfl g 9 [.int .i64 l1.sq, .int .i64 l1.tt, .slice A5 n5 c5, .slice B5 m5 d5] rfl rfl 61 [.int .i64 y.co.cl, .int .i64 y.co.sp, .int .i64 y.co.op, .string (ba y.co.lt), .int .i64 y.co.a, .int .i64 y.co.b, .string (ba y.co.tx), .int .u32 (y.ms : Int), .int .i64 n] [.int .i64 l.sq, .int .i64 l.tt, .slice A nn c, .slice B m d] [.string (ba x.nm), .int .i64 x.st, .int .i64 x.am, .int .i64 x.du, .string (ba x.po), .string (ba x.pa), .int .i64 o, .int .i64 a, .slice F k kc] HBe.out rfl (by kernel_rfl) rfl (one4l _ _ _ _ _ _ _ _) ?_; intro w9 hb9 hg9; have HB9 : Hid (Blk w9 g 61 [.int .i64 y.co.cl, .int .i64 y.co.sp, .int .i64 y.co.op, .string (ba y.co.lt), .int .i64 y.co.a, .int .i64 y.co.b, .string (ba y.co.tx), .int .u32 (y.ms : Int), .int .i64 n, .int .i64 l1.sq, .int .i64 l1.tt, .slice A5 n5 c5, .slice B5 m5 d5, .string (ba x.nm), .int .i64 x.st, .int .i64 x.am, .int .i64 x.du, .string (ba x.po), .string (ba x.pa), .int .i64 o, .int .i64 a, .slice F k kc]) := Lib.hid hb9; have HZ9 := Lib.hid hg9; have HG9 := Lib.hid (only_trans HGe.out hg9); clear hb9 hg9))
    go_ret
    refine ⟨(by first | trivial | exact ret_i64 rfl), HG9.out, A5, n5, c5, B5, m5, d5, HB9.out, ⟨HL6.out.1.far HZ9.out (fun a ha => by have := HF5.out a ha; have := HLt.out; omega), HL6.out.2.far HZ9.out (fun a ha => by have := HF6.out a ha; have := HLt.out; omega)⟩, HC5.out, HD5.out, HF5.out, HF6.out⟩
  · as_aux_lemma =>
    refine step_alloc_lg rfl rfl (Tryz.alloc_lg' _) ?_; intro g3 w3 hq3 hb3 hw3; have HN3 : Hid (Blk w3 g3 25 [.int .i64 0, .int .i64 0, .slice none 0 0, .slice none 0 0]) := Lib.hid hb3; have HQ3 := Lib.hid hw3; have HJ : Hid (w.heap.size ≤ g3) := Lib.hid (Nat.le_trans hHeld.1.size hq3); clear hb3 hw3 hq3
    refine hK.out _ _ ⟨only_trans hHeld.1 (only_below HQ3.out), hHeld.2.through HQ3.out⟩ (fun hHeld1 => ?_)
    clear hHeld hK K
    have hHeld := hHeld1
    clear hHeld1
    change wpAnyH _ _ _ _ _ _ _ (Act.put _ (some (3 : Nat)) (.pointer (some ⟨g3, 0, none⟩))) _
    simp only [Act.put, List.setIfInBounds_toArray, List.set_cons_zero, List.set_cons_succ]
    refine wpAnyH_ready (rs := [8]) (by kernel_rfl) (by simp) ?_
    refine AllReadyH.cons rfl (fun K hK => ?_) AllReadyH.nil
    go_simp
    refine (HF.out _ (HLd.out.through HQ3.out)).mono ?_
    rintro e w5 ⟨A5, n5, c5, B5, m5, d5, rfl, hl5, hc5, hd5, hb5, hf5, hg5⟩; have HN3b := Lib.hid (HN3.out.through hb5); have HK5 := Lib.hid (fun a ha => Nat.lt_of_lt_of_le HN3.out.lt (hf5 a ha)); have HK6 := Lib.hid (fun a ha => Nat.lt_of_lt_of_le HN3.out.lt (hg5 a ha)); have HW5 := Lib.hid hb5; have HL5 := Lib.hid hl5; have HC5 := Lib.hid hc5; have HD5 := Lib.hid hd5; have HF5 := Lib.hid (fun a ha => Nat.le_trans hHeld.1.size (hf5 a ha)); have HF6 := Lib.hid (fun a ha => Nat.le_trans hHeld.1.size (hg5 a ha)); clear hb5 hl5 hc5 hd5 hf5 hg5
    go_wp2_with fail
    refine hK.out _ _ ⟨only_trans hHeld.1 (only_below HW5.out), hHeld.2.through HW5.out⟩ (fun hHeld1 => ?_)
    clear hHeld hK K
    have hHeld := hHeld1
    clear hHeld1
    refine wpAnyH_take (i := 9) (v := (.tuple #[.agg #[.int .i64 l1.sq, .int .i64 l1.tt, .slice A5 n5 c5, .slice B5 m5 d5], .int .i64 r])) rfl (by kernel_rfl) (by kernel_rfl) (by kernel_rfl) (fun _ _ _ h => h) (Or.inl ⟨by kernel_rfl, fun w hSw => ?_⟩) (by assumption) ?_
    · (try dsimp only at hSw); go_simp <;> (try rfl)
    change wpAnyH _ _ _ _ _ _ _ (Act.put _ (some (5 : Nat)) (.tuple #[.agg #[.int .i64 l1.sq, .int .i64 l1.tt, .slice A5 n5 c5, .slice B5 m5 d5], .int .i64 r])) _
    simp only [Act.put, List.setIfInBounds_toArray, List.set_cons_zero, List.set_cons_succ]
    refine wpAnyH_take (i := 10) (v := (.agg #[.int .i64 l1.sq, .int .i64 l1.tt, .slice A5 n5 c5, .slice B5 m5 d5])) rfl (by kernel_rfl) (by kernel_rfl) (by kernel_rfl) (fun _ _ _ h => h) (Or.inl ⟨by kernel_rfl, fun w hSw => ?_⟩) (by assumption) ?_
    · (try dsimp only at hSw); go_simp <;> (try rfl)
    change wpAnyH _ _ _ _ _ _ _ (Act.put _ (some (15 : Nat)) (.agg #[.int .i64 l1.sq, .int .i64 l1.tt, .slice A5 n5 c5, .slice B5 m5 d5])) _
    simp only [Act.put, List.setIfInBounds_toArray, List.set_cons_zero, List.set_cons_succ]
    refine wpAnyH_take (i := 11) (v := (.int .i64 r)) rfl (by kernel_rfl) (by kernel_rfl) (by kernel_rfl) (fun _ _ _ h => h) (Or.inl ⟨by kernel_rfl, fun w hSw => ?_⟩) (by assumption) ?_
    · (try dsimp only at hSw); go_simp <;> (try rfl)
    change wpAnyH _ _ _ _ _ _ _ (Act.put _ (some (16 : Nat)) (.int .i64 r)) _
    simp only [Act.put, List.setIfInBounds_toArray, List.set_cons_zero, List.set_cons_succ]
    refine wpAnyH_ready (rs := [13]) (by kernel_rfl) (by simp) ?_
    refine AllReadyH.cons (o := ⟨none, .store 25 (.tmp 3) (.tmp 15), _, _, _, none⟩) rfl (fun K hK => ?_) AllReadyH.nil
    refine step_store_blk rfl 25 (.tmp 3) (.tmp 15) rfl g3 [.int .i64 l1.sq, .int .i64 l1.tt, .slice A5 n5 c5, .slice B5 m5 d5] rfl rfl 25 [.int .i64 0, .int .i64 0, .slice none 0 0, .slice none 0 0] HN3b.out (by kernel_rfl) rfl (one4l _ _ _ _ _ _ _ _) ?_; intro w6 hb6 hg6; have HS6 : Hid (Blk w6 g3 25 [.int .i64 l1.sq, .int .i64 l1.tt, .slice A5 n5 c5, .slice B5 m5 d5]) := Lib.hid hb6; have HT6 := Lib.hid hg6; have HL6 : Hid (LgIn w6 A5 n5 B5 m5 l1) := Lib.hid ⟨HL5.out.1.far hg6 (fun a ha => by have := HK5.out a ha; omega), HL5.out.2.far hg6 (fun a ha => by have := HK6.out a ha; omega)⟩; clear hb6 hg6
    refine hK.out _ _ ⟨only_new_ hHeld.1 HT6.out (HJ.out), hHeld.2.grown HT6.out (fun e => hHeld.2.ne_ HN3b.out (by decide) (Option.some.inj e))⟩ (fun hHeld1 => ?_)
    clear hHeld hK K
    have hHeld := hHeld1
    clear hHeld1
    change wpAnyH _ _ _ _ _ _ _ (Act.put _ none undef) _
    simp only [Act.put]
    refine wpAnyH_take (i := 14) (v := (.int .i64 r)) rfl (by kernel_rfl) (by kernel_rfl) (by kernel_rfl) (fun _ _ _ h => h) (Or.inl ⟨by kernel_rfl, fun w hSw => ?_⟩) (by assumption) ?_
    · (try dsimp only at hSw); go_simp <;> (try rfl)
    change wpAnyH _ _ _ _ _ _ _ (Act.put _ (some (4 : Nat)) (.int .i64 r)) _
    simp only [Act.put, List.setIfInBounds_toArray, List.set_cons_zero, List.set_cons_succ]
    refine wpAnyH_done (by kernel_rfl) ?_ _
    have HGe := Lib.hid hHeld.1
    have HBe := Lib.hid hHeld.2
    clear hHeld
    go_wp2_with (first
  | (refine wpList_load_blk rfl 25 (.tmp 3) rfl g3 rfl 25 [.int .i64 l1.sq, .int .i64 l1.tt, .slice A5 n5 c5, .slice B5 m5 d5] _ HS6.out Tryz.underlying25 rfl (by kernel_rfl) ?_)
  | (refine wpList_store_in rfl 25 (.tmp 20) (.tmp 18) rfl g 9 [.int .i64 l1.sq, .int .i64 l1.tt, .slice A5 n5 c5, .slice B5 m5 d5] rfl rfl 61 [.int .i64 y.co.cl, .int .i64 y.co.sp, .int .i64 y.co.op, .string (ba y.co.lt), .int .i64 y.co.a, .int .i64 y.co.b, .string (ba y.co.tx), .int .u32 (y.ms : Int), .int .i64 n] [.int .i64 l.sq, .int .i64 l.tt, .slice A nn c, .slice B m d] [.string (ba x.nm), .int .i64 x.st, .int .i64 x.am, .int .i64 x.du, .string (ba x.po), .string (ba x.pa), .int .i64 o, .int .i64 a, .slice F k kc] HBe.out rfl (by kernel_rfl) rfl (one4l _ _ _ _ _ _ _ _) ?_; intro w9 hb9 hg9; have HB9 : Hid (Blk w9 g 61 [.int .i64 y.co.cl, .int .i64 y.co.sp, .int .i64 y.co.op, .string (ba y.co.lt), .int .i64 y.co.a, .int .i64 y.co.b, .string (ba y.co.tx), .int .u32 (y.ms : Int), .int .i64 n, .int .i64 l1.sq, .int .i64 l1.tt, .slice A5 n5 c5, .slice B5 m5 d5, .string (ba x.nm), .int .i64 x.st, .int .i64 x.am, .int .i64 x.du, .string (ba x.po), .string (ba x.pa), .int .i64 o, .int .i64 a, .slice F k kc]) := Lib.hid hb9; have HZ9 := Lib.hid hg9; have HG9 := Lib.hid (only_trans HGe.out hg9); clear hb9 hg9))
    go_ret
    refine ⟨(by first | trivial | exact ret_i64 rfl), HG9.out, A5, n5, c5, B5, m5, d5, HB9.out, ⟨HL6.out.1.far HZ9.out (fun a ha => by have := HF5.out a ha; have := HLt.out; omega), HL6.out.2.far HZ9.out (fun a ha => by have := HF6.out a ha; have := HLt.out; omega)⟩, HC5.out, HD5.out, HF5.out, HF6.out⟩


end Go.Proofs.YtfflkodgojiklaaGreatDoor
