/-
  The document's Same (out of formula).
-/
import Derived.Test.YtnpobhgecfjfgaaDoorTA
namespace Go.Proofs.YtnpobhgecfjfgaaDoor
open Go.RowKit

theorem Tryd.agg_fms (w : World) : (isAgg 23).run Tryd.prog w = .ok false w := by kernel_rfl

theorem Fm.sames_len : ∀ {ks ls : List Fm}, Fm.sames ks ls = true → ks.length = ls.length
  | [], [], _ => rfl
  | [], _ :: _, h => by simp [Fm.sames] at h
  | _ :: _, [], h => by simp [Fm.sames] at h
  | k :: ks, l :: ls, h => by
    simp only [Fm.sames, Bool.and_eq_true] at h
    simp [Fm.sames_len h.2]

theorem Fm.sames_cons (k l : Fm) (ks ls : List Fm) : Fm.sames (k :: ks) (l :: ls) = (k.same l && Fm.sames ks ls) := rfl

theorem Fm.same_eq (o a o' a' : Int) (ks ls : List Fm) : (Fm.mk o a ks).same (.mk o' a' ls) = (decide (o = o') && decide (a = a') && Fm.sames ks ls) := rfl

set_option maxHeartbeats 16000000 in
set_option maxRecDepth 100000 in
theorem rsame_any (f : Fm) : ∀ (g : Fm) (A B : Option Addr) (n c m e' : Nat) (w : World), f.In w (fun _ => True) A n → g.In w (fun _ => True) B m →
    Calls Tryd.prog 9 #[f.val A n c, g.val B m e'] w fun e w' => e = .returned (.bool (f.same g)) ∧ Below w.heap.size w w' := by
  induction f using Fm.ind with
  | h o a ks ih =>
    intro g A B n c m e' w h h'
    obtain ⟨o', a', ls⟩ := g
    rw [Fm.same_eq]
    obtain ⟨v, hv⟩ : ∃ v, v = (decide (o = o') && decide (a = a') && Fm.sames ks ls) := ⟨_, rfl⟩
    rw [← hv]
    have HI := Lib.hid ih
    have hmax := h.2.1
    unfold maxLen at hmax
    have hl1 := h.len
    have hl2 := h'.len
    have HF := Lib.hid h
    have HG := Lib.hid h'
    unfold Fm.val
    simp only [Fm.org, Fm.nd]
    have hB0 : Blk ((w.alloc (.cells #[.int .i64 o, .int .i64 a, .slice A n c] 25)).alloc (.cells #[.int .i64 o', .int .i64 a', .slice B m e'] 25)) w.heap.size 25 [.int .i64 o, .int .i64 a, .slice A n c] := (Blk.fresh rfl rfl).alloc _
    have hG0 : Blk ((w.alloc (.cells #[.int .i64 o, .int .i64 a, .slice A n c] 25)).alloc (.cells #[.int .i64 o', .int .i64 a', .slice B m e'] 25)) (w.heap.size + 1) 25 [.int .i64 o', .int .i64 a', .slice B m e'] := Blk.fresh (by simp) rfl
    have hX0 : Below w.heap.size w ((w.alloc (.cells #[.int .i64 o, .int .i64 a, .slice A n c] 25)).alloc (.cells #[.int .i64 o', .int .i64 a', .slice B m e'] 25)) := ((Below.refl _ w).alloc (Nat.le_refl _) _).alloc (by simp) _
    have HB0 := Lib.hid hB0
    have HG0 := Lib.hid hG0
    have HX0 := Lib.hid hX0
    clear ih h h' hB0 hG0 hX0
    by_cases ho : o = o'
    case neg =>
      have h4 : (o != o') = true := by simpa using ho
      have HV := Lib.hid hv
      clear hv
      go_enter Tryd.func9, Tryd.ntmps9
      go_wp2
      go_ret
      exact ⟨ret_bool (by rw [HV.out]; simp [ho]), HX0.out⟩
    by_cases ha : a = a'
    case neg =>
      have h4 : (o != o') = false := by simpa using ho
      have h5 : (a != a') = true := by simpa using ha
      clear ho
      have HV := Lib.hid hv
      clear hv
      go_enter Tryd.func9, Tryd.ntmps9
      go_wp2
      go_ret
      exact ⟨ret_bool (by rw [HV.out]; simp [ha]), HX0.out⟩
    by_cases hnm : n = m
    case neg =>
      have h4 : (o != o') = false := by simpa using ho
      have h5 : (a != a') = false := by simpa using ha
      have h6 : ((n : Int) != (m : Int)) = true := by simp; omega
      have hs : Fm.sames ks ls = false := by
        cases hb : Fm.sames ks ls
        · rfl
        · exact absurd (Fm.sames_len hb) (by omega)
      have HV := Lib.hid hv
      have HS := Lib.hid hs
      clear hv hs ho ha
      go_enter Tryd.func9, Tryd.ntmps9
      go_wp2
      go_ret
      exact ⟨ret_bool (by rw [HV.out, HS.out]; simp), HX0.out⟩
    subst ho ha hnm
    have HV : Hid (v = Fm.sames ks ls) := Lib.hid (by rw [hv]; simp)
    clear hv
    obtain ⟨bg, hbg⟩ : ∃ bg, bg = w.heap.size + 1 := ⟨_, rfl⟩
    go_enter Tryd.func9, Tryd.ntmps9
    go_wp2
    go_loopw [30] (fun iv wr => ∃ i : Nat, i ≤ n ∧ iv = .int .i64 i ∧ Below w.heap.size w wr ∧ Blk wr w.heap.size 25 [.int .i64 o, .int .i64 a, .slice A n c] ∧ Blk wr (w.heap.size + 1) 25 [.int .i64 o, .int .i64 a, .slice B n e'] ∧ Fm.sames ks ls = Fm.sames (ks.drop i) (ls.drop i)) (fun iv _ => n - (intOf iv).toNat)
    case atStart => exact ⟨0, Nat.zero_le _, rfl, HX0.out, HB0.out, HG0.out, rfl⟩
    case round =>
      obtain ⟨i, hi, rfl, hx, hbf, hbgg, hs⟩ := hrel
      have HX := Lib.hid hx
      have HBf := Lib.hid hbf
      have HBg := Lib.hid hbgg
      clear hx hbf hbgg
      by_cases hlt : i < n
      · obtain ⟨k, g1, b1, A1, n1, c1, hk1, hk2, hk3, rfl, _, hr1, hkk⟩ := (HF.out.through HX.out).kid hlt
        obtain ⟨l, g2, b2, A2, n2, c2, hl1', hl2', hl3, rfl, _, hr2, hll⟩ := (HG.out.through HX.out).kid hlt
        rw [hk3, hl3, Fm.sames_cons] at hs
        have HR1 := Lib.hid hr1
        have HR2 := Lib.hid hr2
        have HK1 := Lib.hid hkk
        have HK2 := Lib.hid hll
        have HL1 := Lib.hid (World.block_lt_of_cell? wr ⟨g1, b1 + i * 3 + 0, none⟩ (hr1 0 _ rfl))
        have HL2 := Lib.hid (World.block_lt_of_cell? wr ⟨g2, b2 + i * 3 + 0, none⟩ (hr2 0 _ rfl))
        have hcall : ∀ W, k.In W (fun _ => True) A1 n1 → l.In W (fun _ => True) A2 n2 → Calls Tryd.prog 9 #[.agg #[.int .i64 k.org, .int .i64 k.nd, .slice A1 n1 c1], .agg #[.int .i64 l.org, .int .i64 l.nd, .slice A2 n2 c2]] W fun e w' => e = .returned (.bool (k.same l)) ∧ Below W.heap.size W w' := fun W h1 h2 => HI.out k hk2 l A1 A2 n1 c1 n2 c2 W h1 h2
        clear hr1 hr2 hkk hll hk1 hk3 hl1' hl3
        have d1 := HBf.out.cellAt (i := 2) rfl
        have d2 := HBg.out.cellAt (i := 2) rfl
        cases hkl : k.same l <;> rw [hkl] at hcall hs <;> have HC := Lib.hid hcall <;> have HS := Lib.hid hs <;> clear hcall hs hkl
        · clear d1 d2
          obtain ⟨bf, hbf⟩ : ∃ bf, bf = w.heap.size := ⟨_, rfl⟩
          rw [← hbg] at HBg
          rw [← hbf] at HBf
          go_wp2
          rw [← hbg, ← hbf]
          try dsimp only [Act.put]
          refine wp_region_held_drew (S := fun W => Blk W bf 25 [.int .i64 o, .int .i64 a, .slice (some ⟨g1, b1, none⟩) n c] ∧ Blk W bg 25 [.int .i64 o, .int .i64 a, .slice (some ⟨g2, b2, none⟩) n e'] ∧ W.rangeAt g1 (b1 + i * 3) [.int .i64 k.org, .int .i64 k.nd, .slice A1 n1 c1] ∧ W.rangeAt g2 (b2 + i * 3) [.int .i64 l.org, .int .i64 l.nd, .slice A2 n2 c2]) (by kernel_rfl) ⟨HBf.out.drew, HBg.out.drew, HR1.out, HR2.out⟩ (fun hHeld => ?_)
          change wpAnyH _ _ _ _ _ _ #[false, false, false, false, false, false, false, false, false, false, false, false] _ _
          refine wpAnyH_take (i := 0) (v := (.pointer (some ⟨bf, 2, none⟩))) rfl (by kernel_rfl) (by kernel_rfl) (by kernel_rfl) (fun _ _ _ h => h) (Or.inl ⟨by kernel_rfl, fun w hSw => ?_⟩) (by assumption) ?_
          · (try dsimp only at hSw); go_simp <;> (try rfl)
          change wpAnyH _ _ _ _ _ _ _ (Act.put _ (some (33 : Nat)) (.pointer (some ⟨bf, 2, none⟩))) _
          simp only [Act.put, List.setIfInBounds_toArray, List.set_cons_zero, List.set_cons_succ]
          refine wpAnyH_take (i := 1) (v := (.slice (some ⟨g1, b1, none⟩) n c)) rfl (by kernel_rfl) (by kernel_rfl) (by kernel_rfl) (fun _ _ _ h => h) (yields_load_at (by kernel_rfl) 23 (.tmp 33) rfl (.pointer (some ⟨bf, 2, none⟩)) (by simp [Act.eval]) (.slice (some ⟨g1, b1, none⟩) n c) (fun W hW => load_one' (Tryd.agg_fms W) (hW.1.cellAt (i := 2) rfl))) (by assumption) ?_
          change wpAnyH _ _ _ _ _ _ _ (Act.put _ (some (34 : Nat)) (.slice (some ⟨g1, b1, none⟩) n c)) _
          simp only [Act.put, List.setIfInBounds_toArray, List.set_cons_zero, List.set_cons_succ]
          refine wpAnyH_take (i := 2) (v := (.int .i64 (i : Int))) rfl (by kernel_rfl) (by kernel_rfl) (by kernel_rfl) (fun _ _ _ h => h) (Or.inl ⟨by kernel_rfl, fun w hSw => ?_⟩) (by assumption) ?_
          · (try dsimp only at hSw); go_simp <;> (try rfl)
          change wpAnyH _ _ _ _ _ _ _ (Act.put _ (some (35 : Nat)) (.int .i64 (i : Int))) _
          simp only [Act.put, List.setIfInBounds_toArray, List.set_cons_zero, List.set_cons_succ]
          refine wpAnyH_take (i := 3) (v := (.pointer (some ⟨g1, b1 + i * 3, none⟩))) rfl (by kernel_rfl) (by kernel_rfl) (by kernel_rfl) (fun _ _ _ h => h) (Or.inl ⟨by kernel_rfl, fun w hSw => ?_⟩) (by assumption) ?_
          · (try dsimp only at hSw); go_simp <;> (try rfl)
          change wpAnyH _ _ _ _ _ _ _ (Act.put _ (some (36 : Nat)) (.pointer (some ⟨g1, b1 + i * 3, none⟩))) _
          simp only [Act.put, List.setIfInBounds_toArray, List.set_cons_zero, List.set_cons_succ]
          refine wpAnyH_take (i := 4) (v := (.agg [.int .i64 k.org, .int .i64 k.nd, .slice A1 n1 c1].toArray)) rfl (by kernel_rfl) (by kernel_rfl) (by kernel_rfl) (fun _ _ _ h => h) (yieldsIf_load_mid (by kernel_rfl) 25 (.tmp 36) rfl g1 (b1 + i * 3) (by simp [Act.eval]) [.int .i64 k.org, .int .i64 k.nd, .slice A1 n1 c1] _ (fun W hW => hW.2.2.1) Tryd.underlying25 rfl (by kernel_rfl)) (by assumption) ?_
          change wpAnyH _ _ _ _ _ _ _ (Act.put _ (some (37 : Nat)) (.agg [.int .i64 k.org, .int .i64 k.nd, .slice A1 n1 c1].toArray)) _
          simp only [Act.put, List.setIfInBounds_toArray, List.set_cons_zero, List.set_cons_succ]
          refine wpAnyH_take (i := 5) (v := (.pointer (some ⟨bg, 2, none⟩))) rfl (by kernel_rfl) (by kernel_rfl) (by kernel_rfl) (fun _ _ _ h => h) (Or.inl ⟨by kernel_rfl, fun w hSw => ?_⟩) (by assumption) ?_
          · (try dsimp only at hSw); go_simp <;> (try rfl)
          change wpAnyH _ _ _ _ _ _ _ (Act.put _ (some (38 : Nat)) (.pointer (some ⟨bg, 2, none⟩))) _
          simp only [Act.put, List.setIfInBounds_toArray, List.set_cons_zero, List.set_cons_succ]
          refine wpAnyH_take (i := 6) (v := (.slice (some ⟨g2, b2, none⟩) n e')) rfl (by kernel_rfl) (by kernel_rfl) (by kernel_rfl) (fun _ _ _ h => h) (yields_load_at (by kernel_rfl) 23 (.tmp 38) rfl (.pointer (some ⟨bg, 2, none⟩)) (by simp [Act.eval]) (.slice (some ⟨g2, b2, none⟩) n e') (fun W hW => load_one' (Tryd.agg_fms W) (hW.2.1.cellAt (i := 2) rfl))) (by assumption) ?_
          change wpAnyH _ _ _ _ _ _ _ (Act.put _ (some (39 : Nat)) (.slice (some ⟨g2, b2, none⟩) n e')) _
          simp only [Act.put, List.setIfInBounds_toArray, List.set_cons_zero, List.set_cons_succ]
          refine wpAnyH_take (i := 7) (v := (.int .i64 (i : Int))) rfl (by kernel_rfl) (by kernel_rfl) (by kernel_rfl) (fun _ _ _ h => h) (Or.inl ⟨by kernel_rfl, fun w hSw => ?_⟩) (by assumption) ?_
          · (try dsimp only at hSw); go_simp <;> (try rfl)
          change wpAnyH _ _ _ _ _ _ _ (Act.put _ (some (40 : Nat)) (.int .i64 (i : Int))) _
          simp only [Act.put, List.setIfInBounds_toArray, List.set_cons_zero, List.set_cons_succ]
          refine wpAnyH_take (i := 8) (v := (.pointer (some ⟨g2, b2 + i * 3, none⟩))) rfl (by kernel_rfl) (by kernel_rfl) (by kernel_rfl) (fun _ _ _ h => h) (Or.inl ⟨by kernel_rfl, fun w hSw => ?_⟩) (by assumption) ?_
          · (try dsimp only at hSw); go_simp <;> (try rfl)
          change wpAnyH _ _ _ _ _ _ _ (Act.put _ (some (41 : Nat)) (.pointer (some ⟨g2, b2 + i * 3, none⟩))) _
          simp only [Act.put, List.setIfInBounds_toArray, List.set_cons_zero, List.set_cons_succ]
          refine wpAnyH_take (i := 9) (v := (.agg [.int .i64 l.org, .int .i64 l.nd, .slice A2 n2 c2].toArray)) rfl (by kernel_rfl) (by kernel_rfl) (by kernel_rfl) (fun _ _ _ h => h) (yieldsIf_load_mid (by kernel_rfl) 25 (.tmp 41) rfl g2 (b2 + i * 3) (by simp [Act.eval]) [.int .i64 l.org, .int .i64 l.nd, .slice A2 n2 c2] _ (fun W hW => hW.2.2.2) Tryd.underlying25 rfl (by kernel_rfl)) (by assumption) ?_
          change wpAnyH _ _ _ _ _ _ _ (Act.put _ (some (42 : Nat)) (.agg [.int .i64 l.org, .int .i64 l.nd, .slice A2 n2 c2].toArray)) _
          simp only [Act.put, List.setIfInBounds_toArray, List.set_cons_zero, List.set_cons_succ]
          refine wpAnyH_ready (rs := [10]) (by kernel_rfl) (by simp) ?_
          refine AllReadyH.cons rfl (fun K hK => ?_) AllReadyH.nil
          go_simp
          refine (HC.out _ HK1.out.drew HK2.out.drew).mono ?_
          rintro ee wb ⟨rfl, hb⟩; have hb' : Below wr.heap.size wr wb := ⟨hb.os, hb.tape, hb.output, hb.size, hb.block⟩; have HXb := Lib.hid (HX.out.trans (hb'.mono HX.out.size)); have HFb := Lib.hid (HBf.out.through hb'); have HGb := Lib.hid (HBg.out.through hb'); have HR1b := Lib.hid (range_keep HR1.out (hb'.block g1 HL1.out)); have HR2b := Lib.hid (range_keep HR2.out (hb'.block g2 HL2.out)); clear hb hb'
          go_wp2_with fail
          refine hK.out _ _ ⟨HFb.out, HGb.out, HR1b.out, HR2b.out⟩ (fun hHeld1 => ?_)
          clear hHeld hK K
          have hHeld := hHeld1
          clear hHeld1
          refine wpAnyH_take (i := 11) (v := (.bool true)) rfl (by kernel_rfl) (by kernel_rfl) (by kernel_rfl) (fun _ _ _ h => h) (Or.inl ⟨by kernel_rfl, fun w hSw => ?_⟩) (by assumption) ?_
          · (try dsimp only at hSw); go_simp <;> (try rfl)
          change wpAnyH _ _ _ _ _ _ _ (Act.put _ (some (44 : Nat)) (.bool true)) _
          simp only [Act.put, List.setIfInBounds_toArray, List.set_cons_zero, List.set_cons_succ]
          refine wpAnyH_done (by kernel_rfl) ?_ _
          go_wp2
          go_ret
          exact ⟨ret_bool (by rw [HV.out, HS.out]; rfl), HXb.out⟩
        · clear d1 d2
          obtain ⟨bf, hbf⟩ : ∃ bf, bf = w.heap.size := ⟨_, rfl⟩
          rw [← hbg] at HBg
          rw [← hbf] at HBf
          go_wp2
          rw [← hbg, ← hbf]
          try dsimp only [Act.put]
          refine wp_region_held_drew (S := fun W => Blk W bf 25 [.int .i64 o, .int .i64 a, .slice (some ⟨g1, b1, none⟩) n c] ∧ Blk W bg 25 [.int .i64 o, .int .i64 a, .slice (some ⟨g2, b2, none⟩) n e'] ∧ W.rangeAt g1 (b1 + i * 3) [.int .i64 k.org, .int .i64 k.nd, .slice A1 n1 c1] ∧ W.rangeAt g2 (b2 + i * 3) [.int .i64 l.org, .int .i64 l.nd, .slice A2 n2 c2]) (by kernel_rfl) ⟨HBf.out.drew, HBg.out.drew, HR1.out, HR2.out⟩ (fun hHeld => ?_)
          change wpAnyH _ _ _ _ _ _ #[false, false, false, false, false, false, false, false, false, false, false, false] _ _
          refine wpAnyH_take (i := 0) (v := (.pointer (some ⟨bf, 2, none⟩))) rfl (by kernel_rfl) (by kernel_rfl) (by kernel_rfl) (fun _ _ _ h => h) (Or.inl ⟨by kernel_rfl, fun w hSw => ?_⟩) (by assumption) ?_
          · (try dsimp only at hSw); go_simp <;> (try rfl)
          change wpAnyH _ _ _ _ _ _ _ (Act.put _ (some (33 : Nat)) (.pointer (some ⟨bf, 2, none⟩))) _
          simp only [Act.put, List.setIfInBounds_toArray, List.set_cons_zero, List.set_cons_succ]
          refine wpAnyH_take (i := 1) (v := (.slice (some ⟨g1, b1, none⟩) n c)) rfl (by kernel_rfl) (by kernel_rfl) (by kernel_rfl) (fun _ _ _ h => h) (yields_load_at (by kernel_rfl) 23 (.tmp 33) rfl (.pointer (some ⟨bf, 2, none⟩)) (by simp [Act.eval]) (.slice (some ⟨g1, b1, none⟩) n c) (fun W hW => load_one' (Tryd.agg_fms W) (hW.1.cellAt (i := 2) rfl))) (by assumption) ?_
          change wpAnyH _ _ _ _ _ _ _ (Act.put _ (some (34 : Nat)) (.slice (some ⟨g1, b1, none⟩) n c)) _
          simp only [Act.put, List.setIfInBounds_toArray, List.set_cons_zero, List.set_cons_succ]
          refine wpAnyH_take (i := 2) (v := (.int .i64 (i : Int))) rfl (by kernel_rfl) (by kernel_rfl) (by kernel_rfl) (fun _ _ _ h => h) (Or.inl ⟨by kernel_rfl, fun w hSw => ?_⟩) (by assumption) ?_
          · (try dsimp only at hSw); go_simp <;> (try rfl)
          change wpAnyH _ _ _ _ _ _ _ (Act.put _ (some (35 : Nat)) (.int .i64 (i : Int))) _
          simp only [Act.put, List.setIfInBounds_toArray, List.set_cons_zero, List.set_cons_succ]
          refine wpAnyH_take (i := 3) (v := (.pointer (some ⟨g1, b1 + i * 3, none⟩))) rfl (by kernel_rfl) (by kernel_rfl) (by kernel_rfl) (fun _ _ _ h => h) (Or.inl ⟨by kernel_rfl, fun w hSw => ?_⟩) (by assumption) ?_
          · (try dsimp only at hSw); go_simp <;> (try rfl)
          change wpAnyH _ _ _ _ _ _ _ (Act.put _ (some (36 : Nat)) (.pointer (some ⟨g1, b1 + i * 3, none⟩))) _
          simp only [Act.put, List.setIfInBounds_toArray, List.set_cons_zero, List.set_cons_succ]
          refine wpAnyH_take (i := 4) (v := (.agg [.int .i64 k.org, .int .i64 k.nd, .slice A1 n1 c1].toArray)) rfl (by kernel_rfl) (by kernel_rfl) (by kernel_rfl) (fun _ _ _ h => h) (yieldsIf_load_mid (by kernel_rfl) 25 (.tmp 36) rfl g1 (b1 + i * 3) (by simp [Act.eval]) [.int .i64 k.org, .int .i64 k.nd, .slice A1 n1 c1] _ (fun W hW => hW.2.2.1) Tryd.underlying25 rfl (by kernel_rfl)) (by assumption) ?_
          change wpAnyH _ _ _ _ _ _ _ (Act.put _ (some (37 : Nat)) (.agg [.int .i64 k.org, .int .i64 k.nd, .slice A1 n1 c1].toArray)) _
          simp only [Act.put, List.setIfInBounds_toArray, List.set_cons_zero, List.set_cons_succ]
          refine wpAnyH_take (i := 5) (v := (.pointer (some ⟨bg, 2, none⟩))) rfl (by kernel_rfl) (by kernel_rfl) (by kernel_rfl) (fun _ _ _ h => h) (Or.inl ⟨by kernel_rfl, fun w hSw => ?_⟩) (by assumption) ?_
          · (try dsimp only at hSw); go_simp <;> (try rfl)
          change wpAnyH _ _ _ _ _ _ _ (Act.put _ (some (38 : Nat)) (.pointer (some ⟨bg, 2, none⟩))) _
          simp only [Act.put, List.setIfInBounds_toArray, List.set_cons_zero, List.set_cons_succ]
          refine wpAnyH_take (i := 6) (v := (.slice (some ⟨g2, b2, none⟩) n e')) rfl (by kernel_rfl) (by kernel_rfl) (by kernel_rfl) (fun _ _ _ h => h) (yields_load_at (by kernel_rfl) 23 (.tmp 38) rfl (.pointer (some ⟨bg, 2, none⟩)) (by simp [Act.eval]) (.slice (some ⟨g2, b2, none⟩) n e') (fun W hW => load_one' (Tryd.agg_fms W) (hW.2.1.cellAt (i := 2) rfl))) (by assumption) ?_
          change wpAnyH _ _ _ _ _ _ _ (Act.put _ (some (39 : Nat)) (.slice (some ⟨g2, b2, none⟩) n e')) _
          simp only [Act.put, List.setIfInBounds_toArray, List.set_cons_zero, List.set_cons_succ]
          refine wpAnyH_take (i := 7) (v := (.int .i64 (i : Int))) rfl (by kernel_rfl) (by kernel_rfl) (by kernel_rfl) (fun _ _ _ h => h) (Or.inl ⟨by kernel_rfl, fun w hSw => ?_⟩) (by assumption) ?_
          · (try dsimp only at hSw); go_simp <;> (try rfl)
          change wpAnyH _ _ _ _ _ _ _ (Act.put _ (some (40 : Nat)) (.int .i64 (i : Int))) _
          simp only [Act.put, List.setIfInBounds_toArray, List.set_cons_zero, List.set_cons_succ]
          refine wpAnyH_take (i := 8) (v := (.pointer (some ⟨g2, b2 + i * 3, none⟩))) rfl (by kernel_rfl) (by kernel_rfl) (by kernel_rfl) (fun _ _ _ h => h) (Or.inl ⟨by kernel_rfl, fun w hSw => ?_⟩) (by assumption) ?_
          · (try dsimp only at hSw); go_simp <;> (try rfl)
          change wpAnyH _ _ _ _ _ _ _ (Act.put _ (some (41 : Nat)) (.pointer (some ⟨g2, b2 + i * 3, none⟩))) _
          simp only [Act.put, List.setIfInBounds_toArray, List.set_cons_zero, List.set_cons_succ]
          refine wpAnyH_take (i := 9) (v := (.agg [.int .i64 l.org, .int .i64 l.nd, .slice A2 n2 c2].toArray)) rfl (by kernel_rfl) (by kernel_rfl) (by kernel_rfl) (fun _ _ _ h => h) (yieldsIf_load_mid (by kernel_rfl) 25 (.tmp 41) rfl g2 (b2 + i * 3) (by simp [Act.eval]) [.int .i64 l.org, .int .i64 l.nd, .slice A2 n2 c2] _ (fun W hW => hW.2.2.2) Tryd.underlying25 rfl (by kernel_rfl)) (by assumption) ?_
          change wpAnyH _ _ _ _ _ _ _ (Act.put _ (some (42 : Nat)) (.agg [.int .i64 l.org, .int .i64 l.nd, .slice A2 n2 c2].toArray)) _
          simp only [Act.put, List.setIfInBounds_toArray, List.set_cons_zero, List.set_cons_succ]
          refine wpAnyH_ready (rs := [10]) (by kernel_rfl) (by simp) ?_
          refine AllReadyH.cons rfl (fun K hK => ?_) AllReadyH.nil
          go_simp
          refine (HC.out _ HK1.out.drew HK2.out.drew).mono ?_
          rintro ee wb ⟨rfl, hb⟩; have hb' : Below wr.heap.size wr wb := ⟨hb.os, hb.tape, hb.output, hb.size, hb.block⟩; have HXb := Lib.hid (HX.out.trans (hb'.mono HX.out.size)); have HFb := Lib.hid (HBf.out.through hb'); have HGb := Lib.hid (HBg.out.through hb'); have HR1b := Lib.hid (range_keep HR1.out (hb'.block g1 HL1.out)); have HR2b := Lib.hid (range_keep HR2.out (hb'.block g2 HL2.out)); clear hb hb'
          go_wp2_with fail
          refine hK.out _ _ ⟨HFb.out, HGb.out, HR1b.out, HR2b.out⟩ (fun hHeld1 => ?_)
          clear hHeld hK K
          have hHeld := hHeld1
          clear hHeld1
          refine wpAnyH_take (i := 11) (v := (.bool false)) rfl (by kernel_rfl) (by kernel_rfl) (by kernel_rfl) (fun _ _ _ h => h) (Or.inl ⟨by kernel_rfl, fun w hSw => ?_⟩) (by assumption) ?_
          · (try dsimp only at hSw); go_simp <;> (try rfl)
          change wpAnyH _ _ _ _ _ _ _ (Act.put _ (some (44 : Nat)) (.bool false)) _
          simp only [Act.put, List.setIfInBounds_toArray, List.set_cons_zero, List.set_cons_succ]
          refine wpAnyH_done (by kernel_rfl) ?_ _
          go_wp2
          go_roundw
          case rel => exact ⟨i + 1, by omega, by go_num, HXb.out, by rw [← hbf]; exact HFb.out, by rw [← hbg]; exact HGb.out, by have := HS.out; simpa using this⟩
          case measure => simp [intOf]; omega
      · obtain rfl : i = n := by omega
        rw [List.drop_of_length_le (by omega), List.drop_of_length_le (by omega)] at hs
        have HS := Lib.hid hs
        clear hs
        go_wp2
        go_ret
        exact ⟨ret_bool (by rw [HV.out, HS.out]; rfl), HX.out⟩

end Go.Proofs.YtnpobhgecfjfgaaDoor
