/-
  The document's Parse, walked.
-/
import Derived.Test.YtkbeodlihmmdbaaLgQ
import Derived.Deep.CutBlock
import Derived.Deep.CutRange
namespace Go.Proofs.Ytkbeodlihmmdbaa
open Go.RowKit

set_option maxHeartbeats 16000000 in
set_option maxRecDepth 100000 in
theorem rparse_any (xs : List UInt8) (A : Option Addr) (n c : Nat) (w : World) (h : By w (fun _ => True) A n xs) (hnc : n ≤ c) (hc : c ≤ maxLen) (hn : n ≤ 1000000) :
    Calls Try.prog 26 #[.slice A n c] w (LgOutB w (parseB xs).1 (parseB xs).2) := by
  have hbr := Try.build_rd
  have hbl := Try.build_lg2
  have hb0 := Try.build_lg
  have hz := Try.zero_lg
  have hb6 := Try.build_l6
  have hb3 := Try.build_o3
  have HR2 : Hid (Rs (fun b => b < w.heap.size) ((w.alloc (.cells #[.int .i64 0, .int .i64 0, .slice none 0 0, .slice none 0 0] 25)).alloc (.cells #[.slice A n c, .int .i64 0] 87)) (w.heap.size + 1) 87 (some xs)) := Lib.hid (by
    have h1 := rs_built (Q := (fun b => b < w.heap.size)) (((h.lt.weak fun _ h => h.2).alloc (.cells #[.int .i64 0, .int .i64 0, .slice none 0 0, .slice none 0 0] 25))) hnc hc (by omega)
    simpa using h1)
  have HX2 : Hid (Below w.heap.size w ((w.alloc (.cells #[.int .i64 0, .int .i64 0, .slice none 0 0, .slice none 0 0] 25)).alloc (.cells #[.slice A n c, .int .i64 0] 87))) := Lib.hid (below2 w _ _)
  have HZ2 : Hid (Blk ((w.alloc (.cells #[.int .i64 0, .int .i64 0, .slice none 0 0, .slice none 0 0] 25)).alloc (.cells #[.slice A n c, .int .i64 0] 87)) w.heap.size 25 [.int .i64 0, .int .i64 0, .slice none 0 0, .slice none 0 0]) := Lib.hid ((Blk.fresh rfl rfl).alloc _)
  have hs2 : w.heap.size + 2 ≤ ((w.alloc (.cells #[.int .i64 0, .int .i64 0, .slice none 0 0, .slice none 0 0] 25)).alloc (.cells #[.slice A n c, .int .i64 0] 87)).heap.size := by simp
  have hw8 := wrap_sx (nval 8 (some xs)) (by have := nval_lt 8 (some xs); rw [e8] at this; exact this)
  have hw8b := wrap_sx (nval 8 (nnext 8 (some xs))) (by have := nval_lt 8 (nnext 8 (some xs)); rw [e8] at this; exact this)
  obtain ⟨sq, hsq⟩ : ∃ sq, sx 8 (nval 8 (some xs)) = sq := ⟨_, rfl⟩
  obtain ⟨tt, htt⟩ : ∃ tt, sx 8 (nval 8 (nnext 8 (some xs))) = tt := ⟨_, rfl⟩
  obtain ⟨L, hL⟩ : ∃ L, rdMany rdLt (cval 16 (nnext 8 (nnext 8 (some xs)))) (cnext 16 (nnext 8 (nnext 8 (some xs)))) = L := ⟨_, rfl⟩
  have hcv := cval_le 16 (nnext 8 (nnext 8 (some xs)))
  have HRD : Hid (rdLg xs = (⟨sq, tt, L.1, (rdMany rdOc (cval 4 L.2) (cnext 4 L.2)).1⟩, (rdMany rdOc (cval 4 L.2) (cnext 4 L.2)).2)) := Lib.hid (by
    unfold rdLg
    simp only [hsq, htt, hL])
  rw [hsq] at hw8
  rw [htt] at hw8b
  have HL := Lib.hid hL
  have HCV := Lib.hid hcv
  obtain ⟨bb, hbb⟩ : ∃ bb, parseB xs = bb := ⟨_, rfl⟩
  rw [hbb]
  have HBB := Lib.hid hbb
  clear h hbb hL hcv hsq htt
  go_enter Try.func26, Try.ntmps26
  go_upto_block 0 with (first
    | (go_at_call 61; (refine (rnumber_rs (HR2.out) 8 rfl).mono ?_); rintro e w3 ⟨rfl, hr3, hg3⟩; have HR3 := Lib.hid hr3; have HX3 : Hid (Below w.heap.size w w3) := Lib.hid (HX2.out.grown hg3 HX2.out.size (fun k hk => by have := Option.some.inj hk; omega)); have HZ3 := Lib.hid (HZ2.out.grown hg3 (by simp)); have hs3 : w.heap.size + 2 ≤ w3.heap.size := Nat.le_trans hs2 hg3.size; clear hr3 hg3)
    | (go_at_call 61; (refine (rnumber_rs (HR3.out) 8 rfl).mono ?_); rintro e w4 ⟨rfl, hr4, hg4⟩; have HR4 := Lib.hid hr4; have HX4 : Hid (Below w.heap.size w w4) := Lib.hid (HX3.out.grown hg4 HX3.out.size (fun k hk => by have := Option.some.inj hk; omega)); have HZ4 := Lib.hid (HZ3.out.grown hg4 (by simp)); have hs4 : w.heap.size + 2 ≤ w4.heap.size := Nat.le_trans hs3 hg4.size; clear hr4 hg4)
    | (go_at_call 62; (refine (rcount_rs (HR4.out.alloc (.cells #[.int .i64 sq, .int .i64 tt, .slice none 0 0, .slice none 0 0] 25)) 16).mono ?_); rintro e w5 ⟨rfl, hr5, hg5⟩; have HR5 := Lib.hid hr5; have HX5 : Hid (Below w.heap.size w w5) := Lib.hid ((HX4.out.alloc HX4.out.size (.cells #[.int .i64 sq, .int .i64 tt, .slice none 0 0, .slice none 0 0] 25)).grown hg5 (by simp; omega) (fun k hk => by have := Option.some.inj hk; omega)); have HZ5 := Lib.hid ((HZ4.out.alloc (.cells #[.int .i64 sq, .int .i64 tt, .slice none 0 0, .slice none 0 0] 25)).grown hg5 (by simp)); have HB5 : Hid (Blk w5 w4.heap.size 25 [.int .i64 sq, .int .i64 tt, .slice none 0 0, .slice none 0 0]) := Lib.hid ((Blk.fresh rfl rfl : Blk (w4.alloc (.cells #[.int .i64 sq, .int .i64 tt, .slice none 0 0, .slice none 0 0] 25)) w4.heap.size 25 [.int .i64 sq, .int .i64 tt, .slice none 0 0, .slice none 0 0]).grown hg5 (by simp; omega)); have hs5 : w4.heap.size + 1 ≤ w5.heap.size := (by have := hg5.size; simpa using this); clear hr5 hg5))
  go_cut [6, 7] from 21 to 56 (fun _ _ wx => ∃ (ls0 : List Lt) (Av : Option Addr) (nv cv : Nat) (st : Option (List UInt8)), ls0.length ≤ 16 ∧ L = (ls0, st) ∧ Rs (fun b => b < w.heap.size) wx (w.heap.size + 1) tQ st ∧ Os wx (w4.heap.size + 1) 27 6 (.slice Av nv cv) (ls0.map Lt.cells) ∧ Blk wx w4.heap.size 25 [.int .i64 sq, .int .i64 tt, .slice Av nv cv, .slice none 0 0] ∧ Blk wx w.heap.size 25 [.int .i64 0, .int .i64 0, .slice none 0 0, .slice none 0 0] ∧ Below w.heap.size w wx ∧ (w4.heap.size + 1) ≤ wx.heap.size)
  case first =>
    go_wp2_with fail
    go_loopw [6] (fun iv wr => ∃ (k : Nat) (ls0 : List Lt) (Av : Option Addr) (nv cv : Nat) (st : Option (List UInt8)), k + ls0.length ≤ 16 ∧ iv = .int .i64 (k : Int) ∧ (ls0 ++ (rdMany rdLt k st).1, (rdMany rdLt k st).2) = L ∧ Rs (fun b => b < w.heap.size) wr (w.heap.size + 1) tQ st ∧ Os wr (w4.heap.size + 1) 27 6 (.slice Av nv cv) (ls0.map Lt.cells) ∧ Blk wr w4.heap.size 25 [.int .i64 sq, .int .i64 tt, .slice Av nv cv, .slice none 0 0] ∧ Blk wr w.heap.size 25 [.int .i64 0, .int .i64 0, .slice none 0 0, .slice none 0 0] ∧ Below w.heap.size w wr ∧ (w4.heap.size + 1) ≤ wr.heap.size) (fun iv _ => (intOf iv).toNat)
    case atStart => exact ⟨_, [], none, 0, 0, _, by simpa using HCV.out, rfl, HL.out, HR5.out, Os.nil _ _ _ _, HB5.out, HZ5.out, HX5.out, hs5⟩
    case round =>
      obtain ⟨k, ls0, Av, nv, cv, st, hk, rfl, hL, hr, ho, hb, h0, hx, hsz⟩ := hrel
      have HR := Lib.hid hr; have HO := Lib.hid ho; have HB := Lib.hid hb; have HZ0 := Lib.hid h0; have HX := Lib.hid hx; have HSZ := Lib.hid hsz
      obtain ⟨er, hcell, her⟩ := HR.out.err
      clear hr ho hb h0 hx
      cases k with
      | zero =>
        rw [rdMany_zero] at hL
        have HL2 := Lib.hid hL
        clear hL her hcell hsz
        go_wp2
        go_meet
        case rel => exact ⟨ls0, Av, nv, cv, st, by omega, (by have := HL2.out; simpa using this.symm), HR.out, HO.out, HB.out, HZ0.out, HX.out, HSZ.out⟩
      | succ k =>
        have hkd : decide ((0 : Int) < (k : Int) + 1) = true := decide_eq_true (by omega)
        have hwr : IntKind.i64.wrap ((k : Int) + 1 - 1) = (k : Int) := by rw [IntWalk.i64_in _ (by omega)]; omega
        have hwr2 : (k : Int) + 1 - 1 = (k : Int) := by omega
        cases st with
        | none =>
          rw [rdMany_none] at hL
          have HL2 := Lib.hid hL
          have hne : (er == 0) = false := by simpa using her
          clear hL her hsz
          go_wp2
          go_meet
          case rel => exact ⟨ls0, Av, nv, cv, none, by omega, (by have := HL2.out; simpa using this.symm), HR.out, HO.out, HB.out, HZ0.out, HX.out, HSZ.out⟩
        | some r =>
          have he0 : er = 0 := her.2 (by simp)
          subst he0
          have HL2 := Lib.hid ((rdMany_step rdLt k r ls0).symm.trans hL)
          clear hL her
          go_wp2
          refine wp_region_held_drew (S := fun W => wr.grownBy W (some (w.heap.size + 1))) (by kernel_rfl) (only_drew _ _) (fun hHeld => ?_)
          change wpAnyH _ _ _ _ _ _ #[false, false, false, false, false, false, false, false, false, false, false, false, false, false, false, false, false, false, false, false, false] _ _
          refine wpAnyH_take (i := 0) (v := (.pointer (some ⟨(w.heap.size + 1), 0, none⟩))) rfl (by kernel_rfl) (by kernel_rfl) (by kernel_rfl) (fun _ _ _ h => h) (Or.inl ⟨by kernel_rfl, fun w hSw => ?_⟩) (by assumption) ?_
          · (try dsimp only at hSw); go_simp <;> (try rfl)
          change wpAnyH _ _ _ _ _ _ _ (Act.put _ (some (32 : Nat)) (.pointer (some ⟨(w.heap.size + 1), 0, none⟩))) _
          simp only [Act.put, List.setIfInBounds_toArray, List.set_cons_zero, List.set_cons_succ]
          refine wpAnyH_take (i := 3) (v := (.pointer (some ⟨(w.heap.size + 1), 0, none⟩))) rfl (by kernel_rfl) (by kernel_rfl) (by kernel_rfl) (fun _ _ _ h => h) (Or.inl ⟨by kernel_rfl, fun w hSw => ?_⟩) (by assumption) ?_
          · (try dsimp only at hSw); go_simp <;> (try rfl)
          change wpAnyH _ _ _ _ _ _ _ (Act.put _ (some (35 : Nat)) (.pointer (some ⟨(w.heap.size + 1), 0, none⟩))) _
          simp only [Act.put, List.setIfInBounds_toArray, List.set_cons_zero, List.set_cons_succ]
          refine wpAnyH_take (i := 6) (v := (.pointer (some ⟨(w.heap.size + 1), 0, none⟩))) rfl (by kernel_rfl) (by kernel_rfl) (by kernel_rfl) (fun _ _ _ h => h) (Or.inl ⟨by kernel_rfl, fun w hSw => ?_⟩) (by assumption) ?_
          · (try dsimp only at hSw); go_simp <;> (try rfl)
          change wpAnyH _ _ _ _ _ _ _ (Act.put _ (some (38 : Nat)) (.pointer (some ⟨(w.heap.size + 1), 0, none⟩))) _
          simp only [Act.put, List.setIfInBounds_toArray, List.set_cons_zero, List.set_cons_succ]
          refine wpAnyH_take (i := 9) (v := (.pointer (some ⟨(w.heap.size + 1), 0, none⟩))) rfl (by kernel_rfl) (by kernel_rfl) (by kernel_rfl) (fun _ _ _ h => h) (Or.inl ⟨by kernel_rfl, fun w hSw => ?_⟩) (by assumption) ?_
          · (try dsimp only at hSw); go_simp <;> (try rfl)
          change wpAnyH _ _ _ _ _ _ _ (Act.put _ (some (41 : Nat)) (.pointer (some ⟨(w.heap.size + 1), 0, none⟩))) _
          simp only [Act.put, List.setIfInBounds_toArray, List.set_cons_zero, List.set_cons_succ]
          refine wpAnyH_take (i := 12) (v := (.pointer (some ⟨(w.heap.size + 1), 0, none⟩))) rfl (by kernel_rfl) (by kernel_rfl) (by kernel_rfl) (fun _ _ _ h => h) (Or.inl ⟨by kernel_rfl, fun w hSw => ?_⟩) (by assumption) ?_
          · (try dsimp only at hSw); go_simp <;> (try rfl)
          change wpAnyH _ _ _ _ _ _ _ (Act.put _ (some (44 : Nat)) (.pointer (some ⟨(w.heap.size + 1), 0, none⟩))) _
          simp only [Act.put, List.setIfInBounds_toArray, List.set_cons_zero, List.set_cons_succ]
          refine wpAnyH_take (i := 15) (v := (.pointer (some ⟨(w.heap.size + 1), 0, none⟩))) rfl (by kernel_rfl) (by kernel_rfl) (by kernel_rfl) (fun _ _ _ h => h) (Or.inl ⟨by kernel_rfl, fun w hSw => ?_⟩) (by assumption) ?_
          · (try dsimp only at hSw); go_simp <;> (try rfl)
          change wpAnyH _ _ _ _ _ _ _ (Act.put _ (some (47 : Nat)) (.pointer (some ⟨(w.heap.size + 1), 0, none⟩))) _
          simp only [Act.put, List.setIfInBounds_toArray, List.set_cons_zero, List.set_cons_succ]
          refine wpAnyH_ready (rs := [1, 19]) (by kernel_rfl) (by simp) ?_
          refine AllReadyH.cons rfl (fun K hK => ?_) (AllReadyH.cons (o := ⟨some 7, .alloc 27, _, _, _, none⟩) rfl (fun K hK => ?_) AllReadyH.nil)
          · as_aux_lemma =>
            go_simp
            refine (rrow_rs (HR.out.drew) 16 (by omega)).mono ?_
            rintro e wa0 ⟨Ba0, ma0, ca0, rfl, hy0, hr0, hg0⟩; have HRa0 := Lib.hid hr0; have HGa0 := Lib.hid hg0; have HYa0 := Lib.hid hy0; clear hr0 hg0 hy0
            go_wp2_with fail
            refine hK.out _ _ (only_trans hHeld HGa0.out) (fun hHeld1 => ?_)
            clear hHeld hK K
            have hHeld := hHeld1
            clear hHeld1
            refine wpAnyH_weaken (S' := fun W => (wr.grownBy W (some (w.heap.size + 1))) ∧ By W (fun _ => True) Ba0 ma0 (rval 16 (some r))) (fun W h => h.1) _ _ _ _ ?_
            have hHeld2 := And.intro hHeld HYa0.out
            clear hHeld
            have hHeld := hHeld2
            clear hHeld2
            refine wpAnyH_take (i := 2) (v := (.string (ba (rval 16 (some r))))) rfl (by kernel_rfl) (by kernel_rfl) (by kernel_rfl) (fun _ _ _ h => h) (yields_conv (by kernel_rfl) 43 9 (.tmp 33) rfl (.slice Ba0 ma0 ca0) (by simp [Act.eval]) (.string (ba (rval 16 (some r)))) (fun W hW => run_string_by W 43 9 5 Try.underlying43 Try.underlying5 Try.underlying9 _ _ _ _ _ hW.2)) (by assumption) ?_
            change wpAnyH _ _ _ _ _ _ _ (Act.put _ (some (34 : Nat)) (.string (ba (rval 16 (some r))))) _
            simp only [Act.put, List.setIfInBounds_toArray, List.set_cons_zero, List.set_cons_succ]
            refine wpAnyH_ready (rs := [4, 19]) (by kernel_rfl) (by simp) ?_
            refine AllReadyH.cons rfl (fun K hK => ?_) (AllReadyH.cons (o := ⟨some 7, .alloc 27, _, _, _, none⟩) rfl (fun K hK => ?_) AllReadyH.nil)
            · as_aux_lemma =>
              go_simp
              refine (rnumber_rs (HRa0.out) 1 rfl).mono ?_
              rintro e wa1 ⟨rfl, hr1, hg1⟩; have HRa1 := Lib.hid hr1; have HGa1 := Lib.hid hg1; clear hr1 hg1
              go_wp2_with fail
              refine hK.out _ _ ⟨(only_trans hHeld.1 HGa1.out), (HRa0.out).by_keep hHeld.2 HGa1.out⟩ (fun hHeld1 => ?_)
              clear hHeld hK K
              have hHeld := hHeld1
              clear hHeld1
              refine wpAnyH_take (i := 5) (v := (.int .i64 ((nval 1 (rnext 16 (some r)) : Nat) : Int))) rfl (by kernel_rfl) (by kernel_rfl) (by kernel_rfl) (fun _ _ _ h => h) (yields_conv (by kernel_rfl) 61 3 (.tmp 36) rfl (.int .u64 ((nval 1 (rnext 16 (some r)) : Nat) : Int)) (by simp [Act.eval]) (.int .i64 ((nval 1 (rnext 16 (some r)) : Nat) : Int)) (fun W _ => conv_small 61 3 Try.underlying61 Try.underlying3 _ (by have := nval_lt 1 (rnext 16 (some r)); simp only [e1] at this; omega) W)) (by assumption) ?_
              change wpAnyH _ _ _ _ _ _ _ (Act.put _ (some (37 : Nat)) (.int .i64 ((nval 1 (rnext 16 (some r)) : Nat) : Int))) _
              simp only [Act.put, List.setIfInBounds_toArray, List.set_cons_zero, List.set_cons_succ]
              refine wpAnyH_ready (rs := [7, 19]) (by kernel_rfl) (by simp) ?_
              refine AllReadyH.cons rfl (fun K hK => ?_) (AllReadyH.cons (o := ⟨some 7, .alloc 27, _, _, _, none⟩) rfl (fun K hK => ?_) AllReadyH.nil)
              · as_aux_lemma =>
                go_simp
                refine (rnumber_rs (HRa1.out) 8 rfl).mono ?_
                rintro e wa2 ⟨rfl, hr2, hg2⟩; have HRa2 := Lib.hid hr2; have HGa2 := Lib.hid hg2; clear hr2 hg2
                go_wp2_with fail
                refine hK.out _ _ ⟨(only_trans hHeld.1 HGa2.out), (HRa1.out).by_keep hHeld.2 HGa2.out⟩ (fun hHeld1 => ?_)
                clear hHeld hK K
                have hHeld := hHeld1
                clear hHeld1
                refine wpAnyH_take (i := 8) (v := (.int .i64 (sx 8 (nval 8 (nnext 1 (rnext 16 (some r))))))) rfl (by kernel_rfl) (by kernel_rfl) (by kernel_rfl) (fun _ _ _ h => h) (yields_conv (by kernel_rfl) 61 2 (.tmp 39) rfl (.int .u64 ((nval 8 (nnext 1 (rnext 16 (some r))) : Nat) : Int)) (by simp [Act.eval]) (.int .i64 (sx 8 (nval 8 (nnext 1 (rnext 16 (some r)))))) (fun W _ => conv_i64 61 2 Try.underlying61 Try.underlying2 _ (by have := nval_lt 8 (nnext 1 (rnext 16 (some r))); simp only [e8] at this; omega) W)) (by assumption) ?_
                change wpAnyH _ _ _ _ _ _ _ (Act.put _ (some (40 : Nat)) (.int .i64 (sx 8 (nval 8 (nnext 1 (rnext 16 (some r))))))) _
                simp only [Act.put, List.setIfInBounds_toArray, List.set_cons_zero, List.set_cons_succ]
                refine wpAnyH_ready (rs := [10, 19]) (by kernel_rfl) (by simp) ?_
                refine AllReadyH.cons rfl (fun K hK => ?_) (AllReadyH.cons (o := ⟨some 7, .alloc 27, _, _, _, none⟩) rfl (fun K hK => ?_) AllReadyH.nil)
                · as_aux_lemma =>
                  go_simp
                  refine (rnumber_rs (HRa2.out) 8 rfl).mono ?_
                  rintro e wa3 ⟨rfl, hr3, hg3⟩; have HRa3 := Lib.hid hr3; have HGa3 := Lib.hid hg3; clear hr3 hg3
                  go_wp2_with fail
                  refine hK.out _ _ ⟨(only_trans hHeld.1 HGa3.out), (HRa2.out).by_keep hHeld.2 HGa3.out⟩ (fun hHeld1 => ?_)
                  clear hHeld hK K
                  have hHeld := hHeld1
                  clear hHeld1
                  refine wpAnyH_take (i := 11) (v := (.int .i64 (sx 8 (nval 8 (nnext 8 (nnext 1 (rnext 16 (some r)))))))) rfl (by kernel_rfl) (by kernel_rfl) (by kernel_rfl) (fun _ _ _ h => h) (yields_conv (by kernel_rfl) 61 2 (.tmp 42) rfl (.int .u64 ((nval 8 (nnext 8 (nnext 1 (rnext 16 (some r)))) : Nat) : Int)) (by simp [Act.eval]) (.int .i64 (sx 8 (nval 8 (nnext 8 (nnext 1 (rnext 16 (some r))))))) (fun W _ => conv_i64 61 2 Try.underlying61 Try.underlying2 _ (by have := nval_lt 8 (nnext 8 (nnext 1 (rnext 16 (some r)))); simp only [e8] at this; omega) W)) (by assumption) ?_
                  change wpAnyH _ _ _ _ _ _ _ (Act.put _ (some (43 : Nat)) (.int .i64 (sx 8 (nval 8 (nnext 8 (nnext 1 (rnext 16 (some r)))))))) _
                  simp only [Act.put, List.setIfInBounds_toArray, List.set_cons_zero, List.set_cons_succ]
                  refine wpAnyH_ready (rs := [13, 19]) (by kernel_rfl) (by simp) ?_
                  refine AllReadyH.cons rfl (fun K hK => ?_) (AllReadyH.cons (o := ⟨some 7, .alloc 27, _, _, _, none⟩) rfl (fun K hK => ?_) AllReadyH.nil)
                  · as_aux_lemma =>
                    go_simp
                    refine (rrow_rs (HRa3.out) 200 (by omega)).mono ?_
                    rintro e wa4 ⟨Ba4, ma4, ca4, rfl, hy4, hr4, hg4⟩; have HRa4 := Lib.hid hr4; have HGa4 := Lib.hid hg4; have HYa4 := Lib.hid hy4; clear hr4 hg4 hy4
                    go_wp2_with fail
                    refine hK.out _ _ ⟨(only_trans hHeld.1 HGa4.out), (HRa3.out).by_keep hHeld.2 HGa4.out⟩ (fun hHeld1 => ?_)
                    clear hHeld hK K
                    have hHeld := hHeld1
                    clear hHeld1
                    refine wpAnyH_weaken (S' := fun W => ((wr.grownBy W (some (w.heap.size + 1))) ∧ By W (fun _ => True) Ba0 ma0 (rval 16 (some r))) ∧ By W (fun _ => True) Ba4 ma4 (rval 200 (nnext 8 (nnext 8 (nnext 1 (rnext 16 (some r))))))) (fun W h => h.1) _ _ _ _ ?_
                    have hHeld2 := And.intro hHeld HYa4.out
                    clear hHeld
                    have hHeld := hHeld2
                    clear hHeld2
                    refine wpAnyH_take (i := 14) (v := (.string (ba (rval 200 (nnext 8 (nnext 8 (nnext 1 (rnext 16 (some r))))))))) rfl (by kernel_rfl) (by kernel_rfl) (by kernel_rfl) (fun _ _ _ h => h) (yields_conv (by kernel_rfl) 43 9 (.tmp 45) rfl (.slice Ba4 ma4 ca4) (by simp [Act.eval]) (.string (ba (rval 200 (nnext 8 (nnext 8 (nnext 1 (rnext 16 (some r)))))))) (fun W hW => run_string_by W 43 9 5 Try.underlying43 Try.underlying5 Try.underlying9 _ _ _ _ _ hW.2)) (by assumption) ?_
                    change wpAnyH _ _ _ _ _ _ _ (Act.put _ (some (46 : Nat)) (.string (ba (rval 200 (nnext 8 (nnext 8 (nnext 1 (rnext 16 (some r))))))))) _
                    simp only [Act.put, List.setIfInBounds_toArray, List.set_cons_zero, List.set_cons_succ]
                    refine wpAnyH_ready (rs := [16, 19]) (by kernel_rfl) (by simp) ?_
                    refine AllReadyH.cons rfl (fun K hK => ?_) (AllReadyH.cons (o := ⟨some 7, .alloc 27, _, _, _, none⟩) rfl (fun K hK => ?_) AllReadyH.nil)
                    · as_aux_lemma =>
                      go_simp
                      refine (rrow_rs (HRa4.out) 200 (by omega)).mono ?_
                      rintro e wa5 ⟨Ba5, ma5, ca5, rfl, hy5, hr5, hg5⟩; have HRa5 := Lib.hid hr5; have HGa5 := Lib.hid hg5; have HYa5 := Lib.hid hy5; clear hr5 hg5 hy5
                      go_wp2_with fail
                      refine hK.out _ _ ⟨⟨(only_trans hHeld.1.1 HGa5.out), (HRa4.out).by_keep hHeld.1.2 HGa5.out⟩, (HRa4.out).by_keep hHeld.2 HGa5.out⟩ (fun hHeld1 => ?_)
                      clear hHeld hK K
                      have hHeld := hHeld1
                      clear hHeld1
                      refine wpAnyH_weaken (S' := fun W => (((wr.grownBy W (some (w.heap.size + 1))) ∧ By W (fun _ => True) Ba0 ma0 (rval 16 (some r))) ∧ By W (fun _ => True) Ba4 ma4 (rval 200 (nnext 8 (nnext 8 (nnext 1 (rnext 16 (some r))))))) ∧ By W (fun _ => True) Ba5 ma5 (rval 200 (rnext 200 (nnext 8 (nnext 8 (nnext 1 (rnext 16 (some r)))))))) (fun W h => h.1) _ _ _ _ ?_
                      have hHeld2 := And.intro hHeld HYa5.out
                      clear hHeld
                      have hHeld := hHeld2
                      clear hHeld2
                      refine wpAnyH_take (i := 17) (v := (.string (ba (rval 200 (rnext 200 (nnext 8 (nnext 8 (nnext 1 (rnext 16 (some r)))))))))) rfl (by kernel_rfl) (by kernel_rfl) (by kernel_rfl) (fun _ _ _ h => h) (yields_conv (by kernel_rfl) 43 9 (.tmp 48) rfl (.slice Ba5 ma5 ca5) (by simp [Act.eval]) (.string (ba (rval 200 (rnext 200 (nnext 8 (nnext 8 (nnext 1 (rnext 16 (some r))))))))) (fun W hW => run_string_by W 43 9 5 Try.underlying43 Try.underlying5 Try.underlying9 _ _ _ _ _ hW.2)) (by assumption) ?_
                      change wpAnyH _ _ _ _ _ _ _ (Act.put _ (some (49 : Nat)) (.string (ba (rval 200 (rnext 200 (nnext 8 (nnext 8 (nnext 1 (rnext 16 (some r)))))))))) _
                      simp only [Act.put, List.setIfInBounds_toArray, List.set_cons_zero, List.set_cons_succ]
                      obtain ⟨V, hV⟩ : ∃ V : Value, V = .agg #[.string (ba (rval 16 (some r))), .int .i64 ((nval 1 (rnext 16 (some r)) : Nat) : Int), .int .i64 (sx 8 (nval 8 (nnext 1 (rnext 16 (some r))))), .int .i64 (sx 8 (nval 8 (nnext 8 (nnext 1 (rnext 16 (some r)))))), .string (ba (rval 200 (nnext 8 (nnext 8 (nnext 1 (rnext 16 (some r))))))), .string (ba (rval 200 (rnext 200 (nnext 8 (nnext 8 (nnext 1 (rnext 16 (some r))))))))] := ⟨_, rfl⟩
                      have HV := Lib.hid hV
                      clear hV
                      refine wpAnyH_take (i := 18) (v := V) rfl (by kernel_rfl) (by kernel_rfl) (by kernel_rfl) (fun _ _ _ h => h) (yields_build (by kernel_rfl) 27 _ rfl _ (by simp only [List.map_toArray, List.map_cons, List.map_nil, Act.eval]; rfl) V (fun w _ => by rw [HV.out]; exact Try.build_l6 _ _ _ _ _ _ w)) (by assumption) ?_
                      change wpAnyH _ _ _ _ _ _ _ (Act.put _ (some (50 : Nat)) V) _
                      simp only [Act.put, List.setIfInBounds_toArray, List.set_cons_zero, List.set_cons_succ]
                      refine wpAnyH_ready (rs := [19]) (by kernel_rfl) (by simp) ?_
                      refine AllReadyH.cons (o := ⟨some 7, .alloc 27, _, _, _, none⟩) rfl (fun K hK => ?_) AllReadyH.nil
                      obtain ⟨gz, hgz⟩ : ∃ gz, wa5.heap.size = gz := ⟨_, rfl⟩; refine step_alloc (by simp [Region.wanted]) 27 rfl (.pointer (some ⟨gz, 0, none⟩)) (wa5.alloc (.cells #[.string (ba []), .int .i64 0, .int .i64 0, .int .i64 0, .string (ba []), .string (ba [])] 27)) (Try.alloc_lt gz wa5 hgz) ?_; have HBz : Hid (Blk (wa5.alloc (.cells #[.string (ba []), .int .i64 0, .int .i64 0, .int .i64 0, .string (ba []), .string (ba [])] 27)) gz 27 [.string (ba []), .int .i64 0, .int .i64 0, .int .i64 0, .string (ba []), .string (ba [])]) := Lib.hid (Blk.fresh hgz.symm rfl); have HRz := Lib.hid ((HRa5.out).alloc (.cells #[.string (ba []), .int .i64 0, .int .i64 0, .int .i64 0, .string (ba []), .string (ba [])] 27)); have HNE : Hid (gz ≠ (w.heap.size + 1)) := Lib.hid (fun e => by have h9 := (HRa5.out).lt; rw [← e, ← hgz] at h9; exact Nat.lt_irrefl _ h9); have HZ : Hid (wr.heap.size ≤ gz) := Lib.hid (hgz ▸ (hHeld.1.1.1).size); clear hgz
                      refine hK.out _ _ ⟨⟨⟨(only_trans hHeld.1.1.1 (only_below ((Below.refl _ _).alloc (Nat.le_refl _) _))), hHeld.1.1.2.alloc _⟩, hHeld.1.2.alloc _⟩, hHeld.2.alloc _⟩ (fun hHeld1 => ?_)
                      clear hHeld hK K
                      have hHeld := hHeld1
                      clear hHeld1
                      change wpAnyH _ _ _ _ _ _ _ (Act.put _ (some (7 : Nat)) (.pointer (some ⟨gz, 0, none⟩))) _
                      simp only [Act.put, List.setIfInBounds_toArray, List.set_cons_zero, List.set_cons_succ]
                      refine wpAnyH_ready (rs := [20]) (by kernel_rfl) (by simp) ?_
                      refine AllReadyH.cons (o := ⟨none, .store 27 (.tmp 7) (.tmp 50), _, _, _, none⟩) rfl (fun K hK => ?_) AllReadyH.nil
                      have HBp := Lib.hid (HBz.out); refine step_store_blk rfl 27 (.tmp 7) (.tmp 50) rfl gz [.string (ba (rval 16 (some r))), .int .i64 ((nval 1 (rnext 16 (some r)) : Nat) : Int), .int .i64 (sx 8 (nval 8 (nnext 1 (rnext 16 (some r))))), .int .i64 (sx 8 (nval 8 (nnext 8 (nnext 1 (rnext 16 (some r)))))), .string (ba (rval 200 (nnext 8 (nnext 8 (nnext 1 (rnext 16 (some r))))))), .string (ba (rval 200 (rnext 200 (nnext 8 (nnext 8 (nnext 1 (rnext 16 (some r))))))))] (by simp [Act.eval]) (by simp only [Act.eval]; exact HV.out) 27 [.string (ba []), .int .i64 0, .int .i64 0, .int .i64 0, .string (ba []), .string (ba [])] (HBz.out) (by kernel_rfl) rfl (one6 _ _ _ _ _ _) ?_; intro we hbe hge; have HBe := Lib.hid hbe; have HGe := Lib.hid hge; have HRe := Lib.hid ((HRz.out).other hge (fun b hb => ⟨fun e => HNE.out (by rw [Option.some.inj hb]; exact e), by have := Option.some.inj hb; have := HZ.out; have := HSZ.out; omega⟩)); clear hbe hge
                      refine hK.out _ _ ⟨⟨⟨(only_new hHeld.1.1.1 HGe.out HZ.out), By.far hHeld.1.1.2 HGe.out HBp.out (no_u8 _ _ _ _ _ _)⟩, By.far hHeld.1.2 HGe.out HBp.out (no_u8 _ _ _ _ _ _)⟩, By.far hHeld.2 HGe.out HBp.out (no_u8 _ _ _ _ _ _)⟩ (fun hHeld1 => ?_)
                      clear hHeld hK K
                      have hHeld := hHeld1
                      clear hHeld1
                      change wpAnyH _ _ _ _ _ _ _ (Act.put _ none undef) _
                      simp only [Act.put]
                      refine wpAnyH_done (by kernel_rfl) ?_ _
                      have HG6 := Lib.hid hHeld.1.1.1
                      have HOe := Lib.hid (HO.out.far HG6.out (by omega))
                      have HLe := Lib.hid (HB.out.grown HG6.out (by simp; omega))
                      have HZe := Lib.hid (HZ0.out.grown HG6.out (by simp))
                      have HXe := Lib.hid (HX.out.grown HG6.out HX.out.size (fun k hk => by have := Option.some.inj hk; omega))
                      have hsze : w4.heap.size + 1 ≤ we.heap.size := Nat.le_trans HSZ.out HG6.out.size
                      have l2 := HLe.out.cellAt (i := 2) rfl
                      have hq7 : ∀ b, (Value.slice Av nv cv).ownBlock = some b → w4.heap.size + 1 ≤ b := fun b hb => (HO.out.lt b hb).1
                      have HQ7 := Lib.hid hq7
                      clear hHeld hq7
                      go_wp2_with (first
                        | (refine wpList_load_blk rfl 27 (.tmp 7) rfl gz rfl 27 [.string (ba (rval 16 (some r))), .int .i64 ((nval 1 (rnext 16 (some r)) : Nat) : Int), .int .i64 (sx 8 (nval 8 (nnext 1 (rnext 16 (some r))))), .int .i64 (sx 8 (nval 8 (nnext 8 (nnext 1 (rnext 16 (some r)))))), .string (ba (rval 200 (nnext 8 (nnext 8 (nnext 1 (rnext 16 (some r))))))), .string (ba (rval 200 (rnext 200 (nnext 8 (nnext 8 (nnext 1 (rnext 16 (some r))))))))] _ HBe.out Try.underlying27 rfl (by kernel_rfl) ?_)
                        | (refine wpList_build_el rfl Try.el_lt (.tmp 53) rfl [.string (ba (rval 16 (some r))), .int .i64 ((nval 1 (rnext 16 (some r)) : Nat) : Int), .int .i64 (sx 8 (nval 8 (nnext 1 (rnext 16 (some r))))), .int .i64 (sx 8 (nval 8 (nnext 8 (nnext 1 (rnext 16 (some r)))))), .string (ba (rval 200 (nnext 8 (nnext 8 (nnext 1 (rnext 16 (some r))))))), .string (ba (rval 200 (rnext 200 (nnext 8 (nnext 8 (nnext 1 (rnext 16 (some r))))))))] rfl rfl ?_)
                        | (at_builtin; refine wpList_append_el rfl Try.el_lt (.tmp 52) (.tmp 54) rfl (w4.heap.size + 1) _ (ls0.map Lt.cells) rfl (HOe.out.alloc _) _ [.string (ba (rval 16 (some r))), .int .i64 ((nval 1 (rnext 16 (some r)) : Nat) : Int), .int .i64 (sx 8 (nval 8 (nnext 1 (rnext 16 (some r))))), .int .i64 (sx 8 (nval 8 (nnext 8 (nnext 1 (rnext 16 (some r)))))), .string (ba (rval 200 (nnext 8 (nnext 8 (nnext 1 (rnext 16 (some r))))))), .string (ba (rval 200 (rnext 200 (nnext 8 (nnext 8 (nnext 1 (rnext 16 (some r))))))))] rfl (Blk.fresh (by simp) rfl) rfl (fun u hu => by simp at hu; rcases hu with rfl | rfl | rfl | rfl | rfl | rfl <;> rfl) (by (try simp); omega) (by (try simp); omega) ?_; intro v7 w7 ho7 hg7; have HR7 := Lib.hid ((HRe.out.alloc (.cells #[.string (ba (rval 16 (some r))), .int .i64 ((nval 1 (rnext 16 (some r)) : Nat) : Int), .int .i64 (sx 8 (nval 8 (nnext 1 (rnext 16 (some r))))), .int .i64 (sx 8 (nval 8 (nnext 8 (nnext 1 (rnext 16 (some r)))))), .string (ba (rval 200 (nnext 8 (nnext 8 (nnext 1 (rnext 16 (some r))))))), .string (ba (rval 200 (rnext 200 (nnext 8 (nnext 8 (nnext 1 (rnext 16 (some r))))))))] 27)).other hg7 (fun b hb => ⟨by have := HQ7.out b hb; omega, fun h9 => by have := HQ7.out b hb; exact absurd (show b < w.heap.size from h9) (by omega)⟩)); have HL7 := Lib.hid ((HLe.out.alloc (.cells #[.string (ba (rval 16 (some r))), .int .i64 ((nval 1 (rnext 16 (some r)) : Nat) : Int), .int .i64 (sx 8 (nval 8 (nnext 1 (rnext 16 (some r))))), .int .i64 (sx 8 (nval 8 (nnext 8 (nnext 1 (rnext 16 (some r)))))), .string (ba (rval 200 (nnext 8 (nnext 8 (nnext 1 (rnext 16 (some r))))))), .string (ba (rval 200 (rnext 200 (nnext 8 (nnext 8 (nnext 1 (rnext 16 (some r))))))))] 27)).grown hg7 (fun e => by have := HQ7.out _ e.symm; omega)); have HZ7 := Lib.hid ((HZe.out.alloc (.cells #[.string (ba (rval 16 (some r))), .int .i64 ((nval 1 (rnext 16 (some r)) : Nat) : Int), .int .i64 (sx 8 (nval 8 (nnext 1 (rnext 16 (some r))))), .int .i64 (sx 8 (nval 8 (nnext 8 (nnext 1 (rnext 16 (some r)))))), .string (ba (rval 200 (nnext 8 (nnext 8 (nnext 1 (rnext 16 (some r))))))), .string (ba (rval 200 (rnext 200 (nnext 8 (nnext 8 (nnext 1 (rnext 16 (some r))))))))] 27)).grown hg7 (fun e => by have := HQ7.out _ e.symm; omega)); have HX7 := Lib.hid ((HXe.out.alloc HXe.out.size (.cells #[.string (ba (rval 16 (some r))), .int .i64 ((nval 1 (rnext 16 (some r)) : Nat) : Int), .int .i64 (sx 8 (nval 8 (nnext 1 (rnext 16 (some r))))), .int .i64 (sx 8 (nval 8 (nnext 8 (nnext 1 (rnext 16 (some r)))))), .string (ba (rval 200 (nnext 8 (nnext 8 (nnext 1 (rnext 16 (some r))))))), .string (ba (rval 200 (rnext 200 (nnext 8 (nnext 8 (nnext 1 (rnext 16 (some r))))))))] 27)).grown hg7 (by simp; omega) (fun b hb => by have := HQ7.out b hb; omega)); have hsz7 : w4.heap.size + 1 ≤ w7.heap.size := (by have := hg7.size; simp at this; omega); obtain ⟨A7, n7, c7, rfl, hn7⟩ := ho7.out'; have HN7 := Lib.hid hn7; have HO7 := Lib.hid ho7; clear ho7 hg7 hn7)
                        | (refine wpList_store_cell rfl 22 (.tmp 56) (.tmp 55) rfl w4.heap.size 2 rfl (.slice A7 n7 c7) rfl rfl rfl (fun w => by kernel_rfl) 25 [.int .i64 sq, .int .i64 tt, .slice Av nv cv, .slice none 0 0] HL7.out (by simp) ?_; intro w8 hb8 hg8; have HL8 : Hid (Blk w8 w4.heap.size 25 [.int .i64 sq, .int .i64 tt, .slice A7 n7 c7, .slice none 0 0]) := Lib.hid hb8; have HR8 := Lib.hid (HR7.out.other hg8 (fun b hb => ⟨by have := Option.some.inj hb; omega, fun h9 => by have := Option.some.inj hb; exact absurd (show b < w.heap.size from h9) (by omega)⟩)); have HO8 := Lib.hid (HO7.out.far hg8 (by omega)); have HZ8 := Lib.hid (HZ7.out.grown hg8 (by simp; omega)); have HX8 := Lib.hid (HX7.out.grown hg8 HX7.out.size (fun k hk => by have := Option.some.inj hk; omega)); have hsz8 : w4.heap.size + 1 ≤ w8.heap.size := Nat.le_trans hsz7 hg8.size; clear hb8 hg8))
                      go_roundw
                      case rel => exact ⟨k, ls0 ++ [(rdLt (some r)).1], A7, n7, c7, _, by simp; omega, by go_num, HL2.out, HR8.out, by (rw [List.map_append]; exact HO8.out), HL8.out, HZ8.out, HX8.out, hsz8⟩
                      case measure => simp [intOf]
                    · as_aux_lemma =>
                      obtain ⟨gz, hgz⟩ : ∃ gz, wa4.heap.size = gz := ⟨_, rfl⟩; refine step_alloc (by simp [Region.wanted]) 27 rfl (.pointer (some ⟨gz, 0, none⟩)) (wa4.alloc (.cells #[.string (ba []), .int .i64 0, .int .i64 0, .int .i64 0, .string (ba []), .string (ba [])] 27)) (Try.alloc_lt gz wa4 hgz) ?_; have HBz : Hid (Blk (wa4.alloc (.cells #[.string (ba []), .int .i64 0, .int .i64 0, .int .i64 0, .string (ba []), .string (ba [])] 27)) gz 27 [.string (ba []), .int .i64 0, .int .i64 0, .int .i64 0, .string (ba []), .string (ba [])]) := Lib.hid (Blk.fresh hgz.symm rfl); have HRz := Lib.hid ((HRa4.out).alloc (.cells #[.string (ba []), .int .i64 0, .int .i64 0, .int .i64 0, .string (ba []), .string (ba [])] 27)); have HNE : Hid (gz ≠ (w.heap.size + 1)) := Lib.hid (fun e => by have h9 := (HRa4.out).lt; rw [← e, ← hgz] at h9; exact Nat.lt_irrefl _ h9); have HZ : Hid (wr.heap.size ≤ gz) := Lib.hid (hgz ▸ (hHeld.1.1).size); clear hgz
                      refine hK.out _ _ ⟨⟨(only_trans hHeld.1.1 (only_below ((Below.refl _ _).alloc (Nat.le_refl _) _))), hHeld.1.2.alloc _⟩, hHeld.2.alloc _⟩ (fun hHeld1 => ?_)
                      clear hHeld hK K
                      have hHeld := hHeld1
                      clear hHeld1
                      change wpAnyH _ _ _ _ _ _ _ (Act.put _ (some (7 : Nat)) (.pointer (some ⟨gz, 0, none⟩))) _
                      simp only [Act.put, List.setIfInBounds_toArray, List.set_cons_zero, List.set_cons_succ]
                      refine wpAnyH_ready (rs := [16]) (by kernel_rfl) (by simp) ?_
                      refine AllReadyH.cons rfl (fun K hK => ?_) AllReadyH.nil
                      go_simp
                      refine (rrow_rs (HRz.out) 200 (by omega)).mono ?_
                      rintro e wa5 ⟨Ba5, ma5, ca5, rfl, hy5, hr5, hg5⟩; have HRa5 := Lib.hid hr5; have HGa5 := Lib.hid hg5; have HBa5 := Lib.hid ((HBz.out).grown hg5 (fun e => HNE.out (Option.some.inj e))); have HYa5 := Lib.hid hy5; clear hr5 hg5 hy5
                      go_wp2_with fail
                      refine hK.out _ _ ⟨⟨(only_trans hHeld.1.1 HGa5.out), (HRz.out).by_keep hHeld.1.2 HGa5.out⟩, (HRz.out).by_keep hHeld.2 HGa5.out⟩ (fun hHeld1 => ?_)
                      clear hHeld hK K
                      have hHeld := hHeld1
                      clear hHeld1
                      refine wpAnyH_weaken (S' := fun W => (((wr.grownBy W (some (w.heap.size + 1))) ∧ By W (fun _ => True) Ba0 ma0 (rval 16 (some r))) ∧ By W (fun _ => True) Ba4 ma4 (rval 200 (nnext 8 (nnext 8 (nnext 1 (rnext 16 (some r))))))) ∧ By W (fun _ => True) Ba5 ma5 (rval 200 (rnext 200 (nnext 8 (nnext 8 (nnext 1 (rnext 16 (some r)))))))) (fun W h => h.1) _ _ _ _ ?_
                      have hHeld2 := And.intro hHeld HYa5.out
                      clear hHeld
                      have hHeld := hHeld2
                      clear hHeld2
                      refine wpAnyH_take (i := 17) (v := (.string (ba (rval 200 (rnext 200 (nnext 8 (nnext 8 (nnext 1 (rnext 16 (some r)))))))))) rfl (by kernel_rfl) (by kernel_rfl) (by kernel_rfl) (fun _ _ _ h => h) (yields_conv (by kernel_rfl) 43 9 (.tmp 48) rfl (.slice Ba5 ma5 ca5) (by simp [Act.eval]) (.string (ba (rval 200 (rnext 200 (nnext 8 (nnext 8 (nnext 1 (rnext 16 (some r))))))))) (fun W hW => run_string_by W 43 9 5 Try.underlying43 Try.underlying5 Try.underlying9 _ _ _ _ _ hW.2)) (by assumption) ?_
                      change wpAnyH _ _ _ _ _ _ _ (Act.put _ (some (49 : Nat)) (.string (ba (rval 200 (rnext 200 (nnext 8 (nnext 8 (nnext 1 (rnext 16 (some r)))))))))) _
                      simp only [Act.put, List.setIfInBounds_toArray, List.set_cons_zero, List.set_cons_succ]
                      obtain ⟨V, hV⟩ : ∃ V : Value, V = .agg #[.string (ba (rval 16 (some r))), .int .i64 ((nval 1 (rnext 16 (some r)) : Nat) : Int), .int .i64 (sx 8 (nval 8 (nnext 1 (rnext 16 (some r))))), .int .i64 (sx 8 (nval 8 (nnext 8 (nnext 1 (rnext 16 (some r)))))), .string (ba (rval 200 (nnext 8 (nnext 8 (nnext 1 (rnext 16 (some r))))))), .string (ba (rval 200 (rnext 200 (nnext 8 (nnext 8 (nnext 1 (rnext 16 (some r))))))))] := ⟨_, rfl⟩
                      have HV := Lib.hid hV
                      clear hV
                      refine wpAnyH_take (i := 18) (v := V) rfl (by kernel_rfl) (by kernel_rfl) (by kernel_rfl) (fun _ _ _ h => h) (yields_build (by kernel_rfl) 27 _ rfl _ (by simp only [List.map_toArray, List.map_cons, List.map_nil, Act.eval]; rfl) V (fun w _ => by rw [HV.out]; exact Try.build_l6 _ _ _ _ _ _ w)) (by assumption) ?_
                      change wpAnyH _ _ _ _ _ _ _ (Act.put _ (some (50 : Nat)) V) _
                      simp only [Act.put, List.setIfInBounds_toArray, List.set_cons_zero, List.set_cons_succ]
                      refine wpAnyH_ready (rs := [20]) (by kernel_rfl) (by simp) ?_
                      refine AllReadyH.cons (o := ⟨none, .store 27 (.tmp 7) (.tmp 50), _, _, _, none⟩) rfl (fun K hK => ?_) AllReadyH.nil
                      have HBp := Lib.hid (HBa5.out); refine step_store_blk rfl 27 (.tmp 7) (.tmp 50) rfl gz [.string (ba (rval 16 (some r))), .int .i64 ((nval 1 (rnext 16 (some r)) : Nat) : Int), .int .i64 (sx 8 (nval 8 (nnext 1 (rnext 16 (some r))))), .int .i64 (sx 8 (nval 8 (nnext 8 (nnext 1 (rnext 16 (some r)))))), .string (ba (rval 200 (nnext 8 (nnext 8 (nnext 1 (rnext 16 (some r))))))), .string (ba (rval 200 (rnext 200 (nnext 8 (nnext 8 (nnext 1 (rnext 16 (some r))))))))] (by simp [Act.eval]) (by simp only [Act.eval]; exact HV.out) 27 [.string (ba []), .int .i64 0, .int .i64 0, .int .i64 0, .string (ba []), .string (ba [])] (HBa5.out) (by kernel_rfl) rfl (one6 _ _ _ _ _ _) ?_; intro we hbe hge; have HBe := Lib.hid hbe; have HGe := Lib.hid hge; have HRe := Lib.hid ((HRa5.out).other hge (fun b hb => ⟨fun e => HNE.out (by rw [Option.some.inj hb]; exact e), by have := Option.some.inj hb; have := HZ.out; have := HSZ.out; omega⟩)); clear hbe hge
                      refine hK.out _ _ ⟨⟨⟨(only_new hHeld.1.1.1 HGe.out HZ.out), By.far hHeld.1.1.2 HGe.out HBp.out (no_u8 _ _ _ _ _ _)⟩, By.far hHeld.1.2 HGe.out HBp.out (no_u8 _ _ _ _ _ _)⟩, By.far hHeld.2 HGe.out HBp.out (no_u8 _ _ _ _ _ _)⟩ (fun hHeld1 => ?_)
                      clear hHeld hK K
                      have hHeld := hHeld1
                      clear hHeld1
                      change wpAnyH _ _ _ _ _ _ _ (Act.put _ none undef) _
                      simp only [Act.put]
                      refine wpAnyH_done (by kernel_rfl) ?_ _
                      have HG6 := Lib.hid hHeld.1.1.1
                      have HOe := Lib.hid (HO.out.far HG6.out (by omega))
                      have HLe := Lib.hid (HB.out.grown HG6.out (by simp; omega))
                      have HZe := Lib.hid (HZ0.out.grown HG6.out (by simp))
                      have HXe := Lib.hid (HX.out.grown HG6.out HX.out.size (fun k hk => by have := Option.some.inj hk; omega))
                      have hsze : w4.heap.size + 1 ≤ we.heap.size := Nat.le_trans HSZ.out HG6.out.size
                      have l2 := HLe.out.cellAt (i := 2) rfl
                      have hq7 : ∀ b, (Value.slice Av nv cv).ownBlock = some b → w4.heap.size + 1 ≤ b := fun b hb => (HO.out.lt b hb).1
                      have HQ7 := Lib.hid hq7
                      clear hHeld hq7
                      go_wp2_with (first
                        | (refine wpList_load_blk rfl 27 (.tmp 7) rfl gz rfl 27 [.string (ba (rval 16 (some r))), .int .i64 ((nval 1 (rnext 16 (some r)) : Nat) : Int), .int .i64 (sx 8 (nval 8 (nnext 1 (rnext 16 (some r))))), .int .i64 (sx 8 (nval 8 (nnext 8 (nnext 1 (rnext 16 (some r)))))), .string (ba (rval 200 (nnext 8 (nnext 8 (nnext 1 (rnext 16 (some r))))))), .string (ba (rval 200 (rnext 200 (nnext 8 (nnext 8 (nnext 1 (rnext 16 (some r))))))))] _ HBe.out Try.underlying27 rfl (by kernel_rfl) ?_)
                        | (refine wpList_build_el rfl Try.el_lt (.tmp 53) rfl [.string (ba (rval 16 (some r))), .int .i64 ((nval 1 (rnext 16 (some r)) : Nat) : Int), .int .i64 (sx 8 (nval 8 (nnext 1 (rnext 16 (some r))))), .int .i64 (sx 8 (nval 8 (nnext 8 (nnext 1 (rnext 16 (some r)))))), .string (ba (rval 200 (nnext 8 (nnext 8 (nnext 1 (rnext 16 (some r))))))), .string (ba (rval 200 (rnext 200 (nnext 8 (nnext 8 (nnext 1 (rnext 16 (some r))))))))] rfl rfl ?_)
                        | (at_builtin; refine wpList_append_el rfl Try.el_lt (.tmp 52) (.tmp 54) rfl (w4.heap.size + 1) _ (ls0.map Lt.cells) rfl (HOe.out.alloc _) _ [.string (ba (rval 16 (some r))), .int .i64 ((nval 1 (rnext 16 (some r)) : Nat) : Int), .int .i64 (sx 8 (nval 8 (nnext 1 (rnext 16 (some r))))), .int .i64 (sx 8 (nval 8 (nnext 8 (nnext 1 (rnext 16 (some r)))))), .string (ba (rval 200 (nnext 8 (nnext 8 (nnext 1 (rnext 16 (some r))))))), .string (ba (rval 200 (rnext 200 (nnext 8 (nnext 8 (nnext 1 (rnext 16 (some r))))))))] rfl (Blk.fresh (by simp) rfl) rfl (fun u hu => by simp at hu; rcases hu with rfl | rfl | rfl | rfl | rfl | rfl <;> rfl) (by (try simp); omega) (by (try simp); omega) ?_; intro v7 w7 ho7 hg7; have HR7 := Lib.hid ((HRe.out.alloc (.cells #[.string (ba (rval 16 (some r))), .int .i64 ((nval 1 (rnext 16 (some r)) : Nat) : Int), .int .i64 (sx 8 (nval 8 (nnext 1 (rnext 16 (some r))))), .int .i64 (sx 8 (nval 8 (nnext 8 (nnext 1 (rnext 16 (some r)))))), .string (ba (rval 200 (nnext 8 (nnext 8 (nnext 1 (rnext 16 (some r))))))), .string (ba (rval 200 (rnext 200 (nnext 8 (nnext 8 (nnext 1 (rnext 16 (some r))))))))] 27)).other hg7 (fun b hb => ⟨by have := HQ7.out b hb; omega, fun h9 => by have := HQ7.out b hb; exact absurd (show b < w.heap.size from h9) (by omega)⟩)); have HL7 := Lib.hid ((HLe.out.alloc (.cells #[.string (ba (rval 16 (some r))), .int .i64 ((nval 1 (rnext 16 (some r)) : Nat) : Int), .int .i64 (sx 8 (nval 8 (nnext 1 (rnext 16 (some r))))), .int .i64 (sx 8 (nval 8 (nnext 8 (nnext 1 (rnext 16 (some r)))))), .string (ba (rval 200 (nnext 8 (nnext 8 (nnext 1 (rnext 16 (some r))))))), .string (ba (rval 200 (rnext 200 (nnext 8 (nnext 8 (nnext 1 (rnext 16 (some r))))))))] 27)).grown hg7 (fun e => by have := HQ7.out _ e.symm; omega)); have HZ7 := Lib.hid ((HZe.out.alloc (.cells #[.string (ba (rval 16 (some r))), .int .i64 ((nval 1 (rnext 16 (some r)) : Nat) : Int), .int .i64 (sx 8 (nval 8 (nnext 1 (rnext 16 (some r))))), .int .i64 (sx 8 (nval 8 (nnext 8 (nnext 1 (rnext 16 (some r)))))), .string (ba (rval 200 (nnext 8 (nnext 8 (nnext 1 (rnext 16 (some r))))))), .string (ba (rval 200 (rnext 200 (nnext 8 (nnext 8 (nnext 1 (rnext 16 (some r))))))))] 27)).grown hg7 (fun e => by have := HQ7.out _ e.symm; omega)); have HX7 := Lib.hid ((HXe.out.alloc HXe.out.size (.cells #[.string (ba (rval 16 (some r))), .int .i64 ((nval 1 (rnext 16 (some r)) : Nat) : Int), .int .i64 (sx 8 (nval 8 (nnext 1 (rnext 16 (some r))))), .int .i64 (sx 8 (nval 8 (nnext 8 (nnext 1 (rnext 16 (some r)))))), .string (ba (rval 200 (nnext 8 (nnext 8 (nnext 1 (rnext 16 (some r))))))), .string (ba (rval 200 (rnext 200 (nnext 8 (nnext 8 (nnext 1 (rnext 16 (some r))))))))] 27)).grown hg7 (by simp; omega) (fun b hb => by have := HQ7.out b hb; omega)); have hsz7 : w4.heap.size + 1 ≤ w7.heap.size := (by have := hg7.size; simp at this; omega); obtain ⟨A7, n7, c7, rfl, hn7⟩ := ho7.out'; have HN7 := Lib.hid hn7; have HO7 := Lib.hid ho7; clear ho7 hg7 hn7)
                        | (refine wpList_store_cell rfl 22 (.tmp 56) (.tmp 55) rfl w4.heap.size 2 rfl (.slice A7 n7 c7) rfl rfl rfl (fun w => by kernel_rfl) 25 [.int .i64 sq, .int .i64 tt, .slice Av nv cv, .slice none 0 0] HL7.out (by simp) ?_; intro w8 hb8 hg8; have HL8 : Hid (Blk w8 w4.heap.size 25 [.int .i64 sq, .int .i64 tt, .slice A7 n7 c7, .slice none 0 0]) := Lib.hid hb8; have HR8 := Lib.hid (HR7.out.other hg8 (fun b hb => ⟨by have := Option.some.inj hb; omega, fun h9 => by have := Option.some.inj hb; exact absurd (show b < w.heap.size from h9) (by omega)⟩)); have HO8 := Lib.hid (HO7.out.far hg8 (by omega)); have HZ8 := Lib.hid (HZ7.out.grown hg8 (by simp; omega)); have HX8 := Lib.hid (HX7.out.grown hg8 HX7.out.size (fun k hk => by have := Option.some.inj hk; omega)); have hsz8 : w4.heap.size + 1 ≤ w8.heap.size := Nat.le_trans hsz7 hg8.size; clear hb8 hg8))
                      go_roundw
                      case rel => exact ⟨k, ls0 ++ [(rdLt (some r)).1], A7, n7, c7, _, by simp; omega, by go_num, HL2.out, HR8.out, by (rw [List.map_append]; exact HO8.out), HL8.out, HZ8.out, HX8.out, hsz8⟩
                      case measure => simp [intOf]
                  · as_aux_lemma =>
                    obtain ⟨gz, hgz⟩ : ∃ gz, wa3.heap.size = gz := ⟨_, rfl⟩; refine step_alloc (by simp [Region.wanted]) 27 rfl (.pointer (some ⟨gz, 0, none⟩)) (wa3.alloc (.cells #[.string (ba []), .int .i64 0, .int .i64 0, .int .i64 0, .string (ba []), .string (ba [])] 27)) (Try.alloc_lt gz wa3 hgz) ?_; have HBz : Hid (Blk (wa3.alloc (.cells #[.string (ba []), .int .i64 0, .int .i64 0, .int .i64 0, .string (ba []), .string (ba [])] 27)) gz 27 [.string (ba []), .int .i64 0, .int .i64 0, .int .i64 0, .string (ba []), .string (ba [])]) := Lib.hid (Blk.fresh hgz.symm rfl); have HRz := Lib.hid ((HRa3.out).alloc (.cells #[.string (ba []), .int .i64 0, .int .i64 0, .int .i64 0, .string (ba []), .string (ba [])] 27)); have HNE : Hid (gz ≠ (w.heap.size + 1)) := Lib.hid (fun e => by have h9 := (HRa3.out).lt; rw [← e, ← hgz] at h9; exact Nat.lt_irrefl _ h9); have HZ : Hid (wr.heap.size ≤ gz) := Lib.hid (hgz ▸ (hHeld.1).size); clear hgz
                    refine hK.out _ _ ⟨(only_trans hHeld.1 (only_below ((Below.refl _ _).alloc (Nat.le_refl _) _))), hHeld.2.alloc _⟩ (fun hHeld1 => ?_)
                    clear hHeld hK K
                    have hHeld := hHeld1
                    clear hHeld1
                    change wpAnyH _ _ _ _ _ _ _ (Act.put _ (some (7 : Nat)) (.pointer (some ⟨gz, 0, none⟩))) _
                    simp only [Act.put, List.setIfInBounds_toArray, List.set_cons_zero, List.set_cons_succ]
                    refine wpAnyH_ready (rs := [13]) (by kernel_rfl) (by simp) ?_
                    refine AllReadyH.cons rfl (fun K hK => ?_) AllReadyH.nil
                    go_simp
                    refine (rrow_rs (HRz.out) 200 (by omega)).mono ?_
                    rintro e wa4 ⟨Ba4, ma4, ca4, rfl, hy4, hr4, hg4⟩; have HRa4 := Lib.hid hr4; have HGa4 := Lib.hid hg4; have HBa4 := Lib.hid ((HBz.out).grown hg4 (fun e => HNE.out (Option.some.inj e))); have HYa4 := Lib.hid hy4; clear hr4 hg4 hy4
                    go_wp2_with fail
                    refine hK.out _ _ ⟨(only_trans hHeld.1 HGa4.out), (HRz.out).by_keep hHeld.2 HGa4.out⟩ (fun hHeld1 => ?_)
                    clear hHeld hK K
                    have hHeld := hHeld1
                    clear hHeld1
                    refine wpAnyH_weaken (S' := fun W => ((wr.grownBy W (some (w.heap.size + 1))) ∧ By W (fun _ => True) Ba0 ma0 (rval 16 (some r))) ∧ By W (fun _ => True) Ba4 ma4 (rval 200 (nnext 8 (nnext 8 (nnext 1 (rnext 16 (some r))))))) (fun W h => h.1) _ _ _ _ ?_
                    have hHeld2 := And.intro hHeld HYa4.out
                    clear hHeld
                    have hHeld := hHeld2
                    clear hHeld2
                    refine wpAnyH_take (i := 14) (v := (.string (ba (rval 200 (nnext 8 (nnext 8 (nnext 1 (rnext 16 (some r))))))))) rfl (by kernel_rfl) (by kernel_rfl) (by kernel_rfl) (fun _ _ _ h => h) (yields_conv (by kernel_rfl) 43 9 (.tmp 45) rfl (.slice Ba4 ma4 ca4) (by simp [Act.eval]) (.string (ba (rval 200 (nnext 8 (nnext 8 (nnext 1 (rnext 16 (some r)))))))) (fun W hW => run_string_by W 43 9 5 Try.underlying43 Try.underlying5 Try.underlying9 _ _ _ _ _ hW.2)) (by assumption) ?_
                    change wpAnyH _ _ _ _ _ _ _ (Act.put _ (some (46 : Nat)) (.string (ba (rval 200 (nnext 8 (nnext 8 (nnext 1 (rnext 16 (some r))))))))) _
                    simp only [Act.put, List.setIfInBounds_toArray, List.set_cons_zero, List.set_cons_succ]
                    refine wpAnyH_ready (rs := [16]) (by kernel_rfl) (by simp) ?_
                    refine AllReadyH.cons rfl (fun K hK => ?_) AllReadyH.nil
                    go_simp
                    refine (rrow_rs (HRa4.out) 200 (by omega)).mono ?_
                    rintro e wa5 ⟨Ba5, ma5, ca5, rfl, hy5, hr5, hg5⟩; have HRa5 := Lib.hid hr5; have HGa5 := Lib.hid hg5; have HBa5 := Lib.hid ((HBa4.out).grown hg5 (fun e => HNE.out (Option.some.inj e))); have HYa5 := Lib.hid hy5; clear hr5 hg5 hy5
                    go_wp2_with fail
                    refine hK.out _ _ ⟨⟨(only_trans hHeld.1.1 HGa5.out), (HRa4.out).by_keep hHeld.1.2 HGa5.out⟩, (HRa4.out).by_keep hHeld.2 HGa5.out⟩ (fun hHeld1 => ?_)
                    clear hHeld hK K
                    have hHeld := hHeld1
                    clear hHeld1
                    refine wpAnyH_weaken (S' := fun W => (((wr.grownBy W (some (w.heap.size + 1))) ∧ By W (fun _ => True) Ba0 ma0 (rval 16 (some r))) ∧ By W (fun _ => True) Ba4 ma4 (rval 200 (nnext 8 (nnext 8 (nnext 1 (rnext 16 (some r))))))) ∧ By W (fun _ => True) Ba5 ma5 (rval 200 (rnext 200 (nnext 8 (nnext 8 (nnext 1 (rnext 16 (some r)))))))) (fun W h => h.1) _ _ _ _ ?_
                    have hHeld2 := And.intro hHeld HYa5.out
                    clear hHeld
                    have hHeld := hHeld2
                    clear hHeld2
                    refine wpAnyH_take (i := 17) (v := (.string (ba (rval 200 (rnext 200 (nnext 8 (nnext 8 (nnext 1 (rnext 16 (some r)))))))))) rfl (by kernel_rfl) (by kernel_rfl) (by kernel_rfl) (fun _ _ _ h => h) (yields_conv (by kernel_rfl) 43 9 (.tmp 48) rfl (.slice Ba5 ma5 ca5) (by simp [Act.eval]) (.string (ba (rval 200 (rnext 200 (nnext 8 (nnext 8 (nnext 1 (rnext 16 (some r))))))))) (fun W hW => run_string_by W 43 9 5 Try.underlying43 Try.underlying5 Try.underlying9 _ _ _ _ _ hW.2)) (by assumption) ?_
                    change wpAnyH _ _ _ _ _ _ _ (Act.put _ (some (49 : Nat)) (.string (ba (rval 200 (rnext 200 (nnext 8 (nnext 8 (nnext 1 (rnext 16 (some r)))))))))) _
                    simp only [Act.put, List.setIfInBounds_toArray, List.set_cons_zero, List.set_cons_succ]
                    obtain ⟨V, hV⟩ : ∃ V : Value, V = .agg #[.string (ba (rval 16 (some r))), .int .i64 ((nval 1 (rnext 16 (some r)) : Nat) : Int), .int .i64 (sx 8 (nval 8 (nnext 1 (rnext 16 (some r))))), .int .i64 (sx 8 (nval 8 (nnext 8 (nnext 1 (rnext 16 (some r)))))), .string (ba (rval 200 (nnext 8 (nnext 8 (nnext 1 (rnext 16 (some r))))))), .string (ba (rval 200 (rnext 200 (nnext 8 (nnext 8 (nnext 1 (rnext 16 (some r))))))))] := ⟨_, rfl⟩
                    have HV := Lib.hid hV
                    clear hV
                    refine wpAnyH_take (i := 18) (v := V) rfl (by kernel_rfl) (by kernel_rfl) (by kernel_rfl) (fun _ _ _ h => h) (yields_build (by kernel_rfl) 27 _ rfl _ (by simp only [List.map_toArray, List.map_cons, List.map_nil, Act.eval]; rfl) V (fun w _ => by rw [HV.out]; exact Try.build_l6 _ _ _ _ _ _ w)) (by assumption) ?_
                    change wpAnyH _ _ _ _ _ _ _ (Act.put _ (some (50 : Nat)) V) _
                    simp only [Act.put, List.setIfInBounds_toArray, List.set_cons_zero, List.set_cons_succ]
                    refine wpAnyH_ready (rs := [20]) (by kernel_rfl) (by simp) ?_
                    refine AllReadyH.cons (o := ⟨none, .store 27 (.tmp 7) (.tmp 50), _, _, _, none⟩) rfl (fun K hK => ?_) AllReadyH.nil
                    have HBp := Lib.hid (HBa5.out); refine step_store_blk rfl 27 (.tmp 7) (.tmp 50) rfl gz [.string (ba (rval 16 (some r))), .int .i64 ((nval 1 (rnext 16 (some r)) : Nat) : Int), .int .i64 (sx 8 (nval 8 (nnext 1 (rnext 16 (some r))))), .int .i64 (sx 8 (nval 8 (nnext 8 (nnext 1 (rnext 16 (some r)))))), .string (ba (rval 200 (nnext 8 (nnext 8 (nnext 1 (rnext 16 (some r))))))), .string (ba (rval 200 (rnext 200 (nnext 8 (nnext 8 (nnext 1 (rnext 16 (some r))))))))] (by simp [Act.eval]) (by simp only [Act.eval]; exact HV.out) 27 [.string (ba []), .int .i64 0, .int .i64 0, .int .i64 0, .string (ba []), .string (ba [])] (HBa5.out) (by kernel_rfl) rfl (one6 _ _ _ _ _ _) ?_; intro we hbe hge; have HBe := Lib.hid hbe; have HGe := Lib.hid hge; have HRe := Lib.hid ((HRa5.out).other hge (fun b hb => ⟨fun e => HNE.out (by rw [Option.some.inj hb]; exact e), by have := Option.some.inj hb; have := HZ.out; have := HSZ.out; omega⟩)); clear hbe hge
                    refine hK.out _ _ ⟨⟨⟨(only_new hHeld.1.1.1 HGe.out HZ.out), By.far hHeld.1.1.2 HGe.out HBp.out (no_u8 _ _ _ _ _ _)⟩, By.far hHeld.1.2 HGe.out HBp.out (no_u8 _ _ _ _ _ _)⟩, By.far hHeld.2 HGe.out HBp.out (no_u8 _ _ _ _ _ _)⟩ (fun hHeld1 => ?_)
                    clear hHeld hK K
                    have hHeld := hHeld1
                    clear hHeld1
                    change wpAnyH _ _ _ _ _ _ _ (Act.put _ none undef) _
                    simp only [Act.put]
                    refine wpAnyH_done (by kernel_rfl) ?_ _
                    have HG6 := Lib.hid hHeld.1.1.1
                    have HOe := Lib.hid (HO.out.far HG6.out (by omega))
                    have HLe := Lib.hid (HB.out.grown HG6.out (by simp; omega))
                    have HZe := Lib.hid (HZ0.out.grown HG6.out (by simp))
                    have HXe := Lib.hid (HX.out.grown HG6.out HX.out.size (fun k hk => by have := Option.some.inj hk; omega))
                    have hsze : w4.heap.size + 1 ≤ we.heap.size := Nat.le_trans HSZ.out HG6.out.size
                    have l2 := HLe.out.cellAt (i := 2) rfl
                    have hq7 : ∀ b, (Value.slice Av nv cv).ownBlock = some b → w4.heap.size + 1 ≤ b := fun b hb => (HO.out.lt b hb).1
                    have HQ7 := Lib.hid hq7
                    clear hHeld hq7
                    go_wp2_with (first
                      | (refine wpList_load_blk rfl 27 (.tmp 7) rfl gz rfl 27 [.string (ba (rval 16 (some r))), .int .i64 ((nval 1 (rnext 16 (some r)) : Nat) : Int), .int .i64 (sx 8 (nval 8 (nnext 1 (rnext 16 (some r))))), .int .i64 (sx 8 (nval 8 (nnext 8 (nnext 1 (rnext 16 (some r)))))), .string (ba (rval 200 (nnext 8 (nnext 8 (nnext 1 (rnext 16 (some r))))))), .string (ba (rval 200 (rnext 200 (nnext 8 (nnext 8 (nnext 1 (rnext 16 (some r))))))))] _ HBe.out Try.underlying27 rfl (by kernel_rfl) ?_)
                      | (refine wpList_build_el rfl Try.el_lt (.tmp 53) rfl [.string (ba (rval 16 (some r))), .int .i64 ((nval 1 (rnext 16 (some r)) : Nat) : Int), .int .i64 (sx 8 (nval 8 (nnext 1 (rnext 16 (some r))))), .int .i64 (sx 8 (nval 8 (nnext 8 (nnext 1 (rnext 16 (some r)))))), .string (ba (rval 200 (nnext 8 (nnext 8 (nnext 1 (rnext 16 (some r))))))), .string (ba (rval 200 (rnext 200 (nnext 8 (nnext 8 (nnext 1 (rnext 16 (some r))))))))] rfl rfl ?_)
                      | (at_builtin; refine wpList_append_el rfl Try.el_lt (.tmp 52) (.tmp 54) rfl (w4.heap.size + 1) _ (ls0.map Lt.cells) rfl (HOe.out.alloc _) _ [.string (ba (rval 16 (some r))), .int .i64 ((nval 1 (rnext 16 (some r)) : Nat) : Int), .int .i64 (sx 8 (nval 8 (nnext 1 (rnext 16 (some r))))), .int .i64 (sx 8 (nval 8 (nnext 8 (nnext 1 (rnext 16 (some r)))))), .string (ba (rval 200 (nnext 8 (nnext 8 (nnext 1 (rnext 16 (some r))))))), .string (ba (rval 200 (rnext 200 (nnext 8 (nnext 8 (nnext 1 (rnext 16 (some r))))))))] rfl (Blk.fresh (by simp) rfl) rfl (fun u hu => by simp at hu; rcases hu with rfl | rfl | rfl | rfl | rfl | rfl <;> rfl) (by (try simp); omega) (by (try simp); omega) ?_; intro v7 w7 ho7 hg7; have HR7 := Lib.hid ((HRe.out.alloc (.cells #[.string (ba (rval 16 (some r))), .int .i64 ((nval 1 (rnext 16 (some r)) : Nat) : Int), .int .i64 (sx 8 (nval 8 (nnext 1 (rnext 16 (some r))))), .int .i64 (sx 8 (nval 8 (nnext 8 (nnext 1 (rnext 16 (some r)))))), .string (ba (rval 200 (nnext 8 (nnext 8 (nnext 1 (rnext 16 (some r))))))), .string (ba (rval 200 (rnext 200 (nnext 8 (nnext 8 (nnext 1 (rnext 16 (some r))))))))] 27)).other hg7 (fun b hb => ⟨by have := HQ7.out b hb; omega, fun h9 => by have := HQ7.out b hb; exact absurd (show b < w.heap.size from h9) (by omega)⟩)); have HL7 := Lib.hid ((HLe.out.alloc (.cells #[.string (ba (rval 16 (some r))), .int .i64 ((nval 1 (rnext 16 (some r)) : Nat) : Int), .int .i64 (sx 8 (nval 8 (nnext 1 (rnext 16 (some r))))), .int .i64 (sx 8 (nval 8 (nnext 8 (nnext 1 (rnext 16 (some r)))))), .string (ba (rval 200 (nnext 8 (nnext 8 (nnext 1 (rnext 16 (some r))))))), .string (ba (rval 200 (rnext 200 (nnext 8 (nnext 8 (nnext 1 (rnext 16 (some r))))))))] 27)).grown hg7 (fun e => by have := HQ7.out _ e.symm; omega)); have HZ7 := Lib.hid ((HZe.out.alloc (.cells #[.string (ba (rval 16 (some r))), .int .i64 ((nval 1 (rnext 16 (some r)) : Nat) : Int), .int .i64 (sx 8 (nval 8 (nnext 1 (rnext 16 (some r))))), .int .i64 (sx 8 (nval 8 (nnext 8 (nnext 1 (rnext 16 (some r)))))), .string (ba (rval 200 (nnext 8 (nnext 8 (nnext 1 (rnext 16 (some r))))))), .string (ba (rval 200 (rnext 200 (nnext 8 (nnext 8 (nnext 1 (rnext 16 (some r))))))))] 27)).grown hg7 (fun e => by have := HQ7.out _ e.symm; omega)); have HX7 := Lib.hid ((HXe.out.alloc HXe.out.size (.cells #[.string (ba (rval 16 (some r))), .int .i64 ((nval 1 (rnext 16 (some r)) : Nat) : Int), .int .i64 (sx 8 (nval 8 (nnext 1 (rnext 16 (some r))))), .int .i64 (sx 8 (nval 8 (nnext 8 (nnext 1 (rnext 16 (some r)))))), .string (ba (rval 200 (nnext 8 (nnext 8 (nnext 1 (rnext 16 (some r))))))), .string (ba (rval 200 (rnext 200 (nnext 8 (nnext 8 (nnext 1 (rnext 16 (some r))))))))] 27)).grown hg7 (by simp; omega) (fun b hb => by have := HQ7.out b hb; omega)); have hsz7 : w4.heap.size + 1 ≤ w7.heap.size := (by have := hg7.size; simp at this; omega); obtain ⟨A7, n7, c7, rfl, hn7⟩ := ho7.out'; have HN7 := Lib.hid hn7; have HO7 := Lib.hid ho7; clear ho7 hg7 hn7)
                      | (refine wpList_store_cell rfl 22 (.tmp 56) (.tmp 55) rfl w4.heap.size 2 rfl (.slice A7 n7 c7) rfl rfl rfl (fun w => by kernel_rfl) 25 [.int .i64 sq, .int .i64 tt, .slice Av nv cv, .slice none 0 0] HL7.out (by simp) ?_; intro w8 hb8 hg8; have HL8 : Hid (Blk w8 w4.heap.size 25 [.int .i64 sq, .int .i64 tt, .slice A7 n7 c7, .slice none 0 0]) := Lib.hid hb8; have HR8 := Lib.hid (HR7.out.other hg8 (fun b hb => ⟨by have := Option.some.inj hb; omega, fun h9 => by have := Option.some.inj hb; exact absurd (show b < w.heap.size from h9) (by omega)⟩)); have HO8 := Lib.hid (HO7.out.far hg8 (by omega)); have HZ8 := Lib.hid (HZ7.out.grown hg8 (by simp; omega)); have HX8 := Lib.hid (HX7.out.grown hg8 HX7.out.size (fun k hk => by have := Option.some.inj hk; omega)); have hsz8 : w4.heap.size + 1 ≤ w8.heap.size := Nat.le_trans hsz7 hg8.size; clear hb8 hg8))
                    go_roundw
                    case rel => exact ⟨k, ls0 ++ [(rdLt (some r)).1], A7, n7, c7, _, by simp; omega, by go_num, HL2.out, HR8.out, by (rw [List.map_append]; exact HO8.out), HL8.out, HZ8.out, HX8.out, hsz8⟩
                    case measure => simp [intOf]
                · as_aux_lemma =>
                  obtain ⟨gz, hgz⟩ : ∃ gz, wa2.heap.size = gz := ⟨_, rfl⟩; refine step_alloc (by simp [Region.wanted]) 27 rfl (.pointer (some ⟨gz, 0, none⟩)) (wa2.alloc (.cells #[.string (ba []), .int .i64 0, .int .i64 0, .int .i64 0, .string (ba []), .string (ba [])] 27)) (Try.alloc_lt gz wa2 hgz) ?_; have HBz : Hid (Blk (wa2.alloc (.cells #[.string (ba []), .int .i64 0, .int .i64 0, .int .i64 0, .string (ba []), .string (ba [])] 27)) gz 27 [.string (ba []), .int .i64 0, .int .i64 0, .int .i64 0, .string (ba []), .string (ba [])]) := Lib.hid (Blk.fresh hgz.symm rfl); have HRz := Lib.hid ((HRa2.out).alloc (.cells #[.string (ba []), .int .i64 0, .int .i64 0, .int .i64 0, .string (ba []), .string (ba [])] 27)); have HNE : Hid (gz ≠ (w.heap.size + 1)) := Lib.hid (fun e => by have h9 := (HRa2.out).lt; rw [← e, ← hgz] at h9; exact Nat.lt_irrefl _ h9); have HZ : Hid (wr.heap.size ≤ gz) := Lib.hid (hgz ▸ (hHeld.1).size); clear hgz
                  refine hK.out _ _ ⟨(only_trans hHeld.1 (only_below ((Below.refl _ _).alloc (Nat.le_refl _) _))), hHeld.2.alloc _⟩ (fun hHeld1 => ?_)
                  clear hHeld hK K
                  have hHeld := hHeld1
                  clear hHeld1
                  change wpAnyH _ _ _ _ _ _ _ (Act.put _ (some (7 : Nat)) (.pointer (some ⟨gz, 0, none⟩))) _
                  simp only [Act.put, List.setIfInBounds_toArray, List.set_cons_zero, List.set_cons_succ]
                  refine wpAnyH_ready (rs := [10]) (by kernel_rfl) (by simp) ?_
                  refine AllReadyH.cons rfl (fun K hK => ?_) AllReadyH.nil
                  go_simp
                  refine (rnumber_rs (HRz.out) 8 rfl).mono ?_
                  rintro e wa3 ⟨rfl, hr3, hg3⟩; have HRa3 := Lib.hid hr3; have HGa3 := Lib.hid hg3; have HBa3 := Lib.hid ((HBz.out).grown hg3 (fun e => HNE.out (Option.some.inj e))); clear hr3 hg3
                  go_wp2_with fail
                  refine hK.out _ _ ⟨(only_trans hHeld.1 HGa3.out), (HRz.out).by_keep hHeld.2 HGa3.out⟩ (fun hHeld1 => ?_)
                  clear hHeld hK K
                  have hHeld := hHeld1
                  clear hHeld1
                  refine wpAnyH_take (i := 11) (v := (.int .i64 (sx 8 (nval 8 (nnext 8 (nnext 1 (rnext 16 (some r)))))))) rfl (by kernel_rfl) (by kernel_rfl) (by kernel_rfl) (fun _ _ _ h => h) (yields_conv (by kernel_rfl) 61 2 (.tmp 42) rfl (.int .u64 ((nval 8 (nnext 8 (nnext 1 (rnext 16 (some r)))) : Nat) : Int)) (by simp [Act.eval]) (.int .i64 (sx 8 (nval 8 (nnext 8 (nnext 1 (rnext 16 (some r))))))) (fun W _ => conv_i64 61 2 Try.underlying61 Try.underlying2 _ (by have := nval_lt 8 (nnext 8 (nnext 1 (rnext 16 (some r)))); simp only [e8] at this; omega) W)) (by assumption) ?_
                  change wpAnyH _ _ _ _ _ _ _ (Act.put _ (some (43 : Nat)) (.int .i64 (sx 8 (nval 8 (nnext 8 (nnext 1 (rnext 16 (some r)))))))) _
                  simp only [Act.put, List.setIfInBounds_toArray, List.set_cons_zero, List.set_cons_succ]
                  refine wpAnyH_ready (rs := [13]) (by kernel_rfl) (by simp) ?_
                  refine AllReadyH.cons rfl (fun K hK => ?_) AllReadyH.nil
                  go_simp
                  refine (rrow_rs (HRa3.out) 200 (by omega)).mono ?_
                  rintro e wa4 ⟨Ba4, ma4, ca4, rfl, hy4, hr4, hg4⟩; have HRa4 := Lib.hid hr4; have HGa4 := Lib.hid hg4; have HBa4 := Lib.hid ((HBa3.out).grown hg4 (fun e => HNE.out (Option.some.inj e))); have HYa4 := Lib.hid hy4; clear hr4 hg4 hy4
                  go_wp2_with fail
                  refine hK.out _ _ ⟨(only_trans hHeld.1 HGa4.out), (HRa3.out).by_keep hHeld.2 HGa4.out⟩ (fun hHeld1 => ?_)
                  clear hHeld hK K
                  have hHeld := hHeld1
                  clear hHeld1
                  refine wpAnyH_weaken (S' := fun W => ((wr.grownBy W (some (w.heap.size + 1))) ∧ By W (fun _ => True) Ba0 ma0 (rval 16 (some r))) ∧ By W (fun _ => True) Ba4 ma4 (rval 200 (nnext 8 (nnext 8 (nnext 1 (rnext 16 (some r))))))) (fun W h => h.1) _ _ _ _ ?_
                  have hHeld2 := And.intro hHeld HYa4.out
                  clear hHeld
                  have hHeld := hHeld2
                  clear hHeld2
                  refine wpAnyH_take (i := 14) (v := (.string (ba (rval 200 (nnext 8 (nnext 8 (nnext 1 (rnext 16 (some r))))))))) rfl (by kernel_rfl) (by kernel_rfl) (by kernel_rfl) (fun _ _ _ h => h) (yields_conv (by kernel_rfl) 43 9 (.tmp 45) rfl (.slice Ba4 ma4 ca4) (by simp [Act.eval]) (.string (ba (rval 200 (nnext 8 (nnext 8 (nnext 1 (rnext 16 (some r)))))))) (fun W hW => run_string_by W 43 9 5 Try.underlying43 Try.underlying5 Try.underlying9 _ _ _ _ _ hW.2)) (by assumption) ?_
                  change wpAnyH _ _ _ _ _ _ _ (Act.put _ (some (46 : Nat)) (.string (ba (rval 200 (nnext 8 (nnext 8 (nnext 1 (rnext 16 (some r))))))))) _
                  simp only [Act.put, List.setIfInBounds_toArray, List.set_cons_zero, List.set_cons_succ]
                  refine wpAnyH_ready (rs := [16]) (by kernel_rfl) (by simp) ?_
                  refine AllReadyH.cons rfl (fun K hK => ?_) AllReadyH.nil
                  go_simp
                  refine (rrow_rs (HRa4.out) 200 (by omega)).mono ?_
                  rintro e wa5 ⟨Ba5, ma5, ca5, rfl, hy5, hr5, hg5⟩; have HRa5 := Lib.hid hr5; have HGa5 := Lib.hid hg5; have HBa5 := Lib.hid ((HBa4.out).grown hg5 (fun e => HNE.out (Option.some.inj e))); have HYa5 := Lib.hid hy5; clear hr5 hg5 hy5
                  go_wp2_with fail
                  refine hK.out _ _ ⟨⟨(only_trans hHeld.1.1 HGa5.out), (HRa4.out).by_keep hHeld.1.2 HGa5.out⟩, (HRa4.out).by_keep hHeld.2 HGa5.out⟩ (fun hHeld1 => ?_)
                  clear hHeld hK K
                  have hHeld := hHeld1
                  clear hHeld1
                  refine wpAnyH_weaken (S' := fun W => (((wr.grownBy W (some (w.heap.size + 1))) ∧ By W (fun _ => True) Ba0 ma0 (rval 16 (some r))) ∧ By W (fun _ => True) Ba4 ma4 (rval 200 (nnext 8 (nnext 8 (nnext 1 (rnext 16 (some r))))))) ∧ By W (fun _ => True) Ba5 ma5 (rval 200 (rnext 200 (nnext 8 (nnext 8 (nnext 1 (rnext 16 (some r)))))))) (fun W h => h.1) _ _ _ _ ?_
                  have hHeld2 := And.intro hHeld HYa5.out
                  clear hHeld
                  have hHeld := hHeld2
                  clear hHeld2
                  refine wpAnyH_take (i := 17) (v := (.string (ba (rval 200 (rnext 200 (nnext 8 (nnext 8 (nnext 1 (rnext 16 (some r)))))))))) rfl (by kernel_rfl) (by kernel_rfl) (by kernel_rfl) (fun _ _ _ h => h) (yields_conv (by kernel_rfl) 43 9 (.tmp 48) rfl (.slice Ba5 ma5 ca5) (by simp [Act.eval]) (.string (ba (rval 200 (rnext 200 (nnext 8 (nnext 8 (nnext 1 (rnext 16 (some r))))))))) (fun W hW => run_string_by W 43 9 5 Try.underlying43 Try.underlying5 Try.underlying9 _ _ _ _ _ hW.2)) (by assumption) ?_
                  change wpAnyH _ _ _ _ _ _ _ (Act.put _ (some (49 : Nat)) (.string (ba (rval 200 (rnext 200 (nnext 8 (nnext 8 (nnext 1 (rnext 16 (some r)))))))))) _
                  simp only [Act.put, List.setIfInBounds_toArray, List.set_cons_zero, List.set_cons_succ]
                  obtain ⟨V, hV⟩ : ∃ V : Value, V = .agg #[.string (ba (rval 16 (some r))), .int .i64 ((nval 1 (rnext 16 (some r)) : Nat) : Int), .int .i64 (sx 8 (nval 8 (nnext 1 (rnext 16 (some r))))), .int .i64 (sx 8 (nval 8 (nnext 8 (nnext 1 (rnext 16 (some r)))))), .string (ba (rval 200 (nnext 8 (nnext 8 (nnext 1 (rnext 16 (some r))))))), .string (ba (rval 200 (rnext 200 (nnext 8 (nnext 8 (nnext 1 (rnext 16 (some r))))))))] := ⟨_, rfl⟩
                  have HV := Lib.hid hV
                  clear hV
                  refine wpAnyH_take (i := 18) (v := V) rfl (by kernel_rfl) (by kernel_rfl) (by kernel_rfl) (fun _ _ _ h => h) (yields_build (by kernel_rfl) 27 _ rfl _ (by simp only [List.map_toArray, List.map_cons, List.map_nil, Act.eval]; rfl) V (fun w _ => by rw [HV.out]; exact Try.build_l6 _ _ _ _ _ _ w)) (by assumption) ?_
                  change wpAnyH _ _ _ _ _ _ _ (Act.put _ (some (50 : Nat)) V) _
                  simp only [Act.put, List.setIfInBounds_toArray, List.set_cons_zero, List.set_cons_succ]
                  refine wpAnyH_ready (rs := [20]) (by kernel_rfl) (by simp) ?_
                  refine AllReadyH.cons (o := ⟨none, .store 27 (.tmp 7) (.tmp 50), _, _, _, none⟩) rfl (fun K hK => ?_) AllReadyH.nil
                  have HBp := Lib.hid (HBa5.out); refine step_store_blk rfl 27 (.tmp 7) (.tmp 50) rfl gz [.string (ba (rval 16 (some r))), .int .i64 ((nval 1 (rnext 16 (some r)) : Nat) : Int), .int .i64 (sx 8 (nval 8 (nnext 1 (rnext 16 (some r))))), .int .i64 (sx 8 (nval 8 (nnext 8 (nnext 1 (rnext 16 (some r)))))), .string (ba (rval 200 (nnext 8 (nnext 8 (nnext 1 (rnext 16 (some r))))))), .string (ba (rval 200 (rnext 200 (nnext 8 (nnext 8 (nnext 1 (rnext 16 (some r))))))))] (by simp [Act.eval]) (by simp only [Act.eval]; exact HV.out) 27 [.string (ba []), .int .i64 0, .int .i64 0, .int .i64 0, .string (ba []), .string (ba [])] (HBa5.out) (by kernel_rfl) rfl (one6 _ _ _ _ _ _) ?_; intro we hbe hge; have HBe := Lib.hid hbe; have HGe := Lib.hid hge; have HRe := Lib.hid ((HRa5.out).other hge (fun b hb => ⟨fun e => HNE.out (by rw [Option.some.inj hb]; exact e), by have := Option.some.inj hb; have := HZ.out; have := HSZ.out; omega⟩)); clear hbe hge
                  refine hK.out _ _ ⟨⟨⟨(only_new hHeld.1.1.1 HGe.out HZ.out), By.far hHeld.1.1.2 HGe.out HBp.out (no_u8 _ _ _ _ _ _)⟩, By.far hHeld.1.2 HGe.out HBp.out (no_u8 _ _ _ _ _ _)⟩, By.far hHeld.2 HGe.out HBp.out (no_u8 _ _ _ _ _ _)⟩ (fun hHeld1 => ?_)
                  clear hHeld hK K
                  have hHeld := hHeld1
                  clear hHeld1
                  change wpAnyH _ _ _ _ _ _ _ (Act.put _ none undef) _
                  simp only [Act.put]
                  refine wpAnyH_done (by kernel_rfl) ?_ _
                  have HG6 := Lib.hid hHeld.1.1.1
                  have HOe := Lib.hid (HO.out.far HG6.out (by omega))
                  have HLe := Lib.hid (HB.out.grown HG6.out (by simp; omega))
                  have HZe := Lib.hid (HZ0.out.grown HG6.out (by simp))
                  have HXe := Lib.hid (HX.out.grown HG6.out HX.out.size (fun k hk => by have := Option.some.inj hk; omega))
                  have hsze : w4.heap.size + 1 ≤ we.heap.size := Nat.le_trans HSZ.out HG6.out.size
                  have l2 := HLe.out.cellAt (i := 2) rfl
                  have hq7 : ∀ b, (Value.slice Av nv cv).ownBlock = some b → w4.heap.size + 1 ≤ b := fun b hb => (HO.out.lt b hb).1
                  have HQ7 := Lib.hid hq7
                  clear hHeld hq7
                  go_wp2_with (first
                    | (refine wpList_load_blk rfl 27 (.tmp 7) rfl gz rfl 27 [.string (ba (rval 16 (some r))), .int .i64 ((nval 1 (rnext 16 (some r)) : Nat) : Int), .int .i64 (sx 8 (nval 8 (nnext 1 (rnext 16 (some r))))), .int .i64 (sx 8 (nval 8 (nnext 8 (nnext 1 (rnext 16 (some r)))))), .string (ba (rval 200 (nnext 8 (nnext 8 (nnext 1 (rnext 16 (some r))))))), .string (ba (rval 200 (rnext 200 (nnext 8 (nnext 8 (nnext 1 (rnext 16 (some r))))))))] _ HBe.out Try.underlying27 rfl (by kernel_rfl) ?_)
                    | (refine wpList_build_el rfl Try.el_lt (.tmp 53) rfl [.string (ba (rval 16 (some r))), .int .i64 ((nval 1 (rnext 16 (some r)) : Nat) : Int), .int .i64 (sx 8 (nval 8 (nnext 1 (rnext 16 (some r))))), .int .i64 (sx 8 (nval 8 (nnext 8 (nnext 1 (rnext 16 (some r)))))), .string (ba (rval 200 (nnext 8 (nnext 8 (nnext 1 (rnext 16 (some r))))))), .string (ba (rval 200 (rnext 200 (nnext 8 (nnext 8 (nnext 1 (rnext 16 (some r))))))))] rfl rfl ?_)
                    | (at_builtin; refine wpList_append_el rfl Try.el_lt (.tmp 52) (.tmp 54) rfl (w4.heap.size + 1) _ (ls0.map Lt.cells) rfl (HOe.out.alloc _) _ [.string (ba (rval 16 (some r))), .int .i64 ((nval 1 (rnext 16 (some r)) : Nat) : Int), .int .i64 (sx 8 (nval 8 (nnext 1 (rnext 16 (some r))))), .int .i64 (sx 8 (nval 8 (nnext 8 (nnext 1 (rnext 16 (some r)))))), .string (ba (rval 200 (nnext 8 (nnext 8 (nnext 1 (rnext 16 (some r))))))), .string (ba (rval 200 (rnext 200 (nnext 8 (nnext 8 (nnext 1 (rnext 16 (some r))))))))] rfl (Blk.fresh (by simp) rfl) rfl (fun u hu => by simp at hu; rcases hu with rfl | rfl | rfl | rfl | rfl | rfl <;> rfl) (by (try simp); omega) (by (try simp); omega) ?_; intro v7 w7 ho7 hg7; have HR7 := Lib.hid ((HRe.out.alloc (.cells #[.string (ba (rval 16 (some r))), .int .i64 ((nval 1 (rnext 16 (some r)) : Nat) : Int), .int .i64 (sx 8 (nval 8 (nnext 1 (rnext 16 (some r))))), .int .i64 (sx 8 (nval 8 (nnext 8 (nnext 1 (rnext 16 (some r)))))), .string (ba (rval 200 (nnext 8 (nnext 8 (nnext 1 (rnext 16 (some r))))))), .string (ba (rval 200 (rnext 200 (nnext 8 (nnext 8 (nnext 1 (rnext 16 (some r))))))))] 27)).other hg7 (fun b hb => ⟨by have := HQ7.out b hb; omega, fun h9 => by have := HQ7.out b hb; exact absurd (show b < w.heap.size from h9) (by omega)⟩)); have HL7 := Lib.hid ((HLe.out.alloc (.cells #[.string (ba (rval 16 (some r))), .int .i64 ((nval 1 (rnext 16 (some r)) : Nat) : Int), .int .i64 (sx 8 (nval 8 (nnext 1 (rnext 16 (some r))))), .int .i64 (sx 8 (nval 8 (nnext 8 (nnext 1 (rnext 16 (some r)))))), .string (ba (rval 200 (nnext 8 (nnext 8 (nnext 1 (rnext 16 (some r))))))), .string (ba (rval 200 (rnext 200 (nnext 8 (nnext 8 (nnext 1 (rnext 16 (some r))))))))] 27)).grown hg7 (fun e => by have := HQ7.out _ e.symm; omega)); have HZ7 := Lib.hid ((HZe.out.alloc (.cells #[.string (ba (rval 16 (some r))), .int .i64 ((nval 1 (rnext 16 (some r)) : Nat) : Int), .int .i64 (sx 8 (nval 8 (nnext 1 (rnext 16 (some r))))), .int .i64 (sx 8 (nval 8 (nnext 8 (nnext 1 (rnext 16 (some r)))))), .string (ba (rval 200 (nnext 8 (nnext 8 (nnext 1 (rnext 16 (some r))))))), .string (ba (rval 200 (rnext 200 (nnext 8 (nnext 8 (nnext 1 (rnext 16 (some r))))))))] 27)).grown hg7 (fun e => by have := HQ7.out _ e.symm; omega)); have HX7 := Lib.hid ((HXe.out.alloc HXe.out.size (.cells #[.string (ba (rval 16 (some r))), .int .i64 ((nval 1 (rnext 16 (some r)) : Nat) : Int), .int .i64 (sx 8 (nval 8 (nnext 1 (rnext 16 (some r))))), .int .i64 (sx 8 (nval 8 (nnext 8 (nnext 1 (rnext 16 (some r)))))), .string (ba (rval 200 (nnext 8 (nnext 8 (nnext 1 (rnext 16 (some r))))))), .string (ba (rval 200 (rnext 200 (nnext 8 (nnext 8 (nnext 1 (rnext 16 (some r))))))))] 27)).grown hg7 (by simp; omega) (fun b hb => by have := HQ7.out b hb; omega)); have hsz7 : w4.heap.size + 1 ≤ w7.heap.size := (by have := hg7.size; simp at this; omega); obtain ⟨A7, n7, c7, rfl, hn7⟩ := ho7.out'; have HN7 := Lib.hid hn7; have HO7 := Lib.hid ho7; clear ho7 hg7 hn7)
                    | (refine wpList_store_cell rfl 22 (.tmp 56) (.tmp 55) rfl w4.heap.size 2 rfl (.slice A7 n7 c7) rfl rfl rfl (fun w => by kernel_rfl) 25 [.int .i64 sq, .int .i64 tt, .slice Av nv cv, .slice none 0 0] HL7.out (by simp) ?_; intro w8 hb8 hg8; have HL8 : Hid (Blk w8 w4.heap.size 25 [.int .i64 sq, .int .i64 tt, .slice A7 n7 c7, .slice none 0 0]) := Lib.hid hb8; have HR8 := Lib.hid (HR7.out.other hg8 (fun b hb => ⟨by have := Option.some.inj hb; omega, fun h9 => by have := Option.some.inj hb; exact absurd (show b < w.heap.size from h9) (by omega)⟩)); have HO8 := Lib.hid (HO7.out.far hg8 (by omega)); have HZ8 := Lib.hid (HZ7.out.grown hg8 (by simp; omega)); have HX8 := Lib.hid (HX7.out.grown hg8 HX7.out.size (fun k hk => by have := Option.some.inj hk; omega)); have hsz8 : w4.heap.size + 1 ≤ w8.heap.size := Nat.le_trans hsz7 hg8.size; clear hb8 hg8))
                  go_roundw
                  case rel => exact ⟨k, ls0 ++ [(rdLt (some r)).1], A7, n7, c7, _, by simp; omega, by go_num, HL2.out, HR8.out, by (rw [List.map_append]; exact HO8.out), HL8.out, HZ8.out, HX8.out, hsz8⟩
                  case measure => simp [intOf]
              · as_aux_lemma =>
                obtain ⟨gz, hgz⟩ : ∃ gz, wa1.heap.size = gz := ⟨_, rfl⟩; refine step_alloc (by simp [Region.wanted]) 27 rfl (.pointer (some ⟨gz, 0, none⟩)) (wa1.alloc (.cells #[.string (ba []), .int .i64 0, .int .i64 0, .int .i64 0, .string (ba []), .string (ba [])] 27)) (Try.alloc_lt gz wa1 hgz) ?_; have HBz : Hid (Blk (wa1.alloc (.cells #[.string (ba []), .int .i64 0, .int .i64 0, .int .i64 0, .string (ba []), .string (ba [])] 27)) gz 27 [.string (ba []), .int .i64 0, .int .i64 0, .int .i64 0, .string (ba []), .string (ba [])]) := Lib.hid (Blk.fresh hgz.symm rfl); have HRz := Lib.hid ((HRa1.out).alloc (.cells #[.string (ba []), .int .i64 0, .int .i64 0, .int .i64 0, .string (ba []), .string (ba [])] 27)); have HNE : Hid (gz ≠ (w.heap.size + 1)) := Lib.hid (fun e => by have h9 := (HRa1.out).lt; rw [← e, ← hgz] at h9; exact Nat.lt_irrefl _ h9); have HZ : Hid (wr.heap.size ≤ gz) := Lib.hid (hgz ▸ (hHeld.1).size); clear hgz
                refine hK.out _ _ ⟨(only_trans hHeld.1 (only_below ((Below.refl _ _).alloc (Nat.le_refl _) _))), hHeld.2.alloc _⟩ (fun hHeld1 => ?_)
                clear hHeld hK K
                have hHeld := hHeld1
                clear hHeld1
                change wpAnyH _ _ _ _ _ _ _ (Act.put _ (some (7 : Nat)) (.pointer (some ⟨gz, 0, none⟩))) _
                simp only [Act.put, List.setIfInBounds_toArray, List.set_cons_zero, List.set_cons_succ]
                refine wpAnyH_ready (rs := [7]) (by kernel_rfl) (by simp) ?_
                refine AllReadyH.cons rfl (fun K hK => ?_) AllReadyH.nil
                go_simp
                refine (rnumber_rs (HRz.out) 8 rfl).mono ?_
                rintro e wa2 ⟨rfl, hr2, hg2⟩; have HRa2 := Lib.hid hr2; have HGa2 := Lib.hid hg2; have HBa2 := Lib.hid ((HBz.out).grown hg2 (fun e => HNE.out (Option.some.inj e))); clear hr2 hg2
                go_wp2_with fail
                refine hK.out _ _ ⟨(only_trans hHeld.1 HGa2.out), (HRz.out).by_keep hHeld.2 HGa2.out⟩ (fun hHeld1 => ?_)
                clear hHeld hK K
                have hHeld := hHeld1
                clear hHeld1
                refine wpAnyH_take (i := 8) (v := (.int .i64 (sx 8 (nval 8 (nnext 1 (rnext 16 (some r))))))) rfl (by kernel_rfl) (by kernel_rfl) (by kernel_rfl) (fun _ _ _ h => h) (yields_conv (by kernel_rfl) 61 2 (.tmp 39) rfl (.int .u64 ((nval 8 (nnext 1 (rnext 16 (some r))) : Nat) : Int)) (by simp [Act.eval]) (.int .i64 (sx 8 (nval 8 (nnext 1 (rnext 16 (some r)))))) (fun W _ => conv_i64 61 2 Try.underlying61 Try.underlying2 _ (by have := nval_lt 8 (nnext 1 (rnext 16 (some r))); simp only [e8] at this; omega) W)) (by assumption) ?_
                change wpAnyH _ _ _ _ _ _ _ (Act.put _ (some (40 : Nat)) (.int .i64 (sx 8 (nval 8 (nnext 1 (rnext 16 (some r))))))) _
                simp only [Act.put, List.setIfInBounds_toArray, List.set_cons_zero, List.set_cons_succ]
                refine wpAnyH_ready (rs := [10]) (by kernel_rfl) (by simp) ?_
                refine AllReadyH.cons rfl (fun K hK => ?_) AllReadyH.nil
                go_simp
                refine (rnumber_rs (HRa2.out) 8 rfl).mono ?_
                rintro e wa3 ⟨rfl, hr3, hg3⟩; have HRa3 := Lib.hid hr3; have HGa3 := Lib.hid hg3; have HBa3 := Lib.hid ((HBa2.out).grown hg3 (fun e => HNE.out (Option.some.inj e))); clear hr3 hg3
                go_wp2_with fail
                refine hK.out _ _ ⟨(only_trans hHeld.1 HGa3.out), (HRa2.out).by_keep hHeld.2 HGa3.out⟩ (fun hHeld1 => ?_)
                clear hHeld hK K
                have hHeld := hHeld1
                clear hHeld1
                refine wpAnyH_take (i := 11) (v := (.int .i64 (sx 8 (nval 8 (nnext 8 (nnext 1 (rnext 16 (some r)))))))) rfl (by kernel_rfl) (by kernel_rfl) (by kernel_rfl) (fun _ _ _ h => h) (yields_conv (by kernel_rfl) 61 2 (.tmp 42) rfl (.int .u64 ((nval 8 (nnext 8 (nnext 1 (rnext 16 (some r)))) : Nat) : Int)) (by simp [Act.eval]) (.int .i64 (sx 8 (nval 8 (nnext 8 (nnext 1 (rnext 16 (some r))))))) (fun W _ => conv_i64 61 2 Try.underlying61 Try.underlying2 _ (by have := nval_lt 8 (nnext 8 (nnext 1 (rnext 16 (some r)))); simp only [e8] at this; omega) W)) (by assumption) ?_
                change wpAnyH _ _ _ _ _ _ _ (Act.put _ (some (43 : Nat)) (.int .i64 (sx 8 (nval 8 (nnext 8 (nnext 1 (rnext 16 (some r)))))))) _
                simp only [Act.put, List.setIfInBounds_toArray, List.set_cons_zero, List.set_cons_succ]
                refine wpAnyH_ready (rs := [13]) (by kernel_rfl) (by simp) ?_
                refine AllReadyH.cons rfl (fun K hK => ?_) AllReadyH.nil
                go_simp
                refine (rrow_rs (HRa3.out) 200 (by omega)).mono ?_
                rintro e wa4 ⟨Ba4, ma4, ca4, rfl, hy4, hr4, hg4⟩; have HRa4 := Lib.hid hr4; have HGa4 := Lib.hid hg4; have HBa4 := Lib.hid ((HBa3.out).grown hg4 (fun e => HNE.out (Option.some.inj e))); have HYa4 := Lib.hid hy4; clear hr4 hg4 hy4
                go_wp2_with fail
                refine hK.out _ _ ⟨(only_trans hHeld.1 HGa4.out), (HRa3.out).by_keep hHeld.2 HGa4.out⟩ (fun hHeld1 => ?_)
                clear hHeld hK K
                have hHeld := hHeld1
                clear hHeld1
                refine wpAnyH_weaken (S' := fun W => ((wr.grownBy W (some (w.heap.size + 1))) ∧ By W (fun _ => True) Ba0 ma0 (rval 16 (some r))) ∧ By W (fun _ => True) Ba4 ma4 (rval 200 (nnext 8 (nnext 8 (nnext 1 (rnext 16 (some r))))))) (fun W h => h.1) _ _ _ _ ?_
                have hHeld2 := And.intro hHeld HYa4.out
                clear hHeld
                have hHeld := hHeld2
                clear hHeld2
                refine wpAnyH_take (i := 14) (v := (.string (ba (rval 200 (nnext 8 (nnext 8 (nnext 1 (rnext 16 (some r))))))))) rfl (by kernel_rfl) (by kernel_rfl) (by kernel_rfl) (fun _ _ _ h => h) (yields_conv (by kernel_rfl) 43 9 (.tmp 45) rfl (.slice Ba4 ma4 ca4) (by simp [Act.eval]) (.string (ba (rval 200 (nnext 8 (nnext 8 (nnext 1 (rnext 16 (some r)))))))) (fun W hW => run_string_by W 43 9 5 Try.underlying43 Try.underlying5 Try.underlying9 _ _ _ _ _ hW.2)) (by assumption) ?_
                change wpAnyH _ _ _ _ _ _ _ (Act.put _ (some (46 : Nat)) (.string (ba (rval 200 (nnext 8 (nnext 8 (nnext 1 (rnext 16 (some r))))))))) _
                simp only [Act.put, List.setIfInBounds_toArray, List.set_cons_zero, List.set_cons_succ]
                refine wpAnyH_ready (rs := [16]) (by kernel_rfl) (by simp) ?_
                refine AllReadyH.cons rfl (fun K hK => ?_) AllReadyH.nil
                go_simp
                refine (rrow_rs (HRa4.out) 200 (by omega)).mono ?_
                rintro e wa5 ⟨Ba5, ma5, ca5, rfl, hy5, hr5, hg5⟩; have HRa5 := Lib.hid hr5; have HGa5 := Lib.hid hg5; have HBa5 := Lib.hid ((HBa4.out).grown hg5 (fun e => HNE.out (Option.some.inj e))); have HYa5 := Lib.hid hy5; clear hr5 hg5 hy5
                go_wp2_with fail
                refine hK.out _ _ ⟨⟨(only_trans hHeld.1.1 HGa5.out), (HRa4.out).by_keep hHeld.1.2 HGa5.out⟩, (HRa4.out).by_keep hHeld.2 HGa5.out⟩ (fun hHeld1 => ?_)
                clear hHeld hK K
                have hHeld := hHeld1
                clear hHeld1
                refine wpAnyH_weaken (S' := fun W => (((wr.grownBy W (some (w.heap.size + 1))) ∧ By W (fun _ => True) Ba0 ma0 (rval 16 (some r))) ∧ By W (fun _ => True) Ba4 ma4 (rval 200 (nnext 8 (nnext 8 (nnext 1 (rnext 16 (some r))))))) ∧ By W (fun _ => True) Ba5 ma5 (rval 200 (rnext 200 (nnext 8 (nnext 8 (nnext 1 (rnext 16 (some r)))))))) (fun W h => h.1) _ _ _ _ ?_
                have hHeld2 := And.intro hHeld HYa5.out
                clear hHeld
                have hHeld := hHeld2
                clear hHeld2
                refine wpAnyH_take (i := 17) (v := (.string (ba (rval 200 (rnext 200 (nnext 8 (nnext 8 (nnext 1 (rnext 16 (some r)))))))))) rfl (by kernel_rfl) (by kernel_rfl) (by kernel_rfl) (fun _ _ _ h => h) (yields_conv (by kernel_rfl) 43 9 (.tmp 48) rfl (.slice Ba5 ma5 ca5) (by simp [Act.eval]) (.string (ba (rval 200 (rnext 200 (nnext 8 (nnext 8 (nnext 1 (rnext 16 (some r))))))))) (fun W hW => run_string_by W 43 9 5 Try.underlying43 Try.underlying5 Try.underlying9 _ _ _ _ _ hW.2)) (by assumption) ?_
                change wpAnyH _ _ _ _ _ _ _ (Act.put _ (some (49 : Nat)) (.string (ba (rval 200 (rnext 200 (nnext 8 (nnext 8 (nnext 1 (rnext 16 (some r)))))))))) _
                simp only [Act.put, List.setIfInBounds_toArray, List.set_cons_zero, List.set_cons_succ]
                obtain ⟨V, hV⟩ : ∃ V : Value, V = .agg #[.string (ba (rval 16 (some r))), .int .i64 ((nval 1 (rnext 16 (some r)) : Nat) : Int), .int .i64 (sx 8 (nval 8 (nnext 1 (rnext 16 (some r))))), .int .i64 (sx 8 (nval 8 (nnext 8 (nnext 1 (rnext 16 (some r)))))), .string (ba (rval 200 (nnext 8 (nnext 8 (nnext 1 (rnext 16 (some r))))))), .string (ba (rval 200 (rnext 200 (nnext 8 (nnext 8 (nnext 1 (rnext 16 (some r))))))))] := ⟨_, rfl⟩
                have HV := Lib.hid hV
                clear hV
                refine wpAnyH_take (i := 18) (v := V) rfl (by kernel_rfl) (by kernel_rfl) (by kernel_rfl) (fun _ _ _ h => h) (yields_build (by kernel_rfl) 27 _ rfl _ (by simp only [List.map_toArray, List.map_cons, List.map_nil, Act.eval]; rfl) V (fun w _ => by rw [HV.out]; exact Try.build_l6 _ _ _ _ _ _ w)) (by assumption) ?_
                change wpAnyH _ _ _ _ _ _ _ (Act.put _ (some (50 : Nat)) V) _
                simp only [Act.put, List.setIfInBounds_toArray, List.set_cons_zero, List.set_cons_succ]
                refine wpAnyH_ready (rs := [20]) (by kernel_rfl) (by simp) ?_
                refine AllReadyH.cons (o := ⟨none, .store 27 (.tmp 7) (.tmp 50), _, _, _, none⟩) rfl (fun K hK => ?_) AllReadyH.nil
                have HBp := Lib.hid (HBa5.out); refine step_store_blk rfl 27 (.tmp 7) (.tmp 50) rfl gz [.string (ba (rval 16 (some r))), .int .i64 ((nval 1 (rnext 16 (some r)) : Nat) : Int), .int .i64 (sx 8 (nval 8 (nnext 1 (rnext 16 (some r))))), .int .i64 (sx 8 (nval 8 (nnext 8 (nnext 1 (rnext 16 (some r)))))), .string (ba (rval 200 (nnext 8 (nnext 8 (nnext 1 (rnext 16 (some r))))))), .string (ba (rval 200 (rnext 200 (nnext 8 (nnext 8 (nnext 1 (rnext 16 (some r))))))))] (by simp [Act.eval]) (by simp only [Act.eval]; exact HV.out) 27 [.string (ba []), .int .i64 0, .int .i64 0, .int .i64 0, .string (ba []), .string (ba [])] (HBa5.out) (by kernel_rfl) rfl (one6 _ _ _ _ _ _) ?_; intro we hbe hge; have HBe := Lib.hid hbe; have HGe := Lib.hid hge; have HRe := Lib.hid ((HRa5.out).other hge (fun b hb => ⟨fun e => HNE.out (by rw [Option.some.inj hb]; exact e), by have := Option.some.inj hb; have := HZ.out; have := HSZ.out; omega⟩)); clear hbe hge
                refine hK.out _ _ ⟨⟨⟨(only_new hHeld.1.1.1 HGe.out HZ.out), By.far hHeld.1.1.2 HGe.out HBp.out (no_u8 _ _ _ _ _ _)⟩, By.far hHeld.1.2 HGe.out HBp.out (no_u8 _ _ _ _ _ _)⟩, By.far hHeld.2 HGe.out HBp.out (no_u8 _ _ _ _ _ _)⟩ (fun hHeld1 => ?_)
                clear hHeld hK K
                have hHeld := hHeld1
                clear hHeld1
                change wpAnyH _ _ _ _ _ _ _ (Act.put _ none undef) _
                simp only [Act.put]
                refine wpAnyH_done (by kernel_rfl) ?_ _
                have HG6 := Lib.hid hHeld.1.1.1
                have HOe := Lib.hid (HO.out.far HG6.out (by omega))
                have HLe := Lib.hid (HB.out.grown HG6.out (by simp; omega))
                have HZe := Lib.hid (HZ0.out.grown HG6.out (by simp))
                have HXe := Lib.hid (HX.out.grown HG6.out HX.out.size (fun k hk => by have := Option.some.inj hk; omega))
                have hsze : w4.heap.size + 1 ≤ we.heap.size := Nat.le_trans HSZ.out HG6.out.size
                have l2 := HLe.out.cellAt (i := 2) rfl
                have hq7 : ∀ b, (Value.slice Av nv cv).ownBlock = some b → w4.heap.size + 1 ≤ b := fun b hb => (HO.out.lt b hb).1
                have HQ7 := Lib.hid hq7
                clear hHeld hq7
                go_wp2_with (first
                  | (refine wpList_load_blk rfl 27 (.tmp 7) rfl gz rfl 27 [.string (ba (rval 16 (some r))), .int .i64 ((nval 1 (rnext 16 (some r)) : Nat) : Int), .int .i64 (sx 8 (nval 8 (nnext 1 (rnext 16 (some r))))), .int .i64 (sx 8 (nval 8 (nnext 8 (nnext 1 (rnext 16 (some r)))))), .string (ba (rval 200 (nnext 8 (nnext 8 (nnext 1 (rnext 16 (some r))))))), .string (ba (rval 200 (rnext 200 (nnext 8 (nnext 8 (nnext 1 (rnext 16 (some r))))))))] _ HBe.out Try.underlying27 rfl (by kernel_rfl) ?_)
                  | (refine wpList_build_el rfl Try.el_lt (.tmp 53) rfl [.string (ba (rval 16 (some r))), .int .i64 ((nval 1 (rnext 16 (some r)) : Nat) : Int), .int .i64 (sx 8 (nval 8 (nnext 1 (rnext 16 (some r))))), .int .i64 (sx 8 (nval 8 (nnext 8 (nnext 1 (rnext 16 (some r)))))), .string (ba (rval 200 (nnext 8 (nnext 8 (nnext 1 (rnext 16 (some r))))))), .string (ba (rval 200 (rnext 200 (nnext 8 (nnext 8 (nnext 1 (rnext 16 (some r))))))))] rfl rfl ?_)
                  | (at_builtin; refine wpList_append_el rfl Try.el_lt (.tmp 52) (.tmp 54) rfl (w4.heap.size + 1) _ (ls0.map Lt.cells) rfl (HOe.out.alloc _) _ [.string (ba (rval 16 (some r))), .int .i64 ((nval 1 (rnext 16 (some r)) : Nat) : Int), .int .i64 (sx 8 (nval 8 (nnext 1 (rnext 16 (some r))))), .int .i64 (sx 8 (nval 8 (nnext 8 (nnext 1 (rnext 16 (some r)))))), .string (ba (rval 200 (nnext 8 (nnext 8 (nnext 1 (rnext 16 (some r))))))), .string (ba (rval 200 (rnext 200 (nnext 8 (nnext 8 (nnext 1 (rnext 16 (some r))))))))] rfl (Blk.fresh (by simp) rfl) rfl (fun u hu => by simp at hu; rcases hu with rfl | rfl | rfl | rfl | rfl | rfl <;> rfl) (by (try simp); omega) (by (try simp); omega) ?_; intro v7 w7 ho7 hg7; have HR7 := Lib.hid ((HRe.out.alloc (.cells #[.string (ba (rval 16 (some r))), .int .i64 ((nval 1 (rnext 16 (some r)) : Nat) : Int), .int .i64 (sx 8 (nval 8 (nnext 1 (rnext 16 (some r))))), .int .i64 (sx 8 (nval 8 (nnext 8 (nnext 1 (rnext 16 (some r)))))), .string (ba (rval 200 (nnext 8 (nnext 8 (nnext 1 (rnext 16 (some r))))))), .string (ba (rval 200 (rnext 200 (nnext 8 (nnext 8 (nnext 1 (rnext 16 (some r))))))))] 27)).other hg7 (fun b hb => ⟨by have := HQ7.out b hb; omega, fun h9 => by have := HQ7.out b hb; exact absurd (show b < w.heap.size from h9) (by omega)⟩)); have HL7 := Lib.hid ((HLe.out.alloc (.cells #[.string (ba (rval 16 (some r))), .int .i64 ((nval 1 (rnext 16 (some r)) : Nat) : Int), .int .i64 (sx 8 (nval 8 (nnext 1 (rnext 16 (some r))))), .int .i64 (sx 8 (nval 8 (nnext 8 (nnext 1 (rnext 16 (some r)))))), .string (ba (rval 200 (nnext 8 (nnext 8 (nnext 1 (rnext 16 (some r))))))), .string (ba (rval 200 (rnext 200 (nnext 8 (nnext 8 (nnext 1 (rnext 16 (some r))))))))] 27)).grown hg7 (fun e => by have := HQ7.out _ e.symm; omega)); have HZ7 := Lib.hid ((HZe.out.alloc (.cells #[.string (ba (rval 16 (some r))), .int .i64 ((nval 1 (rnext 16 (some r)) : Nat) : Int), .int .i64 (sx 8 (nval 8 (nnext 1 (rnext 16 (some r))))), .int .i64 (sx 8 (nval 8 (nnext 8 (nnext 1 (rnext 16 (some r)))))), .string (ba (rval 200 (nnext 8 (nnext 8 (nnext 1 (rnext 16 (some r))))))), .string (ba (rval 200 (rnext 200 (nnext 8 (nnext 8 (nnext 1 (rnext 16 (some r))))))))] 27)).grown hg7 (fun e => by have := HQ7.out _ e.symm; omega)); have HX7 := Lib.hid ((HXe.out.alloc HXe.out.size (.cells #[.string (ba (rval 16 (some r))), .int .i64 ((nval 1 (rnext 16 (some r)) : Nat) : Int), .int .i64 (sx 8 (nval 8 (nnext 1 (rnext 16 (some r))))), .int .i64 (sx 8 (nval 8 (nnext 8 (nnext 1 (rnext 16 (some r)))))), .string (ba (rval 200 (nnext 8 (nnext 8 (nnext 1 (rnext 16 (some r))))))), .string (ba (rval 200 (rnext 200 (nnext 8 (nnext 8 (nnext 1 (rnext 16 (some r))))))))] 27)).grown hg7 (by simp; omega) (fun b hb => by have := HQ7.out b hb; omega)); have hsz7 : w4.heap.size + 1 ≤ w7.heap.size := (by have := hg7.size; simp at this; omega); obtain ⟨A7, n7, c7, rfl, hn7⟩ := ho7.out'; have HN7 := Lib.hid hn7; have HO7 := Lib.hid ho7; clear ho7 hg7 hn7)
                  | (refine wpList_store_cell rfl 22 (.tmp 56) (.tmp 55) rfl w4.heap.size 2 rfl (.slice A7 n7 c7) rfl rfl rfl (fun w => by kernel_rfl) 25 [.int .i64 sq, .int .i64 tt, .slice Av nv cv, .slice none 0 0] HL7.out (by simp) ?_; intro w8 hb8 hg8; have HL8 : Hid (Blk w8 w4.heap.size 25 [.int .i64 sq, .int .i64 tt, .slice A7 n7 c7, .slice none 0 0]) := Lib.hid hb8; have HR8 := Lib.hid (HR7.out.other hg8 (fun b hb => ⟨by have := Option.some.inj hb; omega, fun h9 => by have := Option.some.inj hb; exact absurd (show b < w.heap.size from h9) (by omega)⟩)); have HO8 := Lib.hid (HO7.out.far hg8 (by omega)); have HZ8 := Lib.hid (HZ7.out.grown hg8 (by simp; omega)); have HX8 := Lib.hid (HX7.out.grown hg8 HX7.out.size (fun k hk => by have := Option.some.inj hk; omega)); have hsz8 : w4.heap.size + 1 ≤ w8.heap.size := Nat.le_trans hsz7 hg8.size; clear hb8 hg8))
                go_roundw
                case rel => exact ⟨k, ls0 ++ [(rdLt (some r)).1], A7, n7, c7, _, by simp; omega, by go_num, HL2.out, HR8.out, by (rw [List.map_append]; exact HO8.out), HL8.out, HZ8.out, HX8.out, hsz8⟩
                case measure => simp [intOf]
            · as_aux_lemma =>
              obtain ⟨gz, hgz⟩ : ∃ gz, wa0.heap.size = gz := ⟨_, rfl⟩; refine step_alloc (by simp [Region.wanted]) 27 rfl (.pointer (some ⟨gz, 0, none⟩)) (wa0.alloc (.cells #[.string (ba []), .int .i64 0, .int .i64 0, .int .i64 0, .string (ba []), .string (ba [])] 27)) (Try.alloc_lt gz wa0 hgz) ?_; have HBz : Hid (Blk (wa0.alloc (.cells #[.string (ba []), .int .i64 0, .int .i64 0, .int .i64 0, .string (ba []), .string (ba [])] 27)) gz 27 [.string (ba []), .int .i64 0, .int .i64 0, .int .i64 0, .string (ba []), .string (ba [])]) := Lib.hid (Blk.fresh hgz.symm rfl); have HRz := Lib.hid ((HRa0.out).alloc (.cells #[.string (ba []), .int .i64 0, .int .i64 0, .int .i64 0, .string (ba []), .string (ba [])] 27)); have HNE : Hid (gz ≠ (w.heap.size + 1)) := Lib.hid (fun e => by have h9 := (HRa0.out).lt; rw [← e, ← hgz] at h9; exact Nat.lt_irrefl _ h9); have HZ : Hid (wr.heap.size ≤ gz) := Lib.hid (hgz ▸ (hHeld.1).size); clear hgz
              refine hK.out _ _ ⟨(only_trans hHeld.1 (only_below ((Below.refl _ _).alloc (Nat.le_refl _) _))), hHeld.2.alloc _⟩ (fun hHeld1 => ?_)
              clear hHeld hK K
              have hHeld := hHeld1
              clear hHeld1
              change wpAnyH _ _ _ _ _ _ _ (Act.put _ (some (7 : Nat)) (.pointer (some ⟨gz, 0, none⟩))) _
              simp only [Act.put, List.setIfInBounds_toArray, List.set_cons_zero, List.set_cons_succ]
              refine wpAnyH_ready (rs := [4]) (by kernel_rfl) (by simp) ?_
              refine AllReadyH.cons rfl (fun K hK => ?_) AllReadyH.nil
              go_simp
              refine (rnumber_rs (HRz.out) 1 rfl).mono ?_
              rintro e wa1 ⟨rfl, hr1, hg1⟩; have HRa1 := Lib.hid hr1; have HGa1 := Lib.hid hg1; have HBa1 := Lib.hid ((HBz.out).grown hg1 (fun e => HNE.out (Option.some.inj e))); clear hr1 hg1
              go_wp2_with fail
              refine hK.out _ _ ⟨(only_trans hHeld.1 HGa1.out), (HRz.out).by_keep hHeld.2 HGa1.out⟩ (fun hHeld1 => ?_)
              clear hHeld hK K
              have hHeld := hHeld1
              clear hHeld1
              refine wpAnyH_take (i := 5) (v := (.int .i64 ((nval 1 (rnext 16 (some r)) : Nat) : Int))) rfl (by kernel_rfl) (by kernel_rfl) (by kernel_rfl) (fun _ _ _ h => h) (yields_conv (by kernel_rfl) 61 3 (.tmp 36) rfl (.int .u64 ((nval 1 (rnext 16 (some r)) : Nat) : Int)) (by simp [Act.eval]) (.int .i64 ((nval 1 (rnext 16 (some r)) : Nat) : Int)) (fun W _ => conv_small 61 3 Try.underlying61 Try.underlying3 _ (by have := nval_lt 1 (rnext 16 (some r)); simp only [e1] at this; omega) W)) (by assumption) ?_
              change wpAnyH _ _ _ _ _ _ _ (Act.put _ (some (37 : Nat)) (.int .i64 ((nval 1 (rnext 16 (some r)) : Nat) : Int))) _
              simp only [Act.put, List.setIfInBounds_toArray, List.set_cons_zero, List.set_cons_succ]
              refine wpAnyH_ready (rs := [7]) (by kernel_rfl) (by simp) ?_
              refine AllReadyH.cons rfl (fun K hK => ?_) AllReadyH.nil
              go_simp
              refine (rnumber_rs (HRa1.out) 8 rfl).mono ?_
              rintro e wa2 ⟨rfl, hr2, hg2⟩; have HRa2 := Lib.hid hr2; have HGa2 := Lib.hid hg2; have HBa2 := Lib.hid ((HBa1.out).grown hg2 (fun e => HNE.out (Option.some.inj e))); clear hr2 hg2
              go_wp2_with fail
              refine hK.out _ _ ⟨(only_trans hHeld.1 HGa2.out), (HRa1.out).by_keep hHeld.2 HGa2.out⟩ (fun hHeld1 => ?_)
              clear hHeld hK K
              have hHeld := hHeld1
              clear hHeld1
              refine wpAnyH_take (i := 8) (v := (.int .i64 (sx 8 (nval 8 (nnext 1 (rnext 16 (some r))))))) rfl (by kernel_rfl) (by kernel_rfl) (by kernel_rfl) (fun _ _ _ h => h) (yields_conv (by kernel_rfl) 61 2 (.tmp 39) rfl (.int .u64 ((nval 8 (nnext 1 (rnext 16 (some r))) : Nat) : Int)) (by simp [Act.eval]) (.int .i64 (sx 8 (nval 8 (nnext 1 (rnext 16 (some r)))))) (fun W _ => conv_i64 61 2 Try.underlying61 Try.underlying2 _ (by have := nval_lt 8 (nnext 1 (rnext 16 (some r))); simp only [e8] at this; omega) W)) (by assumption) ?_
              change wpAnyH _ _ _ _ _ _ _ (Act.put _ (some (40 : Nat)) (.int .i64 (sx 8 (nval 8 (nnext 1 (rnext 16 (some r))))))) _
              simp only [Act.put, List.setIfInBounds_toArray, List.set_cons_zero, List.set_cons_succ]
              refine wpAnyH_ready (rs := [10]) (by kernel_rfl) (by simp) ?_
              refine AllReadyH.cons rfl (fun K hK => ?_) AllReadyH.nil
              go_simp
              refine (rnumber_rs (HRa2.out) 8 rfl).mono ?_
              rintro e wa3 ⟨rfl, hr3, hg3⟩; have HRa3 := Lib.hid hr3; have HGa3 := Lib.hid hg3; have HBa3 := Lib.hid ((HBa2.out).grown hg3 (fun e => HNE.out (Option.some.inj e))); clear hr3 hg3
              go_wp2_with fail
              refine hK.out _ _ ⟨(only_trans hHeld.1 HGa3.out), (HRa2.out).by_keep hHeld.2 HGa3.out⟩ (fun hHeld1 => ?_)
              clear hHeld hK K
              have hHeld := hHeld1
              clear hHeld1
              refine wpAnyH_take (i := 11) (v := (.int .i64 (sx 8 (nval 8 (nnext 8 (nnext 1 (rnext 16 (some r)))))))) rfl (by kernel_rfl) (by kernel_rfl) (by kernel_rfl) (fun _ _ _ h => h) (yields_conv (by kernel_rfl) 61 2 (.tmp 42) rfl (.int .u64 ((nval 8 (nnext 8 (nnext 1 (rnext 16 (some r)))) : Nat) : Int)) (by simp [Act.eval]) (.int .i64 (sx 8 (nval 8 (nnext 8 (nnext 1 (rnext 16 (some r))))))) (fun W _ => conv_i64 61 2 Try.underlying61 Try.underlying2 _ (by have := nval_lt 8 (nnext 8 (nnext 1 (rnext 16 (some r)))); simp only [e8] at this; omega) W)) (by assumption) ?_
              change wpAnyH _ _ _ _ _ _ _ (Act.put _ (some (43 : Nat)) (.int .i64 (sx 8 (nval 8 (nnext 8 (nnext 1 (rnext 16 (some r)))))))) _
              simp only [Act.put, List.setIfInBounds_toArray, List.set_cons_zero, List.set_cons_succ]
              refine wpAnyH_ready (rs := [13]) (by kernel_rfl) (by simp) ?_
              refine AllReadyH.cons rfl (fun K hK => ?_) AllReadyH.nil
              go_simp
              refine (rrow_rs (HRa3.out) 200 (by omega)).mono ?_
              rintro e wa4 ⟨Ba4, ma4, ca4, rfl, hy4, hr4, hg4⟩; have HRa4 := Lib.hid hr4; have HGa4 := Lib.hid hg4; have HBa4 := Lib.hid ((HBa3.out).grown hg4 (fun e => HNE.out (Option.some.inj e))); have HYa4 := Lib.hid hy4; clear hr4 hg4 hy4
              go_wp2_with fail
              refine hK.out _ _ ⟨(only_trans hHeld.1 HGa4.out), (HRa3.out).by_keep hHeld.2 HGa4.out⟩ (fun hHeld1 => ?_)
              clear hHeld hK K
              have hHeld := hHeld1
              clear hHeld1
              refine wpAnyH_weaken (S' := fun W => ((wr.grownBy W (some (w.heap.size + 1))) ∧ By W (fun _ => True) Ba0 ma0 (rval 16 (some r))) ∧ By W (fun _ => True) Ba4 ma4 (rval 200 (nnext 8 (nnext 8 (nnext 1 (rnext 16 (some r))))))) (fun W h => h.1) _ _ _ _ ?_
              have hHeld2 := And.intro hHeld HYa4.out
              clear hHeld
              have hHeld := hHeld2
              clear hHeld2
              refine wpAnyH_take (i := 14) (v := (.string (ba (rval 200 (nnext 8 (nnext 8 (nnext 1 (rnext 16 (some r))))))))) rfl (by kernel_rfl) (by kernel_rfl) (by kernel_rfl) (fun _ _ _ h => h) (yields_conv (by kernel_rfl) 43 9 (.tmp 45) rfl (.slice Ba4 ma4 ca4) (by simp [Act.eval]) (.string (ba (rval 200 (nnext 8 (nnext 8 (nnext 1 (rnext 16 (some r)))))))) (fun W hW => run_string_by W 43 9 5 Try.underlying43 Try.underlying5 Try.underlying9 _ _ _ _ _ hW.2)) (by assumption) ?_
              change wpAnyH _ _ _ _ _ _ _ (Act.put _ (some (46 : Nat)) (.string (ba (rval 200 (nnext 8 (nnext 8 (nnext 1 (rnext 16 (some r))))))))) _
              simp only [Act.put, List.setIfInBounds_toArray, List.set_cons_zero, List.set_cons_succ]
              refine wpAnyH_ready (rs := [16]) (by kernel_rfl) (by simp) ?_
              refine AllReadyH.cons rfl (fun K hK => ?_) AllReadyH.nil
              go_simp
              refine (rrow_rs (HRa4.out) 200 (by omega)).mono ?_
              rintro e wa5 ⟨Ba5, ma5, ca5, rfl, hy5, hr5, hg5⟩; have HRa5 := Lib.hid hr5; have HGa5 := Lib.hid hg5; have HBa5 := Lib.hid ((HBa4.out).grown hg5 (fun e => HNE.out (Option.some.inj e))); have HYa5 := Lib.hid hy5; clear hr5 hg5 hy5
              go_wp2_with fail
              refine hK.out _ _ ⟨⟨(only_trans hHeld.1.1 HGa5.out), (HRa4.out).by_keep hHeld.1.2 HGa5.out⟩, (HRa4.out).by_keep hHeld.2 HGa5.out⟩ (fun hHeld1 => ?_)
              clear hHeld hK K
              have hHeld := hHeld1
              clear hHeld1
              refine wpAnyH_weaken (S' := fun W => (((wr.grownBy W (some (w.heap.size + 1))) ∧ By W (fun _ => True) Ba0 ma0 (rval 16 (some r))) ∧ By W (fun _ => True) Ba4 ma4 (rval 200 (nnext 8 (nnext 8 (nnext 1 (rnext 16 (some r))))))) ∧ By W (fun _ => True) Ba5 ma5 (rval 200 (rnext 200 (nnext 8 (nnext 8 (nnext 1 (rnext 16 (some r)))))))) (fun W h => h.1) _ _ _ _ ?_
              have hHeld2 := And.intro hHeld HYa5.out
              clear hHeld
              have hHeld := hHeld2
              clear hHeld2
              refine wpAnyH_take (i := 17) (v := (.string (ba (rval 200 (rnext 200 (nnext 8 (nnext 8 (nnext 1 (rnext 16 (some r)))))))))) rfl (by kernel_rfl) (by kernel_rfl) (by kernel_rfl) (fun _ _ _ h => h) (yields_conv (by kernel_rfl) 43 9 (.tmp 48) rfl (.slice Ba5 ma5 ca5) (by simp [Act.eval]) (.string (ba (rval 200 (rnext 200 (nnext 8 (nnext 8 (nnext 1 (rnext 16 (some r))))))))) (fun W hW => run_string_by W 43 9 5 Try.underlying43 Try.underlying5 Try.underlying9 _ _ _ _ _ hW.2)) (by assumption) ?_
              change wpAnyH _ _ _ _ _ _ _ (Act.put _ (some (49 : Nat)) (.string (ba (rval 200 (rnext 200 (nnext 8 (nnext 8 (nnext 1 (rnext 16 (some r)))))))))) _
              simp only [Act.put, List.setIfInBounds_toArray, List.set_cons_zero, List.set_cons_succ]
              obtain ⟨V, hV⟩ : ∃ V : Value, V = .agg #[.string (ba (rval 16 (some r))), .int .i64 ((nval 1 (rnext 16 (some r)) : Nat) : Int), .int .i64 (sx 8 (nval 8 (nnext 1 (rnext 16 (some r))))), .int .i64 (sx 8 (nval 8 (nnext 8 (nnext 1 (rnext 16 (some r)))))), .string (ba (rval 200 (nnext 8 (nnext 8 (nnext 1 (rnext 16 (some r))))))), .string (ba (rval 200 (rnext 200 (nnext 8 (nnext 8 (nnext 1 (rnext 16 (some r))))))))] := ⟨_, rfl⟩
              have HV := Lib.hid hV
              clear hV
              refine wpAnyH_take (i := 18) (v := V) rfl (by kernel_rfl) (by kernel_rfl) (by kernel_rfl) (fun _ _ _ h => h) (yields_build (by kernel_rfl) 27 _ rfl _ (by simp only [List.map_toArray, List.map_cons, List.map_nil, Act.eval]; rfl) V (fun w _ => by rw [HV.out]; exact Try.build_l6 _ _ _ _ _ _ w)) (by assumption) ?_
              change wpAnyH _ _ _ _ _ _ _ (Act.put _ (some (50 : Nat)) V) _
              simp only [Act.put, List.setIfInBounds_toArray, List.set_cons_zero, List.set_cons_succ]
              refine wpAnyH_ready (rs := [20]) (by kernel_rfl) (by simp) ?_
              refine AllReadyH.cons (o := ⟨none, .store 27 (.tmp 7) (.tmp 50), _, _, _, none⟩) rfl (fun K hK => ?_) AllReadyH.nil
              have HBp := Lib.hid (HBa5.out); refine step_store_blk rfl 27 (.tmp 7) (.tmp 50) rfl gz [.string (ba (rval 16 (some r))), .int .i64 ((nval 1 (rnext 16 (some r)) : Nat) : Int), .int .i64 (sx 8 (nval 8 (nnext 1 (rnext 16 (some r))))), .int .i64 (sx 8 (nval 8 (nnext 8 (nnext 1 (rnext 16 (some r)))))), .string (ba (rval 200 (nnext 8 (nnext 8 (nnext 1 (rnext 16 (some r))))))), .string (ba (rval 200 (rnext 200 (nnext 8 (nnext 8 (nnext 1 (rnext 16 (some r))))))))] (by simp [Act.eval]) (by simp only [Act.eval]; exact HV.out) 27 [.string (ba []), .int .i64 0, .int .i64 0, .int .i64 0, .string (ba []), .string (ba [])] (HBa5.out) (by kernel_rfl) rfl (one6 _ _ _ _ _ _) ?_; intro we hbe hge; have HBe := Lib.hid hbe; have HGe := Lib.hid hge; have HRe := Lib.hid ((HRa5.out).other hge (fun b hb => ⟨fun e => HNE.out (by rw [Option.some.inj hb]; exact e), by have := Option.some.inj hb; have := HZ.out; have := HSZ.out; omega⟩)); clear hbe hge
              refine hK.out _ _ ⟨⟨⟨(only_new hHeld.1.1.1 HGe.out HZ.out), By.far hHeld.1.1.2 HGe.out HBp.out (no_u8 _ _ _ _ _ _)⟩, By.far hHeld.1.2 HGe.out HBp.out (no_u8 _ _ _ _ _ _)⟩, By.far hHeld.2 HGe.out HBp.out (no_u8 _ _ _ _ _ _)⟩ (fun hHeld1 => ?_)
              clear hHeld hK K
              have hHeld := hHeld1
              clear hHeld1
              change wpAnyH _ _ _ _ _ _ _ (Act.put _ none undef) _
              simp only [Act.put]
              refine wpAnyH_done (by kernel_rfl) ?_ _
              have HG6 := Lib.hid hHeld.1.1.1
              have HOe := Lib.hid (HO.out.far HG6.out (by omega))
              have HLe := Lib.hid (HB.out.grown HG6.out (by simp; omega))
              have HZe := Lib.hid (HZ0.out.grown HG6.out (by simp))
              have HXe := Lib.hid (HX.out.grown HG6.out HX.out.size (fun k hk => by have := Option.some.inj hk; omega))
              have hsze : w4.heap.size + 1 ≤ we.heap.size := Nat.le_trans HSZ.out HG6.out.size
              have l2 := HLe.out.cellAt (i := 2) rfl
              have hq7 : ∀ b, (Value.slice Av nv cv).ownBlock = some b → w4.heap.size + 1 ≤ b := fun b hb => (HO.out.lt b hb).1
              have HQ7 := Lib.hid hq7
              clear hHeld hq7
              go_wp2_with (first
                | (refine wpList_load_blk rfl 27 (.tmp 7) rfl gz rfl 27 [.string (ba (rval 16 (some r))), .int .i64 ((nval 1 (rnext 16 (some r)) : Nat) : Int), .int .i64 (sx 8 (nval 8 (nnext 1 (rnext 16 (some r))))), .int .i64 (sx 8 (nval 8 (nnext 8 (nnext 1 (rnext 16 (some r)))))), .string (ba (rval 200 (nnext 8 (nnext 8 (nnext 1 (rnext 16 (some r))))))), .string (ba (rval 200 (rnext 200 (nnext 8 (nnext 8 (nnext 1 (rnext 16 (some r))))))))] _ HBe.out Try.underlying27 rfl (by kernel_rfl) ?_)
                | (refine wpList_build_el rfl Try.el_lt (.tmp 53) rfl [.string (ba (rval 16 (some r))), .int .i64 ((nval 1 (rnext 16 (some r)) : Nat) : Int), .int .i64 (sx 8 (nval 8 (nnext 1 (rnext 16 (some r))))), .int .i64 (sx 8 (nval 8 (nnext 8 (nnext 1 (rnext 16 (some r)))))), .string (ba (rval 200 (nnext 8 (nnext 8 (nnext 1 (rnext 16 (some r))))))), .string (ba (rval 200 (rnext 200 (nnext 8 (nnext 8 (nnext 1 (rnext 16 (some r))))))))] rfl rfl ?_)
                | (at_builtin; refine wpList_append_el rfl Try.el_lt (.tmp 52) (.tmp 54) rfl (w4.heap.size + 1) _ (ls0.map Lt.cells) rfl (HOe.out.alloc _) _ [.string (ba (rval 16 (some r))), .int .i64 ((nval 1 (rnext 16 (some r)) : Nat) : Int), .int .i64 (sx 8 (nval 8 (nnext 1 (rnext 16 (some r))))), .int .i64 (sx 8 (nval 8 (nnext 8 (nnext 1 (rnext 16 (some r)))))), .string (ba (rval 200 (nnext 8 (nnext 8 (nnext 1 (rnext 16 (some r))))))), .string (ba (rval 200 (rnext 200 (nnext 8 (nnext 8 (nnext 1 (rnext 16 (some r))))))))] rfl (Blk.fresh (by simp) rfl) rfl (fun u hu => by simp at hu; rcases hu with rfl | rfl | rfl | rfl | rfl | rfl <;> rfl) (by (try simp); omega) (by (try simp); omega) ?_; intro v7 w7 ho7 hg7; have HR7 := Lib.hid ((HRe.out.alloc (.cells #[.string (ba (rval 16 (some r))), .int .i64 ((nval 1 (rnext 16 (some r)) : Nat) : Int), .int .i64 (sx 8 (nval 8 (nnext 1 (rnext 16 (some r))))), .int .i64 (sx 8 (nval 8 (nnext 8 (nnext 1 (rnext 16 (some r)))))), .string (ba (rval 200 (nnext 8 (nnext 8 (nnext 1 (rnext 16 (some r))))))), .string (ba (rval 200 (rnext 200 (nnext 8 (nnext 8 (nnext 1 (rnext 16 (some r))))))))] 27)).other hg7 (fun b hb => ⟨by have := HQ7.out b hb; omega, fun h9 => by have := HQ7.out b hb; exact absurd (show b < w.heap.size from h9) (by omega)⟩)); have HL7 := Lib.hid ((HLe.out.alloc (.cells #[.string (ba (rval 16 (some r))), .int .i64 ((nval 1 (rnext 16 (some r)) : Nat) : Int), .int .i64 (sx 8 (nval 8 (nnext 1 (rnext 16 (some r))))), .int .i64 (sx 8 (nval 8 (nnext 8 (nnext 1 (rnext 16 (some r)))))), .string (ba (rval 200 (nnext 8 (nnext 8 (nnext 1 (rnext 16 (some r))))))), .string (ba (rval 200 (rnext 200 (nnext 8 (nnext 8 (nnext 1 (rnext 16 (some r))))))))] 27)).grown hg7 (fun e => by have := HQ7.out _ e.symm; omega)); have HZ7 := Lib.hid ((HZe.out.alloc (.cells #[.string (ba (rval 16 (some r))), .int .i64 ((nval 1 (rnext 16 (some r)) : Nat) : Int), .int .i64 (sx 8 (nval 8 (nnext 1 (rnext 16 (some r))))), .int .i64 (sx 8 (nval 8 (nnext 8 (nnext 1 (rnext 16 (some r)))))), .string (ba (rval 200 (nnext 8 (nnext 8 (nnext 1 (rnext 16 (some r))))))), .string (ba (rval 200 (rnext 200 (nnext 8 (nnext 8 (nnext 1 (rnext 16 (some r))))))))] 27)).grown hg7 (fun e => by have := HQ7.out _ e.symm; omega)); have HX7 := Lib.hid ((HXe.out.alloc HXe.out.size (.cells #[.string (ba (rval 16 (some r))), .int .i64 ((nval 1 (rnext 16 (some r)) : Nat) : Int), .int .i64 (sx 8 (nval 8 (nnext 1 (rnext 16 (some r))))), .int .i64 (sx 8 (nval 8 (nnext 8 (nnext 1 (rnext 16 (some r)))))), .string (ba (rval 200 (nnext 8 (nnext 8 (nnext 1 (rnext 16 (some r))))))), .string (ba (rval 200 (rnext 200 (nnext 8 (nnext 8 (nnext 1 (rnext 16 (some r))))))))] 27)).grown hg7 (by simp; omega) (fun b hb => by have := HQ7.out b hb; omega)); have hsz7 : w4.heap.size + 1 ≤ w7.heap.size := (by have := hg7.size; simp at this; omega); obtain ⟨A7, n7, c7, rfl, hn7⟩ := ho7.out'; have HN7 := Lib.hid hn7; have HO7 := Lib.hid ho7; clear ho7 hg7 hn7)
                | (refine wpList_store_cell rfl 22 (.tmp 56) (.tmp 55) rfl w4.heap.size 2 rfl (.slice A7 n7 c7) rfl rfl rfl (fun w => by kernel_rfl) 25 [.int .i64 sq, .int .i64 tt, .slice Av nv cv, .slice none 0 0] HL7.out (by simp) ?_; intro w8 hb8 hg8; have HL8 : Hid (Blk w8 w4.heap.size 25 [.int .i64 sq, .int .i64 tt, .slice A7 n7 c7, .slice none 0 0]) := Lib.hid hb8; have HR8 := Lib.hid (HR7.out.other hg8 (fun b hb => ⟨by have := Option.some.inj hb; omega, fun h9 => by have := Option.some.inj hb; exact absurd (show b < w.heap.size from h9) (by omega)⟩)); have HO8 := Lib.hid (HO7.out.far hg8 (by omega)); have HZ8 := Lib.hid (HZ7.out.grown hg8 (by simp; omega)); have HX8 := Lib.hid (HX7.out.grown hg8 HX7.out.size (fun k hk => by have := Option.some.inj hk; omega)); have hsz8 : w4.heap.size + 1 ≤ w8.heap.size := Nat.le_trans hsz7 hg8.size; clear hb8 hg8))
              go_roundw
              case rel => exact ⟨k, ls0 ++ [(rdLt (some r)).1], A7, n7, c7, _, by simp; omega, by go_num, HL2.out, HR8.out, by (rw [List.map_append]; exact HO8.out), HL8.out, HZ8.out, HX8.out, hsz8⟩
              case measure => simp [intOf]
          · as_aux_lemma =>
            obtain ⟨gz, hgz⟩ : ∃ gz, wr.drew.heap.size = gz := ⟨_, rfl⟩; refine step_alloc (by simp [Region.wanted]) 27 rfl (.pointer (some ⟨gz, 0, none⟩)) (wr.drew.alloc (.cells #[.string (ba []), .int .i64 0, .int .i64 0, .int .i64 0, .string (ba []), .string (ba [])] 27)) (Try.alloc_lt gz wr.drew hgz) ?_; have HBz : Hid (Blk (wr.drew.alloc (.cells #[.string (ba []), .int .i64 0, .int .i64 0, .int .i64 0, .string (ba []), .string (ba [])] 27)) gz 27 [.string (ba []), .int .i64 0, .int .i64 0, .int .i64 0, .string (ba []), .string (ba [])]) := Lib.hid (Blk.fresh hgz.symm rfl); have HRz := Lib.hid ((HR.out.drew).alloc (.cells #[.string (ba []), .int .i64 0, .int .i64 0, .int .i64 0, .string (ba []), .string (ba [])] 27)); have HNE : Hid (gz ≠ (w.heap.size + 1)) := Lib.hid (fun e => by have h9 := (HR.out.drew).lt; rw [← e, ← hgz] at h9; exact Nat.lt_irrefl _ h9); have HZ : Hid (wr.heap.size ≤ gz) := Lib.hid (hgz ▸ (hHeld).size); clear hgz
            refine hK.out _ _ (only_trans hHeld (only_below ((Below.refl _ _).alloc (Nat.le_refl _) _))) (fun hHeld1 => ?_)
            clear hHeld hK K
            have hHeld := hHeld1
            clear hHeld1
            change wpAnyH _ _ _ _ _ _ _ (Act.put _ (some (7 : Nat)) (.pointer (some ⟨gz, 0, none⟩))) _
            simp only [Act.put, List.setIfInBounds_toArray, List.set_cons_zero, List.set_cons_succ]
            refine wpAnyH_ready (rs := [1]) (by kernel_rfl) (by simp) ?_
            refine AllReadyH.cons rfl (fun K hK => ?_) AllReadyH.nil
            go_simp
            refine (rrow_rs (HRz.out) 16 (by omega)).mono ?_
            rintro e wa0 ⟨Ba0, ma0, ca0, rfl, hy0, hr0, hg0⟩; have HRa0 := Lib.hid hr0; have HGa0 := Lib.hid hg0; have HBa0 := Lib.hid ((HBz.out).grown hg0 (fun e => HNE.out (Option.some.inj e))); have HYa0 := Lib.hid hy0; clear hr0 hg0 hy0
            go_wp2_with fail
            refine hK.out _ _ (only_trans hHeld HGa0.out) (fun hHeld1 => ?_)
            clear hHeld hK K
            have hHeld := hHeld1
            clear hHeld1
            refine wpAnyH_weaken (S' := fun W => (wr.grownBy W (some (w.heap.size + 1))) ∧ By W (fun _ => True) Ba0 ma0 (rval 16 (some r))) (fun W h => h.1) _ _ _ _ ?_
            have hHeld2 := And.intro hHeld HYa0.out
            clear hHeld
            have hHeld := hHeld2
            clear hHeld2
            refine wpAnyH_take (i := 2) (v := (.string (ba (rval 16 (some r))))) rfl (by kernel_rfl) (by kernel_rfl) (by kernel_rfl) (fun _ _ _ h => h) (yields_conv (by kernel_rfl) 43 9 (.tmp 33) rfl (.slice Ba0 ma0 ca0) (by simp [Act.eval]) (.string (ba (rval 16 (some r)))) (fun W hW => run_string_by W 43 9 5 Try.underlying43 Try.underlying5 Try.underlying9 _ _ _ _ _ hW.2)) (by assumption) ?_
            change wpAnyH _ _ _ _ _ _ _ (Act.put _ (some (34 : Nat)) (.string (ba (rval 16 (some r))))) _
            simp only [Act.put, List.setIfInBounds_toArray, List.set_cons_zero, List.set_cons_succ]
            refine wpAnyH_ready (rs := [4]) (by kernel_rfl) (by simp) ?_
            refine AllReadyH.cons rfl (fun K hK => ?_) AllReadyH.nil
            go_simp
            refine (rnumber_rs (HRa0.out) 1 rfl).mono ?_
            rintro e wa1 ⟨rfl, hr1, hg1⟩; have HRa1 := Lib.hid hr1; have HGa1 := Lib.hid hg1; have HBa1 := Lib.hid ((HBa0.out).grown hg1 (fun e => HNE.out (Option.some.inj e))); clear hr1 hg1
            go_wp2_with fail
            refine hK.out _ _ ⟨(only_trans hHeld.1 HGa1.out), (HRa0.out).by_keep hHeld.2 HGa1.out⟩ (fun hHeld1 => ?_)
            clear hHeld hK K
            have hHeld := hHeld1
            clear hHeld1
            refine wpAnyH_take (i := 5) (v := (.int .i64 ((nval 1 (rnext 16 (some r)) : Nat) : Int))) rfl (by kernel_rfl) (by kernel_rfl) (by kernel_rfl) (fun _ _ _ h => h) (yields_conv (by kernel_rfl) 61 3 (.tmp 36) rfl (.int .u64 ((nval 1 (rnext 16 (some r)) : Nat) : Int)) (by simp [Act.eval]) (.int .i64 ((nval 1 (rnext 16 (some r)) : Nat) : Int)) (fun W _ => conv_small 61 3 Try.underlying61 Try.underlying3 _ (by have := nval_lt 1 (rnext 16 (some r)); simp only [e1] at this; omega) W)) (by assumption) ?_
            change wpAnyH _ _ _ _ _ _ _ (Act.put _ (some (37 : Nat)) (.int .i64 ((nval 1 (rnext 16 (some r)) : Nat) : Int))) _
            simp only [Act.put, List.setIfInBounds_toArray, List.set_cons_zero, List.set_cons_succ]
            refine wpAnyH_ready (rs := [7]) (by kernel_rfl) (by simp) ?_
            refine AllReadyH.cons rfl (fun K hK => ?_) AllReadyH.nil
            go_simp
            refine (rnumber_rs (HRa1.out) 8 rfl).mono ?_
            rintro e wa2 ⟨rfl, hr2, hg2⟩; have HRa2 := Lib.hid hr2; have HGa2 := Lib.hid hg2; have HBa2 := Lib.hid ((HBa1.out).grown hg2 (fun e => HNE.out (Option.some.inj e))); clear hr2 hg2
            go_wp2_with fail
            refine hK.out _ _ ⟨(only_trans hHeld.1 HGa2.out), (HRa1.out).by_keep hHeld.2 HGa2.out⟩ (fun hHeld1 => ?_)
            clear hHeld hK K
            have hHeld := hHeld1
            clear hHeld1
            refine wpAnyH_take (i := 8) (v := (.int .i64 (sx 8 (nval 8 (nnext 1 (rnext 16 (some r))))))) rfl (by kernel_rfl) (by kernel_rfl) (by kernel_rfl) (fun _ _ _ h => h) (yields_conv (by kernel_rfl) 61 2 (.tmp 39) rfl (.int .u64 ((nval 8 (nnext 1 (rnext 16 (some r))) : Nat) : Int)) (by simp [Act.eval]) (.int .i64 (sx 8 (nval 8 (nnext 1 (rnext 16 (some r)))))) (fun W _ => conv_i64 61 2 Try.underlying61 Try.underlying2 _ (by have := nval_lt 8 (nnext 1 (rnext 16 (some r))); simp only [e8] at this; omega) W)) (by assumption) ?_
            change wpAnyH _ _ _ _ _ _ _ (Act.put _ (some (40 : Nat)) (.int .i64 (sx 8 (nval 8 (nnext 1 (rnext 16 (some r))))))) _
            simp only [Act.put, List.setIfInBounds_toArray, List.set_cons_zero, List.set_cons_succ]
            refine wpAnyH_ready (rs := [10]) (by kernel_rfl) (by simp) ?_
            refine AllReadyH.cons rfl (fun K hK => ?_) AllReadyH.nil
            go_simp
            refine (rnumber_rs (HRa2.out) 8 rfl).mono ?_
            rintro e wa3 ⟨rfl, hr3, hg3⟩; have HRa3 := Lib.hid hr3; have HGa3 := Lib.hid hg3; have HBa3 := Lib.hid ((HBa2.out).grown hg3 (fun e => HNE.out (Option.some.inj e))); clear hr3 hg3
            go_wp2_with fail
            refine hK.out _ _ ⟨(only_trans hHeld.1 HGa3.out), (HRa2.out).by_keep hHeld.2 HGa3.out⟩ (fun hHeld1 => ?_)
            clear hHeld hK K
            have hHeld := hHeld1
            clear hHeld1
            refine wpAnyH_take (i := 11) (v := (.int .i64 (sx 8 (nval 8 (nnext 8 (nnext 1 (rnext 16 (some r)))))))) rfl (by kernel_rfl) (by kernel_rfl) (by kernel_rfl) (fun _ _ _ h => h) (yields_conv (by kernel_rfl) 61 2 (.tmp 42) rfl (.int .u64 ((nval 8 (nnext 8 (nnext 1 (rnext 16 (some r)))) : Nat) : Int)) (by simp [Act.eval]) (.int .i64 (sx 8 (nval 8 (nnext 8 (nnext 1 (rnext 16 (some r))))))) (fun W _ => conv_i64 61 2 Try.underlying61 Try.underlying2 _ (by have := nval_lt 8 (nnext 8 (nnext 1 (rnext 16 (some r)))); simp only [e8] at this; omega) W)) (by assumption) ?_
            change wpAnyH _ _ _ _ _ _ _ (Act.put _ (some (43 : Nat)) (.int .i64 (sx 8 (nval 8 (nnext 8 (nnext 1 (rnext 16 (some r)))))))) _
            simp only [Act.put, List.setIfInBounds_toArray, List.set_cons_zero, List.set_cons_succ]
            refine wpAnyH_ready (rs := [13]) (by kernel_rfl) (by simp) ?_
            refine AllReadyH.cons rfl (fun K hK => ?_) AllReadyH.nil
            go_simp
            refine (rrow_rs (HRa3.out) 200 (by omega)).mono ?_
            rintro e wa4 ⟨Ba4, ma4, ca4, rfl, hy4, hr4, hg4⟩; have HRa4 := Lib.hid hr4; have HGa4 := Lib.hid hg4; have HBa4 := Lib.hid ((HBa3.out).grown hg4 (fun e => HNE.out (Option.some.inj e))); have HYa4 := Lib.hid hy4; clear hr4 hg4 hy4
            go_wp2_with fail
            refine hK.out _ _ ⟨(only_trans hHeld.1 HGa4.out), (HRa3.out).by_keep hHeld.2 HGa4.out⟩ (fun hHeld1 => ?_)
            clear hHeld hK K
            have hHeld := hHeld1
            clear hHeld1
            refine wpAnyH_weaken (S' := fun W => ((wr.grownBy W (some (w.heap.size + 1))) ∧ By W (fun _ => True) Ba0 ma0 (rval 16 (some r))) ∧ By W (fun _ => True) Ba4 ma4 (rval 200 (nnext 8 (nnext 8 (nnext 1 (rnext 16 (some r))))))) (fun W h => h.1) _ _ _ _ ?_
            have hHeld2 := And.intro hHeld HYa4.out
            clear hHeld
            have hHeld := hHeld2
            clear hHeld2
            refine wpAnyH_take (i := 14) (v := (.string (ba (rval 200 (nnext 8 (nnext 8 (nnext 1 (rnext 16 (some r))))))))) rfl (by kernel_rfl) (by kernel_rfl) (by kernel_rfl) (fun _ _ _ h => h) (yields_conv (by kernel_rfl) 43 9 (.tmp 45) rfl (.slice Ba4 ma4 ca4) (by simp [Act.eval]) (.string (ba (rval 200 (nnext 8 (nnext 8 (nnext 1 (rnext 16 (some r)))))))) (fun W hW => run_string_by W 43 9 5 Try.underlying43 Try.underlying5 Try.underlying9 _ _ _ _ _ hW.2)) (by assumption) ?_
            change wpAnyH _ _ _ _ _ _ _ (Act.put _ (some (46 : Nat)) (.string (ba (rval 200 (nnext 8 (nnext 8 (nnext 1 (rnext 16 (some r))))))))) _
            simp only [Act.put, List.setIfInBounds_toArray, List.set_cons_zero, List.set_cons_succ]
            refine wpAnyH_ready (rs := [16]) (by kernel_rfl) (by simp) ?_
            refine AllReadyH.cons rfl (fun K hK => ?_) AllReadyH.nil
            go_simp
            refine (rrow_rs (HRa4.out) 200 (by omega)).mono ?_
            rintro e wa5 ⟨Ba5, ma5, ca5, rfl, hy5, hr5, hg5⟩; have HRa5 := Lib.hid hr5; have HGa5 := Lib.hid hg5; have HBa5 := Lib.hid ((HBa4.out).grown hg5 (fun e => HNE.out (Option.some.inj e))); have HYa5 := Lib.hid hy5; clear hr5 hg5 hy5
            go_wp2_with fail
            refine hK.out _ _ ⟨⟨(only_trans hHeld.1.1 HGa5.out), (HRa4.out).by_keep hHeld.1.2 HGa5.out⟩, (HRa4.out).by_keep hHeld.2 HGa5.out⟩ (fun hHeld1 => ?_)
            clear hHeld hK K
            have hHeld := hHeld1
            clear hHeld1
            refine wpAnyH_weaken (S' := fun W => (((wr.grownBy W (some (w.heap.size + 1))) ∧ By W (fun _ => True) Ba0 ma0 (rval 16 (some r))) ∧ By W (fun _ => True) Ba4 ma4 (rval 200 (nnext 8 (nnext 8 (nnext 1 (rnext 16 (some r))))))) ∧ By W (fun _ => True) Ba5 ma5 (rval 200 (rnext 200 (nnext 8 (nnext 8 (nnext 1 (rnext 16 (some r)))))))) (fun W h => h.1) _ _ _ _ ?_
            have hHeld2 := And.intro hHeld HYa5.out
            clear hHeld
            have hHeld := hHeld2
            clear hHeld2
            refine wpAnyH_take (i := 17) (v := (.string (ba (rval 200 (rnext 200 (nnext 8 (nnext 8 (nnext 1 (rnext 16 (some r)))))))))) rfl (by kernel_rfl) (by kernel_rfl) (by kernel_rfl) (fun _ _ _ h => h) (yields_conv (by kernel_rfl) 43 9 (.tmp 48) rfl (.slice Ba5 ma5 ca5) (by simp [Act.eval]) (.string (ba (rval 200 (rnext 200 (nnext 8 (nnext 8 (nnext 1 (rnext 16 (some r))))))))) (fun W hW => run_string_by W 43 9 5 Try.underlying43 Try.underlying5 Try.underlying9 _ _ _ _ _ hW.2)) (by assumption) ?_
            change wpAnyH _ _ _ _ _ _ _ (Act.put _ (some (49 : Nat)) (.string (ba (rval 200 (rnext 200 (nnext 8 (nnext 8 (nnext 1 (rnext 16 (some r)))))))))) _
            simp only [Act.put, List.setIfInBounds_toArray, List.set_cons_zero, List.set_cons_succ]
            obtain ⟨V, hV⟩ : ∃ V : Value, V = .agg #[.string (ba (rval 16 (some r))), .int .i64 ((nval 1 (rnext 16 (some r)) : Nat) : Int), .int .i64 (sx 8 (nval 8 (nnext 1 (rnext 16 (some r))))), .int .i64 (sx 8 (nval 8 (nnext 8 (nnext 1 (rnext 16 (some r)))))), .string (ba (rval 200 (nnext 8 (nnext 8 (nnext 1 (rnext 16 (some r))))))), .string (ba (rval 200 (rnext 200 (nnext 8 (nnext 8 (nnext 1 (rnext 16 (some r))))))))] := ⟨_, rfl⟩
            have HV := Lib.hid hV
            clear hV
            refine wpAnyH_take (i := 18) (v := V) rfl (by kernel_rfl) (by kernel_rfl) (by kernel_rfl) (fun _ _ _ h => h) (yields_build (by kernel_rfl) 27 _ rfl _ (by simp only [List.map_toArray, List.map_cons, List.map_nil, Act.eval]; rfl) V (fun w _ => by rw [HV.out]; exact Try.build_l6 _ _ _ _ _ _ w)) (by assumption) ?_
            change wpAnyH _ _ _ _ _ _ _ (Act.put _ (some (50 : Nat)) V) _
            simp only [Act.put, List.setIfInBounds_toArray, List.set_cons_zero, List.set_cons_succ]
            refine wpAnyH_ready (rs := [20]) (by kernel_rfl) (by simp) ?_
            refine AllReadyH.cons (o := ⟨none, .store 27 (.tmp 7) (.tmp 50), _, _, _, none⟩) rfl (fun K hK => ?_) AllReadyH.nil
            have HBp := Lib.hid (HBa5.out); refine step_store_blk rfl 27 (.tmp 7) (.tmp 50) rfl gz [.string (ba (rval 16 (some r))), .int .i64 ((nval 1 (rnext 16 (some r)) : Nat) : Int), .int .i64 (sx 8 (nval 8 (nnext 1 (rnext 16 (some r))))), .int .i64 (sx 8 (nval 8 (nnext 8 (nnext 1 (rnext 16 (some r)))))), .string (ba (rval 200 (nnext 8 (nnext 8 (nnext 1 (rnext 16 (some r))))))), .string (ba (rval 200 (rnext 200 (nnext 8 (nnext 8 (nnext 1 (rnext 16 (some r))))))))] (by simp [Act.eval]) (by simp only [Act.eval]; exact HV.out) 27 [.string (ba []), .int .i64 0, .int .i64 0, .int .i64 0, .string (ba []), .string (ba [])] (HBa5.out) (by kernel_rfl) rfl (one6 _ _ _ _ _ _) ?_; intro we hbe hge; have HBe := Lib.hid hbe; have HGe := Lib.hid hge; have HRe := Lib.hid ((HRa5.out).other hge (fun b hb => ⟨fun e => HNE.out (by rw [Option.some.inj hb]; exact e), by have := Option.some.inj hb; have := HZ.out; have := HSZ.out; omega⟩)); clear hbe hge
            refine hK.out _ _ ⟨⟨⟨(only_new hHeld.1.1.1 HGe.out HZ.out), By.far hHeld.1.1.2 HGe.out HBp.out (no_u8 _ _ _ _ _ _)⟩, By.far hHeld.1.2 HGe.out HBp.out (no_u8 _ _ _ _ _ _)⟩, By.far hHeld.2 HGe.out HBp.out (no_u8 _ _ _ _ _ _)⟩ (fun hHeld1 => ?_)
            clear hHeld hK K
            have hHeld := hHeld1
            clear hHeld1
            change wpAnyH _ _ _ _ _ _ _ (Act.put _ none undef) _
            simp only [Act.put]
            refine wpAnyH_done (by kernel_rfl) ?_ _
            have HG6 := Lib.hid hHeld.1.1.1
            have HOe := Lib.hid (HO.out.far HG6.out (by omega))
            have HLe := Lib.hid (HB.out.grown HG6.out (by simp; omega))
            have HZe := Lib.hid (HZ0.out.grown HG6.out (by simp))
            have HXe := Lib.hid (HX.out.grown HG6.out HX.out.size (fun k hk => by have := Option.some.inj hk; omega))
            have hsze : w4.heap.size + 1 ≤ we.heap.size := Nat.le_trans HSZ.out HG6.out.size
            have l2 := HLe.out.cellAt (i := 2) rfl
            have hq7 : ∀ b, (Value.slice Av nv cv).ownBlock = some b → w4.heap.size + 1 ≤ b := fun b hb => (HO.out.lt b hb).1
            have HQ7 := Lib.hid hq7
            clear hHeld hq7
            go_wp2_with (first
              | (refine wpList_load_blk rfl 27 (.tmp 7) rfl gz rfl 27 [.string (ba (rval 16 (some r))), .int .i64 ((nval 1 (rnext 16 (some r)) : Nat) : Int), .int .i64 (sx 8 (nval 8 (nnext 1 (rnext 16 (some r))))), .int .i64 (sx 8 (nval 8 (nnext 8 (nnext 1 (rnext 16 (some r)))))), .string (ba (rval 200 (nnext 8 (nnext 8 (nnext 1 (rnext 16 (some r))))))), .string (ba (rval 200 (rnext 200 (nnext 8 (nnext 8 (nnext 1 (rnext 16 (some r))))))))] _ HBe.out Try.underlying27 rfl (by kernel_rfl) ?_)
              | (refine wpList_build_el rfl Try.el_lt (.tmp 53) rfl [.string (ba (rval 16 (some r))), .int .i64 ((nval 1 (rnext 16 (some r)) : Nat) : Int), .int .i64 (sx 8 (nval 8 (nnext 1 (rnext 16 (some r))))), .int .i64 (sx 8 (nval 8 (nnext 8 (nnext 1 (rnext 16 (some r)))))), .string (ba (rval 200 (nnext 8 (nnext 8 (nnext 1 (rnext 16 (some r))))))), .string (ba (rval 200 (rnext 200 (nnext 8 (nnext 8 (nnext 1 (rnext 16 (some r))))))))] rfl rfl ?_)
              | (at_builtin; refine wpList_append_el rfl Try.el_lt (.tmp 52) (.tmp 54) rfl (w4.heap.size + 1) _ (ls0.map Lt.cells) rfl (HOe.out.alloc _) _ [.string (ba (rval 16 (some r))), .int .i64 ((nval 1 (rnext 16 (some r)) : Nat) : Int), .int .i64 (sx 8 (nval 8 (nnext 1 (rnext 16 (some r))))), .int .i64 (sx 8 (nval 8 (nnext 8 (nnext 1 (rnext 16 (some r)))))), .string (ba (rval 200 (nnext 8 (nnext 8 (nnext 1 (rnext 16 (some r))))))), .string (ba (rval 200 (rnext 200 (nnext 8 (nnext 8 (nnext 1 (rnext 16 (some r))))))))] rfl (Blk.fresh (by simp) rfl) rfl (fun u hu => by simp at hu; rcases hu with rfl | rfl | rfl | rfl | rfl | rfl <;> rfl) (by (try simp); omega) (by (try simp); omega) ?_; intro v7 w7 ho7 hg7; have HR7 := Lib.hid ((HRe.out.alloc (.cells #[.string (ba (rval 16 (some r))), .int .i64 ((nval 1 (rnext 16 (some r)) : Nat) : Int), .int .i64 (sx 8 (nval 8 (nnext 1 (rnext 16 (some r))))), .int .i64 (sx 8 (nval 8 (nnext 8 (nnext 1 (rnext 16 (some r)))))), .string (ba (rval 200 (nnext 8 (nnext 8 (nnext 1 (rnext 16 (some r))))))), .string (ba (rval 200 (rnext 200 (nnext 8 (nnext 8 (nnext 1 (rnext 16 (some r))))))))] 27)).other hg7 (fun b hb => ⟨by have := HQ7.out b hb; omega, fun h9 => by have := HQ7.out b hb; exact absurd (show b < w.heap.size from h9) (by omega)⟩)); have HL7 := Lib.hid ((HLe.out.alloc (.cells #[.string (ba (rval 16 (some r))), .int .i64 ((nval 1 (rnext 16 (some r)) : Nat) : Int), .int .i64 (sx 8 (nval 8 (nnext 1 (rnext 16 (some r))))), .int .i64 (sx 8 (nval 8 (nnext 8 (nnext 1 (rnext 16 (some r)))))), .string (ba (rval 200 (nnext 8 (nnext 8 (nnext 1 (rnext 16 (some r))))))), .string (ba (rval 200 (rnext 200 (nnext 8 (nnext 8 (nnext 1 (rnext 16 (some r))))))))] 27)).grown hg7 (fun e => by have := HQ7.out _ e.symm; omega)); have HZ7 := Lib.hid ((HZe.out.alloc (.cells #[.string (ba (rval 16 (some r))), .int .i64 ((nval 1 (rnext 16 (some r)) : Nat) : Int), .int .i64 (sx 8 (nval 8 (nnext 1 (rnext 16 (some r))))), .int .i64 (sx 8 (nval 8 (nnext 8 (nnext 1 (rnext 16 (some r)))))), .string (ba (rval 200 (nnext 8 (nnext 8 (nnext 1 (rnext 16 (some r))))))), .string (ba (rval 200 (rnext 200 (nnext 8 (nnext 8 (nnext 1 (rnext 16 (some r))))))))] 27)).grown hg7 (fun e => by have := HQ7.out _ e.symm; omega)); have HX7 := Lib.hid ((HXe.out.alloc HXe.out.size (.cells #[.string (ba (rval 16 (some r))), .int .i64 ((nval 1 (rnext 16 (some r)) : Nat) : Int), .int .i64 (sx 8 (nval 8 (nnext 1 (rnext 16 (some r))))), .int .i64 (sx 8 (nval 8 (nnext 8 (nnext 1 (rnext 16 (some r)))))), .string (ba (rval 200 (nnext 8 (nnext 8 (nnext 1 (rnext 16 (some r))))))), .string (ba (rval 200 (rnext 200 (nnext 8 (nnext 8 (nnext 1 (rnext 16 (some r))))))))] 27)).grown hg7 (by simp; omega) (fun b hb => by have := HQ7.out b hb; omega)); have hsz7 : w4.heap.size + 1 ≤ w7.heap.size := (by have := hg7.size; simp at this; omega); obtain ⟨A7, n7, c7, rfl, hn7⟩ := ho7.out'; have HN7 := Lib.hid hn7; have HO7 := Lib.hid ho7; clear ho7 hg7 hn7)
              | (refine wpList_store_cell rfl 22 (.tmp 56) (.tmp 55) rfl w4.heap.size 2 rfl (.slice A7 n7 c7) rfl rfl rfl (fun w => by kernel_rfl) 25 [.int .i64 sq, .int .i64 tt, .slice Av nv cv, .slice none 0 0] HL7.out (by simp) ?_; intro w8 hb8 hg8; have HL8 : Hid (Blk w8 w4.heap.size 25 [.int .i64 sq, .int .i64 tt, .slice A7 n7 c7, .slice none 0 0]) := Lib.hid hb8; have HR8 := Lib.hid (HR7.out.other hg8 (fun b hb => ⟨by have := Option.some.inj hb; omega, fun h9 => by have := Option.some.inj hb; exact absurd (show b < w.heap.size from h9) (by omega)⟩)); have HO8 := Lib.hid (HO7.out.far hg8 (by omega)); have HZ8 := Lib.hid (HZ7.out.grown hg8 (by simp; omega)); have HX8 := Lib.hid (HX7.out.grown hg8 HX7.out.size (fun k hk => by have := Option.some.inj hk; omega)); have hsz8 : w4.heap.size + 1 ≤ w8.heap.size := Nat.le_trans hsz7 hg8.size; clear hb8 hg8))
            go_roundw
            case rel => exact ⟨k, ls0 ++ [(rdLt (some r)).1], A7, n7, c7, _, by simp; omega, by go_num, HL2.out, HR8.out, by (rw [List.map_append]; exact HO8.out), HL8.out, HZ8.out, HX8.out, hsz8⟩
            case measure => simp [intOf]
  case rest =>
    obtain ⟨ls0, Av, nv, cv, st, hl16, rfl, hr, hp, hb, h0, hx, hsz⟩ := hcut
    have HRr := Lib.hid hr; have HPr := Lib.hid hp; have HBr := Lib.hid hb; have HZr := Lib.hid h0; have HXr := Lib.hid hx; have HSr := Lib.hid hsz
    clear hr hp hb h0 hx hsz
    have hcv4 := cval_le 4 st
    have HCV4 := Lib.hid hcv4
    obtain ⟨O, hO⟩ : ∃ O, rdMany rdOc (cval 4 st) (cnext 4 st) = O := ⟨_, rfl⟩
    have HRD2 : Hid (rdLg xs = (⟨sq, tt, ls0, O.1⟩, O.2)) := Lib.hid (by have h9 := HRD.out; simp only [hO] at h9; exact h9)
    have HOO := Lib.hid hO
    clear hO hcv4
    go_upto_block 2 with (go_at_call 62; (refine (rcount_rs (HRr.out) 4).mono ?_); rintro e w9 ⟨rfl, hr, hg⟩; have HR9 := Lib.hid hr; have HP9 := Lib.hid (HPr.out.far hg (by omega)); have HB9 : Hid (Blk w9 w4.heap.size 25 [.int .i64 sq, .int .i64 tt, .slice Av nv cv, .slice none 0 0]) := Lib.hid (HBr.out.grown hg (by simp; omega)); have HZ9 := Lib.hid (HZr.out.grown hg (by simp)); have HX9 := Lib.hid (HXr.out.grown hg HXr.out.size (fun k hk => by have := Option.some.inj hk; omega)); have HN9 : Hid (w4.heap.size + 1 ≤ w9.heap.size) := Lib.hid (Nat.le_trans HSr.out hg.size); have HGN : Hid ((w.heap.size + 1) < w9.heap.size) := Lib.hid (by have := HN9.out; omega); have HPN := Lib.hid (fun b hb => (HP9.out.lt b hb).2); clear hr hg)
    go_cut [8] from 59 to 84 (fun _ wx => ∃ (os0 : List Oc) (Bv : Option Addr) (mv dv : Nat) (st : Option (List UInt8)), os0.length ≤ 4 ∧ O = (os0, st) ∧ Rs (fun b => b < w.heap.size) wx (w.heap.size + 1) tQ st ∧ Os wx (w4.heap.size + 1) 27 6 (.slice Av nv cv) (ls0.map Lt.cells) ∧ Os wx w9.heap.size 30 3 (.slice Bv mv dv) (os0.map Oc.cells) ∧ Blk wx w4.heap.size 25 [.int .i64 sq, .int .i64 tt, .slice Av nv cv, .slice Bv mv dv] ∧ Blk wx w.heap.size 25 [.int .i64 0, .int .i64 0, .slice none 0 0, .slice none 0 0] ∧ Below w.heap.size w wx ∧ w9.heap.size ≤ wx.heap.size)
    case first =>
      go_wp2_with fail
      go_loopw [8] (fun iv wr => ∃ (k : Nat) (os0 : List Oc) (Bv : Option Addr) (mv dv : Nat) (st : Option (List UInt8)), k + os0.length ≤ 4 ∧ iv = .int .i64 (k : Int) ∧ (os0 ++ (rdMany rdOc k st).1, (rdMany rdOc k st).2) = O ∧ Rs (fun b => b < w.heap.size) wr (w.heap.size + 1) tQ st ∧ Os wr (w4.heap.size + 1) 27 6 (.slice Av nv cv) (ls0.map Lt.cells) ∧ Os wr w9.heap.size 30 3 (.slice Bv mv dv) (os0.map Oc.cells) ∧ Blk wr w4.heap.size 25 [.int .i64 sq, .int .i64 tt, .slice Av nv cv, .slice Bv mv dv] ∧ Blk wr w.heap.size 25 [.int .i64 0, .int .i64 0, .slice none 0 0, .slice none 0 0] ∧ Below w.heap.size w wr ∧ w9.heap.size ≤ wr.heap.size) (fun iv _ => (intOf iv).toNat)
      case atStart => exact ⟨_, [], none, 0, 0, _, by simpa using HCV4.out, rfl, HOO.out, HR9.out, HP9.out, Os.nil _ _ _ _, HB9.out, HZ9.out, HX9.out, Nat.le_refl _⟩
      case round =>
        obtain ⟨k, os0, Bv, mv, dv, st, hk, rfl, hL, hr, hp, ho, hb, h0, hx, hs⟩ := hrel
        have HRl := Lib.hid hr; have HPl := Lib.hid hp; have HOl := Lib.hid ho; have HBl := Lib.hid hb; have HZl := Lib.hid h0; have HXl := Lib.hid hx; have HSl := Lib.hid hs
        obtain ⟨er, hcell, her⟩ := HRl.out.err
        clear hr hp ho hb h0 hx hs
        cases k with
        | zero =>
          rw [rdMany_zero] at hL
          have HL2 := Lib.hid hL
          clear hL her hcell
          go_wp2
          go_meet
          case rel => exact ⟨os0, Bv, mv, dv, st, by omega, (by have := HL2.out; simpa using this.symm), HRl.out, HPl.out, HOl.out, HBl.out, HZl.out, HXl.out, HSl.out⟩
        | succ k =>
          have hkd : decide ((0 : Int) < (k : Int) + 1) = true := decide_eq_true (by omega)
          have hwr : IntKind.i64.wrap ((k : Int) + 1 - 1) = (k : Int) := by rw [IntWalk.i64_in _ (by omega)]; omega
          have hwr2 : (k : Int) + 1 - 1 = (k : Int) := by omega
          cases st with
          | none =>
            rw [rdMany_none] at hL
            have HL2 := Lib.hid hL
            have hne : (er == 0) = false := by simpa using her
            clear hL her
            go_wp2
            go_meet
            case rel => exact ⟨os0, Bv, mv, dv, none, by omega, (by have := HL2.out; simpa using this.symm), HRl.out, HPl.out, HOl.out, HBl.out, HZl.out, HXl.out, HSl.out⟩
          | some r =>
            have he0 : er = 0 := her.2 (by simp)
            subst he0
            have HO2 := Lib.hid ((rdMany_step rdOc k r os0).symm.trans hL)
            have HRm := Lib.hid HRl.out.drew; have HPm := Lib.hid HPl.out.drew; have HOm := Lib.hid HOl.out.drew; have HBm := Lib.hid HBl.out.drew; have HZm := Lib.hid HZl.out.drew; have HXm := Lib.hid HXl.out.drew; have HSm : Hid (w9.heap.size ≤ wr.drew.heap.size) := Lib.hid HSl.out
            clear hL her
            go_wp2
            refine wp_region_held_drew (S := fun _ => True) (by kernel_rfl) trivial (fun hHeld => ?_)
            change wpAnyH _ _ _ _ _ _ #[false, false, false, false, false, false, false, false, false, false, false, false, false, false, false, false] _ _
            refine wpAnyH_take (i := 0) (v := (.pointer (some ⟨w4.heap.size, 3, none⟩))) rfl (by kernel_rfl) (by kernel_rfl) (by kernel_rfl) (fun _ _ _ h => h) (Or.inl ⟨by kernel_rfl, fun w hSw => ?_⟩) (by assumption) ?_
            · (try dsimp only at hSw); go_simp <;> (try rfl)
            change wpAnyH _ _ _ _ _ _ _ (Act.put _ (some (70 : Nat)) (.pointer (some ⟨w4.heap.size, 3, none⟩))) _
            simp only [Act.put, List.setIfInBounds_toArray, List.set_cons_zero, List.set_cons_succ]
            refine wpAnyH_take (i := 2) (v := (.pointer (some ⟨(w.heap.size + 1), 0, none⟩))) rfl (by kernel_rfl) (by kernel_rfl) (by kernel_rfl) (fun _ _ _ h => h) (Or.inl ⟨by kernel_rfl, fun w hSw => ?_⟩) (by assumption) ?_
            · (try dsimp only at hSw); go_simp <;> (try rfl)
            change wpAnyH _ _ _ _ _ _ _ (Act.put _ (some (72 : Nat)) (.pointer (some ⟨(w.heap.size + 1), 0, none⟩))) _
            simp only [Act.put, List.setIfInBounds_toArray, List.set_cons_zero, List.set_cons_succ]
            refine wpAnyH_take (i := 5) (v := (.pointer (some ⟨(w.heap.size + 1), 0, none⟩))) rfl (by kernel_rfl) (by kernel_rfl) (by kernel_rfl) (fun _ _ _ h => h) (Or.inl ⟨by kernel_rfl, fun w hSw => ?_⟩) (by assumption) ?_
            · (try dsimp only at hSw); go_simp <;> (try rfl)
            change wpAnyH _ _ _ _ _ _ _ (Act.put _ (some (75 : Nat)) (.pointer (some ⟨(w.heap.size + 1), 0, none⟩))) _
            simp only [Act.put, List.setIfInBounds_toArray, List.set_cons_zero, List.set_cons_succ]
            refine wpAnyH_take (i := 8) (v := (.pointer (some ⟨(w.heap.size + 1), 0, none⟩))) rfl (by kernel_rfl) (by kernel_rfl) (by kernel_rfl) (fun _ _ _ h => h) (Or.inl ⟨by kernel_rfl, fun w hSw => ?_⟩) (by assumption) ?_
            · (try dsimp only at hSw); go_simp <;> (try rfl)
            change wpAnyH _ _ _ _ _ _ _ (Act.put _ (some (78 : Nat)) (.pointer (some ⟨(w.heap.size + 1), 0, none⟩))) _
            simp only [Act.put, List.setIfInBounds_toArray, List.set_cons_zero, List.set_cons_succ]
            refine wpAnyH_ready (rs := [1, 3]) (by kernel_rfl) (by simp) ?_
            refine AllReadyH.cons (o := ⟨some 71, .load 23 (.tmp 70), _, _, _, none⟩) rfl (fun K hK => ?_) (AllReadyH.cons rfl (fun K hK => ?_) AllReadyH.nil)
            · as_aux_lemma =>
              refine step_load_at rfl 23 (.tmp 70) rfl (.pointer (some ⟨w4.heap.size, 3, none⟩)) rfl (.slice Bv mv dv) (load_one' (Try.agg_so _) (HBm.out.cellAt rfl)) ?_
              refine hK.out _ _ trivial (fun hHeld1 => ?_)
              clear hHeld hK K
              have hHeld := hHeld1
              clear hHeld1
              change wpAnyH _ _ _ _ _ _ _ (Act.put _ (some (71 : Nat)) (.slice Bv mv dv)) _
              simp only [Act.put, List.setIfInBounds_toArray, List.set_cons_zero, List.set_cons_succ]
              refine wpAnyH_ready (rs := [3]) (by kernel_rfl) (by simp) ?_
              refine AllReadyH.cons rfl (fun K hK => ?_) AllReadyH.nil
              go_simp
              refine (rnumber_rs (HRm.out) 1 rfl).mono ?_
              rintro e wa0 ⟨rfl, hr, hg⟩; have HRn0 := Lib.hid hr; have HPn0 := Lib.hid (HPm.out.far hg (by omega)); have HOn0 := Lib.hid (HOm.out.far hg HGN.out); have HBn0 := Lib.hid (HBm.out.grown hg (by simp; omega)); have HZn0 := Lib.hid (HZm.out.grown hg (by simp)); have HXn0 := Lib.hid (HXm.out.grown hg HXm.out.size (fun k hk => by have := Option.some.inj hk; omega)); have HSn0 := Lib.hid (Nat.le_trans HSm.out hg.size); clear hr hg
              go_wp2_with fail
              refine hK.out _ _ trivial (fun hHeld1 => ?_)
              clear hHeld hK K
              have hHeld := hHeld1
              clear hHeld1
              refine wpAnyH_take (i := 4) (v := (.int .i64 ((nval 1 (some r) : Nat) : Int))) rfl (by kernel_rfl) (by kernel_rfl) (by kernel_rfl) (fun _ _ _ h => h) (yields_conv (by kernel_rfl) 61 3 (.tmp 73) rfl (.int .u64 ((nval 1 (some r) : Nat) : Int)) (by simp [Act.eval]) (.int .i64 ((nval 1 (some r) : Nat) : Int)) (fun W _ => conv_small 61 3 Try.underlying61 Try.underlying3 _ (by have := nval_lt 1 (some r); simp only [e1] at this; omega) W)) (by assumption) ?_
              change wpAnyH _ _ _ _ _ _ _ (Act.put _ (some (74 : Nat)) (.int .i64 ((nval 1 (some r) : Nat) : Int))) _
              simp only [Act.put, List.setIfInBounds_toArray, List.set_cons_zero, List.set_cons_succ]
              refine wpAnyH_ready (rs := [6]) (by kernel_rfl) (by simp) ?_
              refine AllReadyH.cons rfl (fun K hK => ?_) AllReadyH.nil
              go_simp
              refine (rnumber_rs (HRn0.out) 8 rfl).mono ?_
              rintro e wa1 ⟨rfl, hr, hg⟩; have HRn1 := Lib.hid hr; have HPn1 := Lib.hid (HPn0.out.far hg (by omega)); have HOn1 := Lib.hid (HOn0.out.far hg HGN.out); have HBn1 := Lib.hid (HBn0.out.grown hg (by simp; omega)); have HZn1 := Lib.hid (HZn0.out.grown hg (by simp)); have HXn1 := Lib.hid (HXn0.out.grown hg HXn0.out.size (fun k hk => by have := Option.some.inj hk; omega)); have HSn1 := Lib.hid (Nat.le_trans HSn0.out hg.size); clear hr hg
              go_wp2_with fail
              refine hK.out _ _ trivial (fun hHeld1 => ?_)
              clear hHeld hK K
              have hHeld := hHeld1
              clear hHeld1
              refine wpAnyH_take (i := 7) (v := (.int .i64 (sx 8 (nval 8 (nnext 1 (some r)))))) rfl (by kernel_rfl) (by kernel_rfl) (by kernel_rfl) (fun _ _ _ h => h) (yields_conv (by kernel_rfl) 61 2 (.tmp 76) rfl (.int .u64 ((nval 8 (nnext 1 (some r)) : Nat) : Int)) (by simp [Act.eval]) (.int .i64 (sx 8 (nval 8 (nnext 1 (some r))))) (fun W _ => conv_i64 61 2 Try.underlying61 Try.underlying2 _ (by have := nval_lt 8 (nnext 1 (some r)); simp only [e8] at this; omega) W)) (by assumption) ?_
              change wpAnyH _ _ _ _ _ _ _ (Act.put _ (some (77 : Nat)) (.int .i64 (sx 8 (nval 8 (nnext 1 (some r)))))) _
              simp only [Act.put, List.setIfInBounds_toArray, List.set_cons_zero, List.set_cons_succ]
              refine wpAnyH_ready (rs := [9]) (by kernel_rfl) (by simp) ?_
              refine AllReadyH.cons rfl (fun K hK => ?_) AllReadyH.nil
              go_simp
              refine (rnumber_rs (HRn1.out) 1 rfl).mono ?_
              rintro e wa2 ⟨rfl, hr, hg⟩; have HRn2 := Lib.hid hr; have HPn2 := Lib.hid (HPn1.out.far hg (by omega)); have HOn2 := Lib.hid (HOn1.out.far hg HGN.out); have HBn2 := Lib.hid (HBn1.out.grown hg (by simp; omega)); have HZn2 := Lib.hid (HZn1.out.grown hg (by simp)); have HXn2 := Lib.hid (HXn1.out.grown hg HXn1.out.size (fun k hk => by have := Option.some.inj hk; omega)); have HSn2 := Lib.hid (Nat.le_trans HSn1.out hg.size); clear hr hg
              go_wp2_with fail
              refine hK.out _ _ trivial (fun hHeld1 => ?_)
              clear hHeld hK K
              have hHeld := hHeld1
              clear hHeld1
              refine wpAnyH_take (i := 10) (v := (.int .i64 ((nval 1 (nnext 8 (nnext 1 (some r))) : Nat) : Int))) rfl (by kernel_rfl) (by kernel_rfl) (by kernel_rfl) (fun _ _ _ h => h) (yields_conv (by kernel_rfl) 61 28 (.tmp 79) rfl (.int .u64 ((nval 1 (nnext 8 (nnext 1 (some r))) : Nat) : Int)) (by simp [Act.eval]) (.int .i64 ((nval 1 (nnext 8 (nnext 1 (some r))) : Nat) : Int)) (fun W _ => conv_small 61 28 Try.underlying61 Try.underlying28 _ (by have := nval_lt 1 (nnext 8 (nnext 1 (some r))); simp only [e1] at this; omega) W)) (by assumption) ?_
              change wpAnyH _ _ _ _ _ _ _ (Act.put _ (some (80 : Nat)) (.int .i64 ((nval 1 (nnext 8 (nnext 1 (some r))) : Nat) : Int))) _
              simp only [Act.put, List.setIfInBounds_toArray, List.set_cons_zero, List.set_cons_succ]
              obtain ⟨V, hV⟩ : ∃ V : Value, V = .agg #[.int .i64 ((nval 1 (some r) : Nat) : Int), .int .i64 (sx 8 (nval 8 (nnext 1 (some r)))), .int .i64 ((nval 1 (nnext 8 (nnext 1 (some r))) : Nat) : Int)] := ⟨_, rfl⟩
              have HV := Lib.hid hV
              clear hV
              refine wpAnyH_take (i := 11) (v := V) rfl (by kernel_rfl) (by kernel_rfl) (by kernel_rfl) (fun _ _ _ h => h) (yields_build (by kernel_rfl) 30 _ rfl _ (by simp only [List.map_toArray, List.map_cons, List.map_nil, Act.eval]; rfl) V (fun w _ => by rw [HV.out]; exact Try.build_o3 _ _ _ w)) (by assumption) ?_
              change wpAnyH _ _ _ _ _ _ _ (Act.put _ (some (81 : Nat)) V) _
              simp only [Act.put, List.setIfInBounds_toArray, List.set_cons_zero, List.set_cons_succ]
              refine wpAnyH_ready (rs := [12]) (by kernel_rfl) (by simp) ?_
              refine AllReadyH.cons (o := ⟨some 82, .buildSlice 23 1 #[(0, .tmp 81)], _, _, _, none⟩) rfl (fun K hK => ?_) AllReadyH.nil
              refine step_build_el_w rfl Try.el_oc (.tmp 81) rfl [.int .i64 ((nval 1 (some r) : Nat) : Int), .int .i64 (sx 8 (nval 8 (nnext 1 (some r)))), .int .i64 ((nval 1 (nnext 8 (nnext 1 (some r))) : Nat) : Int)] (by simp only [Act.eval]; exact HV.out) rfl ?_; intro gx wx hbx hkx; have HBx := Lib.hid hbx; have HRb := Lib.hid (HRn2.out.below hkx); have HPb := Lib.hid (HPn2.out.through hkx); have HOb := Lib.hid (HOn2.out.through hkx); have HBb := Lib.hid (HBn2.out.through hkx); have HZb := Lib.hid (HZn2.out.through hkx); have HXb := Lib.hid (below_step HXn2.out hkx); have HSb := Lib.hid (Nat.le_trans HSn2.out hkx.size); clear hbx hkx
              refine hK.out _ _ trivial (fun hHeld1 => ?_)
              clear hHeld hK K
              have hHeld := hHeld1
              clear hHeld1
              change wpAnyH _ _ _ _ _ _ _ (Act.put _ (some (82 : Nat)) (.slice (some ⟨gx, 0, none⟩) 1 1)) _
              simp only [Act.put, List.setIfInBounds_toArray, List.set_cons_zero, List.set_cons_succ]
              refine wpAnyH_ready (rs := [13]) (by kernel_rfl) (by simp) ?_
              refine AllReadyH.cons (o := ⟨some 83, .call { callee := .builtin .append, args := #[.tmp 71, .tmp 82], argTypes := #[23, 23] }, _, _, _, none⟩) rfl (fun K hK => ?_) AllReadyH.nil
              refine step_append_el rfl Try.el_oc (.tmp 71) (.tmp 82) rfl w9.heap.size _ (os0.map Oc.cells) rfl HOb.out gx [.int .i64 ((nval 1 (some r) : Nat) : Int), .int .i64 (sx 8 (nval 8 (nnext 1 (some r)))), .int .i64 ((nval 1 (nnext 8 (nnext 1 (some r))) : Nat) : Int)] rfl HBx.out rfl (fun u hu => by simp at hu; rcases hu with rfl | rfl | rfl <;> rfl) (by (try simp); omega) HSb.out ?_; intro A7 n7 c7 w7 hn7 ho7 hg7; have HW := Lib.hid (fun b hb => (HOb.out.lt b hb).1); have HRc := Lib.hid (HRb.out.other hg7 (fun b hb => ⟨by have := HW.out b hb; have := HGN.out; omega, fun h9 => by have := HW.out b hb; have := HN9.out; exact absurd (show b < w.heap.size from h9) (by omega)⟩)); have HPc := Lib.hid (HPb.out.keep (fun b hB hl hv => hg7.block b hl (fun e9 => by have := HW.out b e9.symm; have := HPN.out b hv; omega))); have HOc := Lib.hid ho7; have HBc := Lib.hid (HBb.out.grown hg7 (fun e => by have := HW.out _ e.symm; have := HN9.out; omega)); have HZc := Lib.hid (HZb.out.grown hg7 (fun e => by have := HW.out _ e.symm; have := HN9.out; omega)); have HXc := Lib.hid (HXb.out.grown hg7 HXb.out.size (fun b hb => by have := HW.out b hb; have := HN9.out; omega)); have HSc := Lib.hid (Nat.le_trans HSb.out hg7.size); clear ho7 hg7 hn7
              refine hK.out _ _ trivial (fun hHeld1 => ?_)
              clear hHeld hK K
              have hHeld := hHeld1
              clear hHeld1
              change wpAnyH _ _ _ _ _ _ _ (Act.put _ (some (83 : Nat)) (.slice A7 n7 c7)) _
              simp only [Act.put, List.setIfInBounds_toArray, List.set_cons_zero, List.set_cons_succ]
              refine wpAnyH_take (i := 14) (v := (.pointer (some ⟨w4.heap.size, 3, none⟩))) rfl (by kernel_rfl) (by kernel_rfl) (by kernel_rfl) (fun _ _ _ h => h) (Or.inl ⟨by kernel_rfl, fun w hSw => ?_⟩) (by assumption) ?_
              · (try dsimp only at hSw); go_simp <;> (try rfl)
              change wpAnyH _ _ _ _ _ _ _ (Act.put _ (some (84 : Nat)) (.pointer (some ⟨w4.heap.size, 3, none⟩))) _
              simp only [Act.put, List.setIfInBounds_toArray, List.set_cons_zero, List.set_cons_succ]
              refine wpAnyH_ready (rs := [15]) (by kernel_rfl) (by simp) ?_
              refine AllReadyH.cons (o := ⟨none, .store 23 (.tmp 84) (.tmp 83), _, _, _, none⟩) rfl (fun K hK => ?_) AllReadyH.nil
              refine step_store_cell (by simp [Region.wanted]) 23 (.tmp 84) (.tmp 83) rfl w4.heap.size 3 rfl (.slice A7 n7 c7) rfl rfl rfl (fun w => by kernel_rfl) 25 [.int .i64 sq, .int .i64 tt, .slice Av nv cv, .slice Bv mv dv] HBc.out (by simp) ?_; intro w8 hb8 hg8; have HBd : Hid (Blk w8 w4.heap.size 25 [.int .i64 sq, .int .i64 tt, .slice Av nv cv, .slice A7 n7 c7]) := Lib.hid hb8; have HRd := Lib.hid (HRc.out.other hg8 (fun b hb => ⟨by have := Option.some.inj hb; omega, fun h9 => by have := Option.some.inj hb; exact absurd (show b < w.heap.size from h9) (by omega)⟩)); have HPd := Lib.hid (HPc.out.far hg8 (by omega)); have HOd := Lib.hid (HOc.out.far hg8 (by have := HN9.out; omega)); have HZd := Lib.hid (HZc.out.grown hg8 (by simp; omega)); have HXd := Lib.hid (HXc.out.grown hg8 HXc.out.size (fun k hk => by have := Option.some.inj hk; omega)); have HSd := Lib.hid (Nat.le_trans HSc.out hg8.size); clear hb8 hg8
              refine hK.out _ _ trivial (fun hHeld1 => ?_)
              clear hHeld hK K
              have hHeld := hHeld1
              clear hHeld1
              change wpAnyH _ _ _ _ _ _ _ (Act.put _ none undef) _
              simp only [Act.put]
              refine wpAnyH_done (by kernel_rfl) ?_ _
              clear hHeld
              go_wp2
              go_roundw
              case rel => exact ⟨k, os0 ++ [(rdOc (some r)).1], A7, n7, c7, _, by simp; omega, by go_num, HO2.out, HRd.out, HPd.out, by (rw [List.map_append]; exact HOd.out), HBd.out, HZd.out, HXd.out, HSd.out⟩
              case measure => simp [intOf]
            · as_aux_lemma =>
              go_simp
              refine (rnumber_rs (HRm.out) 1 rfl).mono ?_
              rintro e wa0 ⟨rfl, hr, hg⟩; have HRn0 := Lib.hid hr; have HPn0 := Lib.hid (HPm.out.far hg (by omega)); have HOn0 := Lib.hid (HOm.out.far hg HGN.out); have HBn0 := Lib.hid (HBm.out.grown hg (by simp; omega)); have HZn0 := Lib.hid (HZm.out.grown hg (by simp)); have HXn0 := Lib.hid (HXm.out.grown hg HXm.out.size (fun k hk => by have := Option.some.inj hk; omega)); have HSn0 := Lib.hid (Nat.le_trans HSm.out hg.size); clear hr hg
              go_wp2_with fail
              refine hK.out _ _ trivial (fun hHeld1 => ?_)
              clear hHeld hK K
              have hHeld := hHeld1
              clear hHeld1
              refine wpAnyH_take (i := 4) (v := (.int .i64 ((nval 1 (some r) : Nat) : Int))) rfl (by kernel_rfl) (by kernel_rfl) (by kernel_rfl) (fun _ _ _ h => h) (yields_conv (by kernel_rfl) 61 3 (.tmp 73) rfl (.int .u64 ((nval 1 (some r) : Nat) : Int)) (by simp [Act.eval]) (.int .i64 ((nval 1 (some r) : Nat) : Int)) (fun W _ => conv_small 61 3 Try.underlying61 Try.underlying3 _ (by have := nval_lt 1 (some r); simp only [e1] at this; omega) W)) (by assumption) ?_
              change wpAnyH _ _ _ _ _ _ _ (Act.put _ (some (74 : Nat)) (.int .i64 ((nval 1 (some r) : Nat) : Int))) _
              simp only [Act.put, List.setIfInBounds_toArray, List.set_cons_zero, List.set_cons_succ]
              refine wpAnyH_ready (rs := [1, 6]) (by kernel_rfl) (by simp) ?_
              refine AllReadyH.cons (o := ⟨some 71, .load 23 (.tmp 70), _, _, _, none⟩) rfl (fun K hK => ?_) (AllReadyH.cons rfl (fun K hK => ?_) AllReadyH.nil)
              · as_aux_lemma =>
                refine step_load_at rfl 23 (.tmp 70) rfl (.pointer (some ⟨w4.heap.size, 3, none⟩)) rfl (.slice Bv mv dv) (load_one' (Try.agg_so _) (HBn0.out.cellAt rfl)) ?_
                refine hK.out _ _ trivial (fun hHeld1 => ?_)
                clear hHeld hK K
                have hHeld := hHeld1
                clear hHeld1
                change wpAnyH _ _ _ _ _ _ _ (Act.put _ (some (71 : Nat)) (.slice Bv mv dv)) _
                simp only [Act.put, List.setIfInBounds_toArray, List.set_cons_zero, List.set_cons_succ]
                refine wpAnyH_ready (rs := [6]) (by kernel_rfl) (by simp) ?_
                refine AllReadyH.cons rfl (fun K hK => ?_) AllReadyH.nil
                go_simp
                refine (rnumber_rs (HRn0.out) 8 rfl).mono ?_
                rintro e wa1 ⟨rfl, hr, hg⟩; have HRn1 := Lib.hid hr; have HPn1 := Lib.hid (HPn0.out.far hg (by omega)); have HOn1 := Lib.hid (HOn0.out.far hg HGN.out); have HBn1 := Lib.hid (HBn0.out.grown hg (by simp; omega)); have HZn1 := Lib.hid (HZn0.out.grown hg (by simp)); have HXn1 := Lib.hid (HXn0.out.grown hg HXn0.out.size (fun k hk => by have := Option.some.inj hk; omega)); have HSn1 := Lib.hid (Nat.le_trans HSn0.out hg.size); clear hr hg
                go_wp2_with fail
                refine hK.out _ _ trivial (fun hHeld1 => ?_)
                clear hHeld hK K
                have hHeld := hHeld1
                clear hHeld1
                refine wpAnyH_take (i := 7) (v := (.int .i64 (sx 8 (nval 8 (nnext 1 (some r)))))) rfl (by kernel_rfl) (by kernel_rfl) (by kernel_rfl) (fun _ _ _ h => h) (yields_conv (by kernel_rfl) 61 2 (.tmp 76) rfl (.int .u64 ((nval 8 (nnext 1 (some r)) : Nat) : Int)) (by simp [Act.eval]) (.int .i64 (sx 8 (nval 8 (nnext 1 (some r))))) (fun W _ => conv_i64 61 2 Try.underlying61 Try.underlying2 _ (by have := nval_lt 8 (nnext 1 (some r)); simp only [e8] at this; omega) W)) (by assumption) ?_
                change wpAnyH _ _ _ _ _ _ _ (Act.put _ (some (77 : Nat)) (.int .i64 (sx 8 (nval 8 (nnext 1 (some r)))))) _
                simp only [Act.put, List.setIfInBounds_toArray, List.set_cons_zero, List.set_cons_succ]
                refine wpAnyH_ready (rs := [9]) (by kernel_rfl) (by simp) ?_
                refine AllReadyH.cons rfl (fun K hK => ?_) AllReadyH.nil
                go_simp
                refine (rnumber_rs (HRn1.out) 1 rfl).mono ?_
                rintro e wa2 ⟨rfl, hr, hg⟩; have HRn2 := Lib.hid hr; have HPn2 := Lib.hid (HPn1.out.far hg (by omega)); have HOn2 := Lib.hid (HOn1.out.far hg HGN.out); have HBn2 := Lib.hid (HBn1.out.grown hg (by simp; omega)); have HZn2 := Lib.hid (HZn1.out.grown hg (by simp)); have HXn2 := Lib.hid (HXn1.out.grown hg HXn1.out.size (fun k hk => by have := Option.some.inj hk; omega)); have HSn2 := Lib.hid (Nat.le_trans HSn1.out hg.size); clear hr hg
                go_wp2_with fail
                refine hK.out _ _ trivial (fun hHeld1 => ?_)
                clear hHeld hK K
                have hHeld := hHeld1
                clear hHeld1
                refine wpAnyH_take (i := 10) (v := (.int .i64 ((nval 1 (nnext 8 (nnext 1 (some r))) : Nat) : Int))) rfl (by kernel_rfl) (by kernel_rfl) (by kernel_rfl) (fun _ _ _ h => h) (yields_conv (by kernel_rfl) 61 28 (.tmp 79) rfl (.int .u64 ((nval 1 (nnext 8 (nnext 1 (some r))) : Nat) : Int)) (by simp [Act.eval]) (.int .i64 ((nval 1 (nnext 8 (nnext 1 (some r))) : Nat) : Int)) (fun W _ => conv_small 61 28 Try.underlying61 Try.underlying28 _ (by have := nval_lt 1 (nnext 8 (nnext 1 (some r))); simp only [e1] at this; omega) W)) (by assumption) ?_
                change wpAnyH _ _ _ _ _ _ _ (Act.put _ (some (80 : Nat)) (.int .i64 ((nval 1 (nnext 8 (nnext 1 (some r))) : Nat) : Int))) _
                simp only [Act.put, List.setIfInBounds_toArray, List.set_cons_zero, List.set_cons_succ]
                obtain ⟨V, hV⟩ : ∃ V : Value, V = .agg #[.int .i64 ((nval 1 (some r) : Nat) : Int), .int .i64 (sx 8 (nval 8 (nnext 1 (some r)))), .int .i64 ((nval 1 (nnext 8 (nnext 1 (some r))) : Nat) : Int)] := ⟨_, rfl⟩
                have HV := Lib.hid hV
                clear hV
                refine wpAnyH_take (i := 11) (v := V) rfl (by kernel_rfl) (by kernel_rfl) (by kernel_rfl) (fun _ _ _ h => h) (yields_build (by kernel_rfl) 30 _ rfl _ (by simp only [List.map_toArray, List.map_cons, List.map_nil, Act.eval]; rfl) V (fun w _ => by rw [HV.out]; exact Try.build_o3 _ _ _ w)) (by assumption) ?_
                change wpAnyH _ _ _ _ _ _ _ (Act.put _ (some (81 : Nat)) V) _
                simp only [Act.put, List.setIfInBounds_toArray, List.set_cons_zero, List.set_cons_succ]
                refine wpAnyH_ready (rs := [12]) (by kernel_rfl) (by simp) ?_
                refine AllReadyH.cons (o := ⟨some 82, .buildSlice 23 1 #[(0, .tmp 81)], _, _, _, none⟩) rfl (fun K hK => ?_) AllReadyH.nil
                refine step_build_el_w rfl Try.el_oc (.tmp 81) rfl [.int .i64 ((nval 1 (some r) : Nat) : Int), .int .i64 (sx 8 (nval 8 (nnext 1 (some r)))), .int .i64 ((nval 1 (nnext 8 (nnext 1 (some r))) : Nat) : Int)] (by simp only [Act.eval]; exact HV.out) rfl ?_; intro gx wx hbx hkx; have HBx := Lib.hid hbx; have HRb := Lib.hid (HRn2.out.below hkx); have HPb := Lib.hid (HPn2.out.through hkx); have HOb := Lib.hid (HOn2.out.through hkx); have HBb := Lib.hid (HBn2.out.through hkx); have HZb := Lib.hid (HZn2.out.through hkx); have HXb := Lib.hid (below_step HXn2.out hkx); have HSb := Lib.hid (Nat.le_trans HSn2.out hkx.size); clear hbx hkx
                refine hK.out _ _ trivial (fun hHeld1 => ?_)
                clear hHeld hK K
                have hHeld := hHeld1
                clear hHeld1
                change wpAnyH _ _ _ _ _ _ _ (Act.put _ (some (82 : Nat)) (.slice (some ⟨gx, 0, none⟩) 1 1)) _
                simp only [Act.put, List.setIfInBounds_toArray, List.set_cons_zero, List.set_cons_succ]
                refine wpAnyH_ready (rs := [13]) (by kernel_rfl) (by simp) ?_
                refine AllReadyH.cons (o := ⟨some 83, .call { callee := .builtin .append, args := #[.tmp 71, .tmp 82], argTypes := #[23, 23] }, _, _, _, none⟩) rfl (fun K hK => ?_) AllReadyH.nil
                refine step_append_el rfl Try.el_oc (.tmp 71) (.tmp 82) rfl w9.heap.size _ (os0.map Oc.cells) rfl HOb.out gx [.int .i64 ((nval 1 (some r) : Nat) : Int), .int .i64 (sx 8 (nval 8 (nnext 1 (some r)))), .int .i64 ((nval 1 (nnext 8 (nnext 1 (some r))) : Nat) : Int)] rfl HBx.out rfl (fun u hu => by simp at hu; rcases hu with rfl | rfl | rfl <;> rfl) (by (try simp); omega) HSb.out ?_; intro A7 n7 c7 w7 hn7 ho7 hg7; have HW := Lib.hid (fun b hb => (HOb.out.lt b hb).1); have HRc := Lib.hid (HRb.out.other hg7 (fun b hb => ⟨by have := HW.out b hb; have := HGN.out; omega, fun h9 => by have := HW.out b hb; have := HN9.out; exact absurd (show b < w.heap.size from h9) (by omega)⟩)); have HPc := Lib.hid (HPb.out.keep (fun b hB hl hv => hg7.block b hl (fun e9 => by have := HW.out b e9.symm; have := HPN.out b hv; omega))); have HOc := Lib.hid ho7; have HBc := Lib.hid (HBb.out.grown hg7 (fun e => by have := HW.out _ e.symm; have := HN9.out; omega)); have HZc := Lib.hid (HZb.out.grown hg7 (fun e => by have := HW.out _ e.symm; have := HN9.out; omega)); have HXc := Lib.hid (HXb.out.grown hg7 HXb.out.size (fun b hb => by have := HW.out b hb; have := HN9.out; omega)); have HSc := Lib.hid (Nat.le_trans HSb.out hg7.size); clear ho7 hg7 hn7
                refine hK.out _ _ trivial (fun hHeld1 => ?_)
                clear hHeld hK K
                have hHeld := hHeld1
                clear hHeld1
                change wpAnyH _ _ _ _ _ _ _ (Act.put _ (some (83 : Nat)) (.slice A7 n7 c7)) _
                simp only [Act.put, List.setIfInBounds_toArray, List.set_cons_zero, List.set_cons_succ]
                refine wpAnyH_take (i := 14) (v := (.pointer (some ⟨w4.heap.size, 3, none⟩))) rfl (by kernel_rfl) (by kernel_rfl) (by kernel_rfl) (fun _ _ _ h => h) (Or.inl ⟨by kernel_rfl, fun w hSw => ?_⟩) (by assumption) ?_
                · (try dsimp only at hSw); go_simp <;> (try rfl)
                change wpAnyH _ _ _ _ _ _ _ (Act.put _ (some (84 : Nat)) (.pointer (some ⟨w4.heap.size, 3, none⟩))) _
                simp only [Act.put, List.setIfInBounds_toArray, List.set_cons_zero, List.set_cons_succ]
                refine wpAnyH_ready (rs := [15]) (by kernel_rfl) (by simp) ?_
                refine AllReadyH.cons (o := ⟨none, .store 23 (.tmp 84) (.tmp 83), _, _, _, none⟩) rfl (fun K hK => ?_) AllReadyH.nil
                refine step_store_cell (by simp [Region.wanted]) 23 (.tmp 84) (.tmp 83) rfl w4.heap.size 3 rfl (.slice A7 n7 c7) rfl rfl rfl (fun w => by kernel_rfl) 25 [.int .i64 sq, .int .i64 tt, .slice Av nv cv, .slice Bv mv dv] HBc.out (by simp) ?_; intro w8 hb8 hg8; have HBd : Hid (Blk w8 w4.heap.size 25 [.int .i64 sq, .int .i64 tt, .slice Av nv cv, .slice A7 n7 c7]) := Lib.hid hb8; have HRd := Lib.hid (HRc.out.other hg8 (fun b hb => ⟨by have := Option.some.inj hb; omega, fun h9 => by have := Option.some.inj hb; exact absurd (show b < w.heap.size from h9) (by omega)⟩)); have HPd := Lib.hid (HPc.out.far hg8 (by omega)); have HOd := Lib.hid (HOc.out.far hg8 (by have := HN9.out; omega)); have HZd := Lib.hid (HZc.out.grown hg8 (by simp; omega)); have HXd := Lib.hid (HXc.out.grown hg8 HXc.out.size (fun k hk => by have := Option.some.inj hk; omega)); have HSd := Lib.hid (Nat.le_trans HSc.out hg8.size); clear hb8 hg8
                refine hK.out _ _ trivial (fun hHeld1 => ?_)
                clear hHeld hK K
                have hHeld := hHeld1
                clear hHeld1
                change wpAnyH _ _ _ _ _ _ _ (Act.put _ none undef) _
                simp only [Act.put]
                refine wpAnyH_done (by kernel_rfl) ?_ _
                clear hHeld
                go_wp2
                go_roundw
                case rel => exact ⟨k, os0 ++ [(rdOc (some r)).1], A7, n7, c7, _, by simp; omega, by go_num, HO2.out, HRd.out, HPd.out, by (rw [List.map_append]; exact HOd.out), HBd.out, HZd.out, HXd.out, HSd.out⟩
                case measure => simp [intOf]
              · as_aux_lemma =>
                go_simp
                refine (rnumber_rs (HRn0.out) 8 rfl).mono ?_
                rintro e wa1 ⟨rfl, hr, hg⟩; have HRn1 := Lib.hid hr; have HPn1 := Lib.hid (HPn0.out.far hg (by omega)); have HOn1 := Lib.hid (HOn0.out.far hg HGN.out); have HBn1 := Lib.hid (HBn0.out.grown hg (by simp; omega)); have HZn1 := Lib.hid (HZn0.out.grown hg (by simp)); have HXn1 := Lib.hid (HXn0.out.grown hg HXn0.out.size (fun k hk => by have := Option.some.inj hk; omega)); have HSn1 := Lib.hid (Nat.le_trans HSn0.out hg.size); clear hr hg
                go_wp2_with fail
                refine hK.out _ _ trivial (fun hHeld1 => ?_)
                clear hHeld hK K
                have hHeld := hHeld1
                clear hHeld1
                refine wpAnyH_take (i := 7) (v := (.int .i64 (sx 8 (nval 8 (nnext 1 (some r)))))) rfl (by kernel_rfl) (by kernel_rfl) (by kernel_rfl) (fun _ _ _ h => h) (yields_conv (by kernel_rfl) 61 2 (.tmp 76) rfl (.int .u64 ((nval 8 (nnext 1 (some r)) : Nat) : Int)) (by simp [Act.eval]) (.int .i64 (sx 8 (nval 8 (nnext 1 (some r))))) (fun W _ => conv_i64 61 2 Try.underlying61 Try.underlying2 _ (by have := nval_lt 8 (nnext 1 (some r)); simp only [e8] at this; omega) W)) (by assumption) ?_
                change wpAnyH _ _ _ _ _ _ _ (Act.put _ (some (77 : Nat)) (.int .i64 (sx 8 (nval 8 (nnext 1 (some r)))))) _
                simp only [Act.put, List.setIfInBounds_toArray, List.set_cons_zero, List.set_cons_succ]
                refine wpAnyH_ready (rs := [1, 9]) (by kernel_rfl) (by simp) ?_
                refine AllReadyH.cons (o := ⟨some 71, .load 23 (.tmp 70), _, _, _, none⟩) rfl (fun K hK => ?_) (AllReadyH.cons rfl (fun K hK => ?_) AllReadyH.nil)
                · as_aux_lemma =>
                  refine step_load_at rfl 23 (.tmp 70) rfl (.pointer (some ⟨w4.heap.size, 3, none⟩)) rfl (.slice Bv mv dv) (load_one' (Try.agg_so _) (HBn1.out.cellAt rfl)) ?_
                  refine hK.out _ _ trivial (fun hHeld1 => ?_)
                  clear hHeld hK K
                  have hHeld := hHeld1
                  clear hHeld1
                  change wpAnyH _ _ _ _ _ _ _ (Act.put _ (some (71 : Nat)) (.slice Bv mv dv)) _
                  simp only [Act.put, List.setIfInBounds_toArray, List.set_cons_zero, List.set_cons_succ]
                  refine wpAnyH_ready (rs := [9]) (by kernel_rfl) (by simp) ?_
                  refine AllReadyH.cons rfl (fun K hK => ?_) AllReadyH.nil
                  go_simp
                  refine (rnumber_rs (HRn1.out) 1 rfl).mono ?_
                  rintro e wa2 ⟨rfl, hr, hg⟩; have HRn2 := Lib.hid hr; have HPn2 := Lib.hid (HPn1.out.far hg (by omega)); have HOn2 := Lib.hid (HOn1.out.far hg HGN.out); have HBn2 := Lib.hid (HBn1.out.grown hg (by simp; omega)); have HZn2 := Lib.hid (HZn1.out.grown hg (by simp)); have HXn2 := Lib.hid (HXn1.out.grown hg HXn1.out.size (fun k hk => by have := Option.some.inj hk; omega)); have HSn2 := Lib.hid (Nat.le_trans HSn1.out hg.size); clear hr hg
                  go_wp2_with fail
                  refine hK.out _ _ trivial (fun hHeld1 => ?_)
                  clear hHeld hK K
                  have hHeld := hHeld1
                  clear hHeld1
                  refine wpAnyH_take (i := 10) (v := (.int .i64 ((nval 1 (nnext 8 (nnext 1 (some r))) : Nat) : Int))) rfl (by kernel_rfl) (by kernel_rfl) (by kernel_rfl) (fun _ _ _ h => h) (yields_conv (by kernel_rfl) 61 28 (.tmp 79) rfl (.int .u64 ((nval 1 (nnext 8 (nnext 1 (some r))) : Nat) : Int)) (by simp [Act.eval]) (.int .i64 ((nval 1 (nnext 8 (nnext 1 (some r))) : Nat) : Int)) (fun W _ => conv_small 61 28 Try.underlying61 Try.underlying28 _ (by have := nval_lt 1 (nnext 8 (nnext 1 (some r))); simp only [e1] at this; omega) W)) (by assumption) ?_
                  change wpAnyH _ _ _ _ _ _ _ (Act.put _ (some (80 : Nat)) (.int .i64 ((nval 1 (nnext 8 (nnext 1 (some r))) : Nat) : Int))) _
                  simp only [Act.put, List.setIfInBounds_toArray, List.set_cons_zero, List.set_cons_succ]
                  obtain ⟨V, hV⟩ : ∃ V : Value, V = .agg #[.int .i64 ((nval 1 (some r) : Nat) : Int), .int .i64 (sx 8 (nval 8 (nnext 1 (some r)))), .int .i64 ((nval 1 (nnext 8 (nnext 1 (some r))) : Nat) : Int)] := ⟨_, rfl⟩
                  have HV := Lib.hid hV
                  clear hV
                  refine wpAnyH_take (i := 11) (v := V) rfl (by kernel_rfl) (by kernel_rfl) (by kernel_rfl) (fun _ _ _ h => h) (yields_build (by kernel_rfl) 30 _ rfl _ (by simp only [List.map_toArray, List.map_cons, List.map_nil, Act.eval]; rfl) V (fun w _ => by rw [HV.out]; exact Try.build_o3 _ _ _ w)) (by assumption) ?_
                  change wpAnyH _ _ _ _ _ _ _ (Act.put _ (some (81 : Nat)) V) _
                  simp only [Act.put, List.setIfInBounds_toArray, List.set_cons_zero, List.set_cons_succ]
                  refine wpAnyH_ready (rs := [12]) (by kernel_rfl) (by simp) ?_
                  refine AllReadyH.cons (o := ⟨some 82, .buildSlice 23 1 #[(0, .tmp 81)], _, _, _, none⟩) rfl (fun K hK => ?_) AllReadyH.nil
                  refine step_build_el_w rfl Try.el_oc (.tmp 81) rfl [.int .i64 ((nval 1 (some r) : Nat) : Int), .int .i64 (sx 8 (nval 8 (nnext 1 (some r)))), .int .i64 ((nval 1 (nnext 8 (nnext 1 (some r))) : Nat) : Int)] (by simp only [Act.eval]; exact HV.out) rfl ?_; intro gx wx hbx hkx; have HBx := Lib.hid hbx; have HRb := Lib.hid (HRn2.out.below hkx); have HPb := Lib.hid (HPn2.out.through hkx); have HOb := Lib.hid (HOn2.out.through hkx); have HBb := Lib.hid (HBn2.out.through hkx); have HZb := Lib.hid (HZn2.out.through hkx); have HXb := Lib.hid (below_step HXn2.out hkx); have HSb := Lib.hid (Nat.le_trans HSn2.out hkx.size); clear hbx hkx
                  refine hK.out _ _ trivial (fun hHeld1 => ?_)
                  clear hHeld hK K
                  have hHeld := hHeld1
                  clear hHeld1
                  change wpAnyH _ _ _ _ _ _ _ (Act.put _ (some (82 : Nat)) (.slice (some ⟨gx, 0, none⟩) 1 1)) _
                  simp only [Act.put, List.setIfInBounds_toArray, List.set_cons_zero, List.set_cons_succ]
                  refine wpAnyH_ready (rs := [13]) (by kernel_rfl) (by simp) ?_
                  refine AllReadyH.cons (o := ⟨some 83, .call { callee := .builtin .append, args := #[.tmp 71, .tmp 82], argTypes := #[23, 23] }, _, _, _, none⟩) rfl (fun K hK => ?_) AllReadyH.nil
                  refine step_append_el rfl Try.el_oc (.tmp 71) (.tmp 82) rfl w9.heap.size _ (os0.map Oc.cells) rfl HOb.out gx [.int .i64 ((nval 1 (some r) : Nat) : Int), .int .i64 (sx 8 (nval 8 (nnext 1 (some r)))), .int .i64 ((nval 1 (nnext 8 (nnext 1 (some r))) : Nat) : Int)] rfl HBx.out rfl (fun u hu => by simp at hu; rcases hu with rfl | rfl | rfl <;> rfl) (by (try simp); omega) HSb.out ?_; intro A7 n7 c7 w7 hn7 ho7 hg7; have HW := Lib.hid (fun b hb => (HOb.out.lt b hb).1); have HRc := Lib.hid (HRb.out.other hg7 (fun b hb => ⟨by have := HW.out b hb; have := HGN.out; omega, fun h9 => by have := HW.out b hb; have := HN9.out; exact absurd (show b < w.heap.size from h9) (by omega)⟩)); have HPc := Lib.hid (HPb.out.keep (fun b hB hl hv => hg7.block b hl (fun e9 => by have := HW.out b e9.symm; have := HPN.out b hv; omega))); have HOc := Lib.hid ho7; have HBc := Lib.hid (HBb.out.grown hg7 (fun e => by have := HW.out _ e.symm; have := HN9.out; omega)); have HZc := Lib.hid (HZb.out.grown hg7 (fun e => by have := HW.out _ e.symm; have := HN9.out; omega)); have HXc := Lib.hid (HXb.out.grown hg7 HXb.out.size (fun b hb => by have := HW.out b hb; have := HN9.out; omega)); have HSc := Lib.hid (Nat.le_trans HSb.out hg7.size); clear ho7 hg7 hn7
                  refine hK.out _ _ trivial (fun hHeld1 => ?_)
                  clear hHeld hK K
                  have hHeld := hHeld1
                  clear hHeld1
                  change wpAnyH _ _ _ _ _ _ _ (Act.put _ (some (83 : Nat)) (.slice A7 n7 c7)) _
                  simp only [Act.put, List.setIfInBounds_toArray, List.set_cons_zero, List.set_cons_succ]
                  refine wpAnyH_take (i := 14) (v := (.pointer (some ⟨w4.heap.size, 3, none⟩))) rfl (by kernel_rfl) (by kernel_rfl) (by kernel_rfl) (fun _ _ _ h => h) (Or.inl ⟨by kernel_rfl, fun w hSw => ?_⟩) (by assumption) ?_
                  · (try dsimp only at hSw); go_simp <;> (try rfl)
                  change wpAnyH _ _ _ _ _ _ _ (Act.put _ (some (84 : Nat)) (.pointer (some ⟨w4.heap.size, 3, none⟩))) _
                  simp only [Act.put, List.setIfInBounds_toArray, List.set_cons_zero, List.set_cons_succ]
                  refine wpAnyH_ready (rs := [15]) (by kernel_rfl) (by simp) ?_
                  refine AllReadyH.cons (o := ⟨none, .store 23 (.tmp 84) (.tmp 83), _, _, _, none⟩) rfl (fun K hK => ?_) AllReadyH.nil
                  refine step_store_cell (by simp [Region.wanted]) 23 (.tmp 84) (.tmp 83) rfl w4.heap.size 3 rfl (.slice A7 n7 c7) rfl rfl rfl (fun w => by kernel_rfl) 25 [.int .i64 sq, .int .i64 tt, .slice Av nv cv, .slice Bv mv dv] HBc.out (by simp) ?_; intro w8 hb8 hg8; have HBd : Hid (Blk w8 w4.heap.size 25 [.int .i64 sq, .int .i64 tt, .slice Av nv cv, .slice A7 n7 c7]) := Lib.hid hb8; have HRd := Lib.hid (HRc.out.other hg8 (fun b hb => ⟨by have := Option.some.inj hb; omega, fun h9 => by have := Option.some.inj hb; exact absurd (show b < w.heap.size from h9) (by omega)⟩)); have HPd := Lib.hid (HPc.out.far hg8 (by omega)); have HOd := Lib.hid (HOc.out.far hg8 (by have := HN9.out; omega)); have HZd := Lib.hid (HZc.out.grown hg8 (by simp; omega)); have HXd := Lib.hid (HXc.out.grown hg8 HXc.out.size (fun k hk => by have := Option.some.inj hk; omega)); have HSd := Lib.hid (Nat.le_trans HSc.out hg8.size); clear hb8 hg8
                  refine hK.out _ _ trivial (fun hHeld1 => ?_)
                  clear hHeld hK K
                  have hHeld := hHeld1
                  clear hHeld1
                  change wpAnyH _ _ _ _ _ _ _ (Act.put _ none undef) _
                  simp only [Act.put]
                  refine wpAnyH_done (by kernel_rfl) ?_ _
                  clear hHeld
                  go_wp2
                  go_roundw
                  case rel => exact ⟨k, os0 ++ [(rdOc (some r)).1], A7, n7, c7, _, by simp; omega, by go_num, HO2.out, HRd.out, HPd.out, by (rw [List.map_append]; exact HOd.out), HBd.out, HZd.out, HXd.out, HSd.out⟩
                  case measure => simp [intOf]
                · as_aux_lemma =>
                  go_simp
                  refine (rnumber_rs (HRn1.out) 1 rfl).mono ?_
                  rintro e wa2 ⟨rfl, hr, hg⟩; have HRn2 := Lib.hid hr; have HPn2 := Lib.hid (HPn1.out.far hg (by omega)); have HOn2 := Lib.hid (HOn1.out.far hg HGN.out); have HBn2 := Lib.hid (HBn1.out.grown hg (by simp; omega)); have HZn2 := Lib.hid (HZn1.out.grown hg (by simp)); have HXn2 := Lib.hid (HXn1.out.grown hg HXn1.out.size (fun k hk => by have := Option.some.inj hk; omega)); have HSn2 := Lib.hid (Nat.le_trans HSn1.out hg.size); clear hr hg
                  go_wp2_with fail
                  refine hK.out _ _ trivial (fun hHeld1 => ?_)
                  clear hHeld hK K
                  have hHeld := hHeld1
                  clear hHeld1
                  refine wpAnyH_take (i := 10) (v := (.int .i64 ((nval 1 (nnext 8 (nnext 1 (some r))) : Nat) : Int))) rfl (by kernel_rfl) (by kernel_rfl) (by kernel_rfl) (fun _ _ _ h => h) (yields_conv (by kernel_rfl) 61 28 (.tmp 79) rfl (.int .u64 ((nval 1 (nnext 8 (nnext 1 (some r))) : Nat) : Int)) (by simp [Act.eval]) (.int .i64 ((nval 1 (nnext 8 (nnext 1 (some r))) : Nat) : Int)) (fun W _ => conv_small 61 28 Try.underlying61 Try.underlying28 _ (by have := nval_lt 1 (nnext 8 (nnext 1 (some r))); simp only [e1] at this; omega) W)) (by assumption) ?_
                  change wpAnyH _ _ _ _ _ _ _ (Act.put _ (some (80 : Nat)) (.int .i64 ((nval 1 (nnext 8 (nnext 1 (some r))) : Nat) : Int))) _
                  simp only [Act.put, List.setIfInBounds_toArray, List.set_cons_zero, List.set_cons_succ]
                  obtain ⟨V, hV⟩ : ∃ V : Value, V = .agg #[.int .i64 ((nval 1 (some r) : Nat) : Int), .int .i64 (sx 8 (nval 8 (nnext 1 (some r)))), .int .i64 ((nval 1 (nnext 8 (nnext 1 (some r))) : Nat) : Int)] := ⟨_, rfl⟩
                  have HV := Lib.hid hV
                  clear hV
                  refine wpAnyH_take (i := 11) (v := V) rfl (by kernel_rfl) (by kernel_rfl) (by kernel_rfl) (fun _ _ _ h => h) (yields_build (by kernel_rfl) 30 _ rfl _ (by simp only [List.map_toArray, List.map_cons, List.map_nil, Act.eval]; rfl) V (fun w _ => by rw [HV.out]; exact Try.build_o3 _ _ _ w)) (by assumption) ?_
                  change wpAnyH _ _ _ _ _ _ _ (Act.put _ (some (81 : Nat)) V) _
                  simp only [Act.put, List.setIfInBounds_toArray, List.set_cons_zero, List.set_cons_succ]
                  refine wpAnyH_ready (rs := [1, 12]) (by kernel_rfl) (by simp) ?_
                  refine AllReadyH.cons (o := ⟨some 71, .load 23 (.tmp 70), _, _, _, none⟩) rfl (fun K hK => ?_) (AllReadyH.cons (o := ⟨some 82, .buildSlice 23 1 #[(0, .tmp 81)], _, _, _, none⟩) rfl (fun K hK => ?_) AllReadyH.nil)
                  · as_aux_lemma =>
                    refine step_load_at rfl 23 (.tmp 70) rfl (.pointer (some ⟨w4.heap.size, 3, none⟩)) rfl (.slice Bv mv dv) (load_one' (Try.agg_so _) (HBn2.out.cellAt rfl)) ?_
                    refine hK.out _ _ trivial (fun hHeld1 => ?_)
                    clear hHeld hK K
                    have hHeld := hHeld1
                    clear hHeld1
                    change wpAnyH _ _ _ _ _ _ _ (Act.put _ (some (71 : Nat)) (.slice Bv mv dv)) _
                    simp only [Act.put, List.setIfInBounds_toArray, List.set_cons_zero, List.set_cons_succ]
                    refine wpAnyH_ready (rs := [12]) (by kernel_rfl) (by simp) ?_
                    refine AllReadyH.cons (o := ⟨some 82, .buildSlice 23 1 #[(0, .tmp 81)], _, _, _, none⟩) rfl (fun K hK => ?_) AllReadyH.nil
                    refine step_build_el_w rfl Try.el_oc (.tmp 81) rfl [.int .i64 ((nval 1 (some r) : Nat) : Int), .int .i64 (sx 8 (nval 8 (nnext 1 (some r)))), .int .i64 ((nval 1 (nnext 8 (nnext 1 (some r))) : Nat) : Int)] (by simp only [Act.eval]; exact HV.out) rfl ?_; intro gx wx hbx hkx; have HBx := Lib.hid hbx; have HRb := Lib.hid (HRn2.out.below hkx); have HPb := Lib.hid (HPn2.out.through hkx); have HOb := Lib.hid (HOn2.out.through hkx); have HBb := Lib.hid (HBn2.out.through hkx); have HZb := Lib.hid (HZn2.out.through hkx); have HXb := Lib.hid (below_step HXn2.out hkx); have HSb := Lib.hid (Nat.le_trans HSn2.out hkx.size); clear hbx hkx
                    refine hK.out _ _ trivial (fun hHeld1 => ?_)
                    clear hHeld hK K
                    have hHeld := hHeld1
                    clear hHeld1
                    change wpAnyH _ _ _ _ _ _ _ (Act.put _ (some (82 : Nat)) (.slice (some ⟨gx, 0, none⟩) 1 1)) _
                    simp only [Act.put, List.setIfInBounds_toArray, List.set_cons_zero, List.set_cons_succ]
                    refine wpAnyH_ready (rs := [13]) (by kernel_rfl) (by simp) ?_
                    refine AllReadyH.cons (o := ⟨some 83, .call { callee := .builtin .append, args := #[.tmp 71, .tmp 82], argTypes := #[23, 23] }, _, _, _, none⟩) rfl (fun K hK => ?_) AllReadyH.nil
                    refine step_append_el rfl Try.el_oc (.tmp 71) (.tmp 82) rfl w9.heap.size _ (os0.map Oc.cells) rfl HOb.out gx [.int .i64 ((nval 1 (some r) : Nat) : Int), .int .i64 (sx 8 (nval 8 (nnext 1 (some r)))), .int .i64 ((nval 1 (nnext 8 (nnext 1 (some r))) : Nat) : Int)] rfl HBx.out rfl (fun u hu => by simp at hu; rcases hu with rfl | rfl | rfl <;> rfl) (by (try simp); omega) HSb.out ?_; intro A7 n7 c7 w7 hn7 ho7 hg7; have HW := Lib.hid (fun b hb => (HOb.out.lt b hb).1); have HRc := Lib.hid (HRb.out.other hg7 (fun b hb => ⟨by have := HW.out b hb; have := HGN.out; omega, fun h9 => by have := HW.out b hb; have := HN9.out; exact absurd (show b < w.heap.size from h9) (by omega)⟩)); have HPc := Lib.hid (HPb.out.keep (fun b hB hl hv => hg7.block b hl (fun e9 => by have := HW.out b e9.symm; have := HPN.out b hv; omega))); have HOc := Lib.hid ho7; have HBc := Lib.hid (HBb.out.grown hg7 (fun e => by have := HW.out _ e.symm; have := HN9.out; omega)); have HZc := Lib.hid (HZb.out.grown hg7 (fun e => by have := HW.out _ e.symm; have := HN9.out; omega)); have HXc := Lib.hid (HXb.out.grown hg7 HXb.out.size (fun b hb => by have := HW.out b hb; have := HN9.out; omega)); have HSc := Lib.hid (Nat.le_trans HSb.out hg7.size); clear ho7 hg7 hn7
                    refine hK.out _ _ trivial (fun hHeld1 => ?_)
                    clear hHeld hK K
                    have hHeld := hHeld1
                    clear hHeld1
                    change wpAnyH _ _ _ _ _ _ _ (Act.put _ (some (83 : Nat)) (.slice A7 n7 c7)) _
                    simp only [Act.put, List.setIfInBounds_toArray, List.set_cons_zero, List.set_cons_succ]
                    refine wpAnyH_take (i := 14) (v := (.pointer (some ⟨w4.heap.size, 3, none⟩))) rfl (by kernel_rfl) (by kernel_rfl) (by kernel_rfl) (fun _ _ _ h => h) (Or.inl ⟨by kernel_rfl, fun w hSw => ?_⟩) (by assumption) ?_
                    · (try dsimp only at hSw); go_simp <;> (try rfl)
                    change wpAnyH _ _ _ _ _ _ _ (Act.put _ (some (84 : Nat)) (.pointer (some ⟨w4.heap.size, 3, none⟩))) _
                    simp only [Act.put, List.setIfInBounds_toArray, List.set_cons_zero, List.set_cons_succ]
                    refine wpAnyH_ready (rs := [15]) (by kernel_rfl) (by simp) ?_
                    refine AllReadyH.cons (o := ⟨none, .store 23 (.tmp 84) (.tmp 83), _, _, _, none⟩) rfl (fun K hK => ?_) AllReadyH.nil
                    refine step_store_cell (by simp [Region.wanted]) 23 (.tmp 84) (.tmp 83) rfl w4.heap.size 3 rfl (.slice A7 n7 c7) rfl rfl rfl (fun w => by kernel_rfl) 25 [.int .i64 sq, .int .i64 tt, .slice Av nv cv, .slice Bv mv dv] HBc.out (by simp) ?_; intro w8 hb8 hg8; have HBd : Hid (Blk w8 w4.heap.size 25 [.int .i64 sq, .int .i64 tt, .slice Av nv cv, .slice A7 n7 c7]) := Lib.hid hb8; have HRd := Lib.hid (HRc.out.other hg8 (fun b hb => ⟨by have := Option.some.inj hb; omega, fun h9 => by have := Option.some.inj hb; exact absurd (show b < w.heap.size from h9) (by omega)⟩)); have HPd := Lib.hid (HPc.out.far hg8 (by omega)); have HOd := Lib.hid (HOc.out.far hg8 (by have := HN9.out; omega)); have HZd := Lib.hid (HZc.out.grown hg8 (by simp; omega)); have HXd := Lib.hid (HXc.out.grown hg8 HXc.out.size (fun k hk => by have := Option.some.inj hk; omega)); have HSd := Lib.hid (Nat.le_trans HSc.out hg8.size); clear hb8 hg8
                    refine hK.out _ _ trivial (fun hHeld1 => ?_)
                    clear hHeld hK K
                    have hHeld := hHeld1
                    clear hHeld1
                    change wpAnyH _ _ _ _ _ _ _ (Act.put _ none undef) _
                    simp only [Act.put]
                    refine wpAnyH_done (by kernel_rfl) ?_ _
                    clear hHeld
                    go_wp2
                    go_roundw
                    case rel => exact ⟨k, os0 ++ [(rdOc (some r)).1], A7, n7, c7, _, by simp; omega, by go_num, HO2.out, HRd.out, HPd.out, by (rw [List.map_append]; exact HOd.out), HBd.out, HZd.out, HXd.out, HSd.out⟩
                    case measure => simp [intOf]
                  · as_aux_lemma =>
                    refine step_build_el_w rfl Try.el_oc (.tmp 81) rfl [.int .i64 ((nval 1 (some r) : Nat) : Int), .int .i64 (sx 8 (nval 8 (nnext 1 (some r)))), .int .i64 ((nval 1 (nnext 8 (nnext 1 (some r))) : Nat) : Int)] (by simp only [Act.eval]; exact HV.out) rfl ?_; intro gx wx hbx hkx; have HBx := Lib.hid hbx; have HRb := Lib.hid (HRn2.out.below hkx); have HPb := Lib.hid (HPn2.out.through hkx); have HOb := Lib.hid (HOn2.out.through hkx); have HBb := Lib.hid (HBn2.out.through hkx); have HZb := Lib.hid (HZn2.out.through hkx); have HXb := Lib.hid (below_step HXn2.out hkx); have HSb := Lib.hid (Nat.le_trans HSn2.out hkx.size); clear hbx hkx
                    refine hK.out _ _ trivial (fun hHeld1 => ?_)
                    clear hHeld hK K
                    have hHeld := hHeld1
                    clear hHeld1
                    change wpAnyH _ _ _ _ _ _ _ (Act.put _ (some (82 : Nat)) (.slice (some ⟨gx, 0, none⟩) 1 1)) _
                    simp only [Act.put, List.setIfInBounds_toArray, List.set_cons_zero, List.set_cons_succ]
                    refine wpAnyH_ready (rs := [1]) (by kernel_rfl) (by simp) ?_
                    refine AllReadyH.cons (o := ⟨some 71, .load 23 (.tmp 70), _, _, _, none⟩) rfl (fun K hK => ?_) AllReadyH.nil
                    refine step_load_at rfl 23 (.tmp 70) rfl (.pointer (some ⟨w4.heap.size, 3, none⟩)) rfl (.slice Bv mv dv) (load_one' (Try.agg_so _) (HBb.out.cellAt rfl)) ?_
                    refine hK.out _ _ trivial (fun hHeld1 => ?_)
                    clear hHeld hK K
                    have hHeld := hHeld1
                    clear hHeld1
                    change wpAnyH _ _ _ _ _ _ _ (Act.put _ (some (71 : Nat)) (.slice Bv mv dv)) _
                    simp only [Act.put, List.setIfInBounds_toArray, List.set_cons_zero, List.set_cons_succ]
                    refine wpAnyH_ready (rs := [13]) (by kernel_rfl) (by simp) ?_
                    refine AllReadyH.cons (o := ⟨some 83, .call { callee := .builtin .append, args := #[.tmp 71, .tmp 82], argTypes := #[23, 23] }, _, _, _, none⟩) rfl (fun K hK => ?_) AllReadyH.nil
                    refine step_append_el rfl Try.el_oc (.tmp 71) (.tmp 82) rfl w9.heap.size _ (os0.map Oc.cells) rfl HOb.out gx [.int .i64 ((nval 1 (some r) : Nat) : Int), .int .i64 (sx 8 (nval 8 (nnext 1 (some r)))), .int .i64 ((nval 1 (nnext 8 (nnext 1 (some r))) : Nat) : Int)] rfl HBx.out rfl (fun u hu => by simp at hu; rcases hu with rfl | rfl | rfl <;> rfl) (by (try simp); omega) HSb.out ?_; intro A7 n7 c7 w7 hn7 ho7 hg7; have HW := Lib.hid (fun b hb => (HOb.out.lt b hb).1); have HRc := Lib.hid (HRb.out.other hg7 (fun b hb => ⟨by have := HW.out b hb; have := HGN.out; omega, fun h9 => by have := HW.out b hb; have := HN9.out; exact absurd (show b < w.heap.size from h9) (by omega)⟩)); have HPc := Lib.hid (HPb.out.keep (fun b hB hl hv => hg7.block b hl (fun e9 => by have := HW.out b e9.symm; have := HPN.out b hv; omega))); have HOc := Lib.hid ho7; have HBc := Lib.hid (HBb.out.grown hg7 (fun e => by have := HW.out _ e.symm; have := HN9.out; omega)); have HZc := Lib.hid (HZb.out.grown hg7 (fun e => by have := HW.out _ e.symm; have := HN9.out; omega)); have HXc := Lib.hid (HXb.out.grown hg7 HXb.out.size (fun b hb => by have := HW.out b hb; have := HN9.out; omega)); have HSc := Lib.hid (Nat.le_trans HSb.out hg7.size); clear ho7 hg7 hn7
                    refine hK.out _ _ trivial (fun hHeld1 => ?_)
                    clear hHeld hK K
                    have hHeld := hHeld1
                    clear hHeld1
                    change wpAnyH _ _ _ _ _ _ _ (Act.put _ (some (83 : Nat)) (.slice A7 n7 c7)) _
                    simp only [Act.put, List.setIfInBounds_toArray, List.set_cons_zero, List.set_cons_succ]
                    refine wpAnyH_take (i := 14) (v := (.pointer (some ⟨w4.heap.size, 3, none⟩))) rfl (by kernel_rfl) (by kernel_rfl) (by kernel_rfl) (fun _ _ _ h => h) (Or.inl ⟨by kernel_rfl, fun w hSw => ?_⟩) (by assumption) ?_
                    · (try dsimp only at hSw); go_simp <;> (try rfl)
                    change wpAnyH _ _ _ _ _ _ _ (Act.put _ (some (84 : Nat)) (.pointer (some ⟨w4.heap.size, 3, none⟩))) _
                    simp only [Act.put, List.setIfInBounds_toArray, List.set_cons_zero, List.set_cons_succ]
                    refine wpAnyH_ready (rs := [15]) (by kernel_rfl) (by simp) ?_
                    refine AllReadyH.cons (o := ⟨none, .store 23 (.tmp 84) (.tmp 83), _, _, _, none⟩) rfl (fun K hK => ?_) AllReadyH.nil
                    refine step_store_cell (by simp [Region.wanted]) 23 (.tmp 84) (.tmp 83) rfl w4.heap.size 3 rfl (.slice A7 n7 c7) rfl rfl rfl (fun w => by kernel_rfl) 25 [.int .i64 sq, .int .i64 tt, .slice Av nv cv, .slice Bv mv dv] HBc.out (by simp) ?_; intro w8 hb8 hg8; have HBd : Hid (Blk w8 w4.heap.size 25 [.int .i64 sq, .int .i64 tt, .slice Av nv cv, .slice A7 n7 c7]) := Lib.hid hb8; have HRd := Lib.hid (HRc.out.other hg8 (fun b hb => ⟨by have := Option.some.inj hb; omega, fun h9 => by have := Option.some.inj hb; exact absurd (show b < w.heap.size from h9) (by omega)⟩)); have HPd := Lib.hid (HPc.out.far hg8 (by omega)); have HOd := Lib.hid (HOc.out.far hg8 (by have := HN9.out; omega)); have HZd := Lib.hid (HZc.out.grown hg8 (by simp; omega)); have HXd := Lib.hid (HXc.out.grown hg8 HXc.out.size (fun k hk => by have := Option.some.inj hk; omega)); have HSd := Lib.hid (Nat.le_trans HSc.out hg8.size); clear hb8 hg8
                    refine hK.out _ _ trivial (fun hHeld1 => ?_)
                    clear hHeld hK K
                    have hHeld := hHeld1
                    clear hHeld1
                    change wpAnyH _ _ _ _ _ _ _ (Act.put _ none undef) _
                    simp only [Act.put]
                    refine wpAnyH_done (by kernel_rfl) ?_ _
                    clear hHeld
                    go_wp2
                    go_roundw
                    case rel => exact ⟨k, os0 ++ [(rdOc (some r)).1], A7, n7, c7, _, by simp; omega, by go_num, HO2.out, HRd.out, HPd.out, by (rw [List.map_append]; exact HOd.out), HBd.out, HZd.out, HXd.out, HSd.out⟩
                    case measure => simp [intOf]
    case rest =>
      obtain ⟨os0, Bv, mv, dv, st, hl4, rfl, hr, hp, ho, hb, h0, hx, hs⟩ := hcut
      have HRz := Lib.hid hr; have HPz := Lib.hid hp; have HOz := Lib.hid ho; have HBz := Lib.hid hb; have HZz := Lib.hid h0; have HXz := Lib.hid hx
      have hrt : Calls Try.prog 22 #[.agg #[.int .i64 sq, .int .i64 tt, .slice Av nv cv, .slice Bv mv dv]] wc fun e w' => e = .returned (.bool (Lg.right ⟨sq, tt, ls0, os0⟩)) ∧ Below wc.heap.size wc w' := by
        have hI : LgIn wc Av nv Bv mv ⟨sq, tt, ls0, os0⟩ := ⟨hp.sl rfl, ho.sl rfl⟩
        have hl := hI.len
        refine rright_any ⟨sq, tt, ls0, os0⟩ Av nv cv Bv mv dv wc hI (by have := hl.1; simp only at this; omega) (by have := hl.2; simp only at this; omega) (fun x hx9 => ?_)
        have h9 := HL.out
        have h8 : x ∈ (rdMany rdLt (cval 16 (nnext 8 (nnext 8 (some xs)))) (cnext 16 (nnext 8 (nnext 8 (some xs))))).1 := by rw [h9]; exact hx9
        exact Nat.le_trans (rdMany_mem (p := fun y : Lt => y.nm.length ≤ 16) (fun s => rval_le 16 s) _ _ x h8) (by omega)
      clear hr hp ho hb h0 hx hs
      by_cases hst : st = some []
      · cases hq : Lg.right ⟨sq, tt, ls0, os0⟩ with
        | true =>
          have hpb : bb = (⟨sq, tt, ls0, os0⟩, true) := by rw [← HBB.out]; exact parseB_yes (by rw [HRD2.out, hst]) hq
          subst hpb
          rw [hq] at hrt
          have HRt := Lib.hid hrt
          have HST := Lib.hid hst
          clear hrt hst hq
          go_wp2_with (first
            | (go_at_call 64; (refine (rend_rs HRz.out).mono ?_); rintro e w10 ⟨x, rfl, hx, rfl⟩; have hx0 : x = 0 := hx.2 HST.out; subst hx0; clear hx)
            | (refine wpList_load_blk_g 25 (.tmp 5) rfl (by kernel_rfl) w4.heap.size rfl 25 [.int .i64 sq, .int .i64 tt, .slice Av nv cv, .slice Bv mv dv] _ HBz.out Try.underlying25 rfl (by kernel_rfl) ?_)
            | (go_at_call 22; (with_reducible refine (HRt.out).mono ?_); rintro e w11 ⟨rfl, hb⟩; have HX11 := Lib.hid (below_step HXz.out hb); have HB11 := Lib.hid (HBz.out.through hb); have HZ11 := Lib.hid (HZz.out.through hb); have HP11 := Lib.hid (HPz.out.through hb); have HO11 := Lib.hid (HOz.out.through hb); clear hb)
            | (refine wpList_load_blk rfl 25 (.tmp 5) rfl w4.heap.size rfl 25 [.int .i64 sq, .int .i64 tt, .slice Av nv cv, .slice Bv mv dv] _ HB11.out Try.underlying25 rfl (by kernel_rfl) ?_)
            | (refine wpList_store_blk rfl 25 (.tmp 2) (.tmp 94) rfl w.heap.size [.int .i64 sq, .int .i64 tt, .slice Av nv cv, .slice Bv mv dv] rfl rfl 25 [.int .i64 0, .int .i64 0, .slice none 0 0, .slice none 0 0] HZ11.out (by kernel_rfl) rfl (one4 _ _ _ _ _ _ _ _) ?_; intro wy hby hgy; have HBy := Lib.hid hby; have HXy : Hid (Below w.heap.size w wy) := Lib.hid (HX11.out.grown hgy HX11.out.size (fun k hk => by have := Option.some.inj hk; omega)); have HGy := Lib.hid hgy; clear hby hgy))
          (try simp only [Exit.inBlock, Exit.then]); refine bodyPost_ret (results_cell_row_tmp1 rfl _ _ w.heap.size 25 _ (0, 0) _ rfl HBy.out Try.underlying25 rfl (by kernel_rfl)) rfl ?_
          exact ⟨Av, nv, cv, Bv, mv, dv, rfl, ⟨(HP11.out.far HGy.out (by omega)).sl rfl, (HO11.out.far HGy.out (by have := HN9.out; omega)).sl rfl⟩, HXy.out⟩
        | false =>
          have hpb : bb = (Lg.no, false) := by rw [← HBB.out]; exact parseB_no HRD2.out (.inr hq)
          subst hpb
          rw [hq] at hrt
          have HRt := Lib.hid hrt
          have HST := Lib.hid hst
          clear hrt hst hq
          go_wp2_with (first
            | (go_at_call 64; (refine (rend_rs HRz.out).mono ?_); rintro e w10 ⟨x, rfl, hx, rfl⟩; have hx0 : x = 0 := hx.2 HST.out; subst hx0; clear hx)
            | (refine wpList_load_blk_g 25 (.tmp 5) rfl (by kernel_rfl) w4.heap.size rfl 25 [.int .i64 sq, .int .i64 tt, .slice Av nv cv, .slice Bv mv dv] _ HBz.out Try.underlying25 rfl (by kernel_rfl) ?_)
            | (go_at_call 22; (with_reducible refine (HRt.out).mono ?_); rintro e w11 ⟨rfl, hb⟩; have HX11 := Lib.hid (below_step HXz.out hb); have HB11 := Lib.hid (HBz.out.through hb); have HZ11 := Lib.hid (HZz.out.through hb); have HP11 := Lib.hid (HPz.out.through hb); have HO11 := Lib.hid (HOz.out.through hb); clear hb)
            | (refine wpList_store_blk rfl 25 (.tmp 2) (.tmp 93) rfl w.heap.size [.int .i64 0, .int .i64 0, .slice none 0 0, .slice none 0 0] rfl rfl 25 [.int .i64 0, .int .i64 0, .slice none 0 0, .slice none 0 0] HZ11.out (by kernel_rfl) rfl (one4 _ _ _ _ _ _ _ _) ?_; intro wy hby hgy; have HBy := Lib.hid hby; have HXy : Hid (Below w.heap.size w wy) := Lib.hid (HX11.out.grown hgy HX11.out.size (fun k hk => by have := Option.some.inj hk; omega)); have HGy := Lib.hid hgy; clear hby hgy))
          (try simp only [Exit.inBlock, Exit.then]); refine bodyPost_ret (results_cell_row_tmp1 rfl _ _ w.heap.size 25 _ (0, 0) _ rfl HBy.out Try.underlying25 rfl (by kernel_rfl)) rfl ?_
          exact ⟨none, 0, 0, none, 0, 0, rfl, ⟨Sl.none_, Sl.none_⟩, HXy.out⟩
      · have hpb : bb = (Lg.no, false) := by rw [← HBB.out]; exact parseB_no HRD2.out (.inl hst)
        subst hpb
        have HST := Lib.hid hst
        clear hrt hst
        go_wp2_with (first
          | (go_at_call 64; (refine (rend_rs HRz.out).mono ?_); rintro e w10 ⟨x, rfl, hx, rfl⟩; have hx0 : ¬ x = 0 := (fun h9 => HST.out (hx.1 h9)); have hxb : (x == 0) = false := (by simpa using hx0); have hxd : (x != 0) = true := (by simpa using hx0); clear hx hx0)
          | (refine wpList_store_blk rfl 25 (.tmp 2) (.tmp 93) rfl w.heap.size [.int .i64 0, .int .i64 0, .slice none 0 0, .slice none 0 0] rfl rfl 25 [.int .i64 0, .int .i64 0, .slice none 0 0, .slice none 0 0] HZz.out (by kernel_rfl) rfl (one4 _ _ _ _ _ _ _ _) ?_; intro wy hby hgy; have HBy := Lib.hid hby; have HXy : Hid (Below w.heap.size w wy) := Lib.hid (HXz.out.grown hgy HXz.out.size (fun k hk => by have := Option.some.inj hk; omega)); have HGy := Lib.hid hgy; clear hby hgy))
        (try simp only [Exit.inBlock, Exit.then]); refine bodyPost_ret (results_cell_row_tmp1 rfl _ _ w.heap.size 25 _ (0, 0) _ rfl HBy.out Try.underlying25 rfl (by kernel_rfl)) rfl ?_
        exact ⟨none, 0, 0, none, 0, 0, rfl, ⟨Sl.none_, Sl.none_⟩, HXy.out⟩

end Go.Proofs.Ytkbeodlihmmdbaa
