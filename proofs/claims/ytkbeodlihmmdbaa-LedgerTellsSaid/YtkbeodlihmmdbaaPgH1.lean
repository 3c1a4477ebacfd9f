/-
  The program's readLetter, readOutcome.
-/
import Derived.Test.YtkbeodlihmmdbaaPgP
import Derived.Test.YtkbeodlihmmdbaaLgQ
namespace Go.Proofs.Ytkbeodlihmmdbaa
open Go.RowKit

/-- A reader's bytes lie where blocks are already. -/
theorem Rs.lt_ {Q : Nat → Prop} {w : World} {g : Nat} {t : TypeId} {st : Option (List UInt8)} (h : Rs Q w g t st) : Rs (fun b => b < w.heap.size) w g t st := by
  obtain ⟨xs, er, ⟨A, n, c, h1, h2, h3, h4⟩, hs, hl⟩ := h
  exact ⟨xs, er, ⟨A, n, c, h1, h2, h3, fun h0 => (h4 h0).lt.weak fun _ h => h.2⟩, hs, hl⟩

set_option maxHeartbeats 8000000 in
set_option maxRecDepth 100000 in
theorem readletter_any {Q : Nat → Prop} (g : Nat) (st : Option (List UInt8)) (w : World) (h : Rs Q w g tR st) (hQ : ∀ b, Q b → b < w.heap.size) :
    Calls Try.prog 55 #[.pointer (some ⟨g, 0, none⟩)] w fun e w' => e = .returned (.agg (rdLt st).1.cells.toArray) ∧ Rs Q w' g tR (rdLt st).2 ∧ w.grownBy w' (some g) := by
  have hz := Try.zero_lt
  obtain ⟨gz, hgz⟩ : ∃ gz, w.heap.size = gz := ⟨_, rfl⟩
  have HGZ := Lib.hid hgz
  have HQ := Lib.hid hQ
  have HNE : Hid (gz ≠ g) := Lib.hid (by have := h.lt; omega)
  have HR1 : Hid (Rs Q (w.alloc (.cells #[.string (ba []), .int .i64 0, .int .i64 0, .int .i64 0, .string (ba []), .string (ba [])] 27)) g tR st) := Lib.hid (h.alloc _)
  have HX1 : Hid (Below w.heap.size w (w.alloc (.cells #[.string (ba []), .int .i64 0, .int .i64 0, .int .i64 0, .string (ba []), .string (ba [])] 27))) := Lib.hid (below1 w _)
  have HB1 : Hid (Blk (w.alloc (.cells #[.string (ba []), .int .i64 0, .int .i64 0, .int .i64 0, .string (ba []), .string (ba [])] 27)) gz 27 [.string (ba []), .int .i64 0, .int .i64 0, .int .i64 0, .string (ba []), .string (ba [])]) := Lib.hid (Blk.fresh hgz.symm rfl)
  clear h hQ
  go_enter Try.func55, Try.ntmps55
  go_wp2
  try dsimp only [Act.put]
  clear hgz
  generalize w.alloc (.cells #[.string (ba []), .int .i64 0, .int .i64 0, .int .i64 0, .string (ba []), .string (ba [])] 27) = w1 at *
  refine wp_region_held_drew (S := fun W => w.grownBy W (some g)) (by kernel_rfl) (only_below HX1.out.drew) (fun hHeld => ?_)
  change wpAnyH _ _ _ _ _ _ #[false, false, false, false, false, false, false, false, false, false, false, false, false, false, false, false, false, false, false, false] _ _
  refine wpAnyH_take (i := 0) (v := (.pointer (some ⟨g, 0, none⟩))) rfl (by kernel_rfl) (by kernel_rfl) (by kernel_rfl) (fun _ _ _ h => h) (Or.inl ⟨by kernel_rfl, fun w hSw => ?_⟩) (by assumption) ?_
  · (try dsimp only at hSw); go_simp <;> (try rfl)
  change wpAnyH _ _ _ _ _ _ _ (Act.put _ (some (3 : Nat)) (.pointer (some ⟨g, 0, none⟩))) _
  simp only [Act.put, List.setIfInBounds_toArray, List.set_cons_zero, List.set_cons_succ]
  refine wpAnyH_take (i := 3) (v := (.pointer (some ⟨g, 0, none⟩))) rfl (by kernel_rfl) (by kernel_rfl) (by kernel_rfl) (fun _ _ _ h => h) (Or.inl ⟨by kernel_rfl, fun w hSw => ?_⟩) (by assumption) ?_
  · (try dsimp only at hSw); go_simp <;> (try rfl)
  change wpAnyH _ _ _ _ _ _ _ (Act.put _ (some (6 : Nat)) (.pointer (some ⟨g, 0, none⟩))) _
  simp only [Act.put, List.setIfInBounds_toArray, List.set_cons_zero, List.set_cons_succ]
  refine wpAnyH_take (i := 6) (v := (.pointer (some ⟨g, 0, none⟩))) rfl (by kernel_rfl) (by kernel_rfl) (by kernel_rfl) (fun _ _ _ h => h) (Or.inl ⟨by kernel_rfl, fun w hSw => ?_⟩) (by assumption) ?_
  · (try dsimp only at hSw); go_simp <;> (try rfl)
  change wpAnyH _ _ _ _ _ _ _ (Act.put _ (some (9 : Nat)) (.pointer (some ⟨g, 0, none⟩))) _
  simp only [Act.put, List.setIfInBounds_toArray, List.set_cons_zero, List.set_cons_succ]
  refine wpAnyH_take (i := 9) (v := (.pointer (some ⟨g, 0, none⟩))) rfl (by kernel_rfl) (by kernel_rfl) (by kernel_rfl) (fun _ _ _ h => h) (Or.inl ⟨by kernel_rfl, fun w hSw => ?_⟩) (by assumption) ?_
  · (try dsimp only at hSw); go_simp <;> (try rfl)
  change wpAnyH _ _ _ _ _ _ _ (Act.put _ (some (12 : Nat)) (.pointer (some ⟨g, 0, none⟩))) _
  simp only [Act.put, List.setIfInBounds_toArray, List.set_cons_zero, List.set_cons_succ]
  refine wpAnyH_take (i := 12) (v := (.pointer (some ⟨g, 0, none⟩))) rfl (by kernel_rfl) (by kernel_rfl) (by kernel_rfl) (fun _ _ _ h => h) (Or.inl ⟨by kernel_rfl, fun w hSw => ?_⟩) (by assumption) ?_
  · (try dsimp only at hSw); go_simp <;> (try rfl)
  change wpAnyH _ _ _ _ _ _ _ (Act.put _ (some (15 : Nat)) (.pointer (some ⟨g, 0, none⟩))) _
  simp only [Act.put, List.setIfInBounds_toArray, List.set_cons_zero, List.set_cons_succ]
  refine wpAnyH_take (i := 15) (v := (.pointer (some ⟨g, 0, none⟩))) rfl (by kernel_rfl) (by kernel_rfl) (by kernel_rfl) (fun _ _ _ h => h) (Or.inl ⟨by kernel_rfl, fun w hSw => ?_⟩) (by assumption) ?_
  · (try dsimp only at hSw); go_simp <;> (try rfl)
  change wpAnyH _ _ _ _ _ _ _ (Act.put _ (some (18 : Nat)) (.pointer (some ⟨g, 0, none⟩))) _
  simp only [Act.put, List.setIfInBounds_toArray, List.set_cons_zero, List.set_cons_succ]
  refine wpAnyH_ready (rs := [1]) (by kernel_rfl) (by simp) ?_
  refine AllReadyH.cons rfl (fun K hK => ?_) AllReadyH.nil
  go_simp
  refine (row_rs (HR1.out.drew) 16).mono ?_
  rintro e wa0 ⟨Ba0, ma0, ca0, rfl, hy0, hr0, hg0⟩; have HRa0 := Lib.hid hr0; have HGa0 := Lib.hid hg0; have HBa0 := Lib.hid ((HB1.out.drew).grown hg0 (fun e => HNE.out (Option.some.inj e))); have HYa0 := Lib.hid hy0; clear hr0 hg0 hy0
  go_wp2_with fail
  refine hK.out _ _ (only_trans hHeld HGa0.out) (fun hHeld1 => ?_)
  clear hHeld hK K
  have hHeld := hHeld1
  clear hHeld1
  refine wpAnyH_weaken (S' := fun W => (w.grownBy W (some g)) ∧ By W (fun _ => True) Ba0 ma0 (rval 16 st)) (fun W h => h.1) _ _ _ _ ?_
  have hHeld2 := And.intro hHeld HYa0.out
  clear hHeld
  have hHeld := hHeld2
  clear hHeld2
  refine wpAnyH_take (i := 2) (v := (.string (ba (rval 16 st)))) rfl (by kernel_rfl) (by kernel_rfl) (by kernel_rfl) (fun _ _ _ h => h) (yields_conv (by kernel_rfl) 43 9 (.tmp 4) rfl (.slice Ba0 ma0 ca0) (by simp [Act.eval]) (.string (ba (rval 16 st))) (fun W hW => run_string_by W 43 9 5 Try.underlying43 Try.underlying5 Try.underlying9 _ _ _ _ _ hW.2)) (by assumption) ?_
  change wpAnyH _ _ _ _ _ _ _ (Act.put _ (some (5 : Nat)) (.string (ba (rval 16 st)))) _
  simp only [Act.put, List.setIfInBounds_toArray, List.set_cons_zero, List.set_cons_succ]
  refine wpAnyH_ready (rs := [4]) (by kernel_rfl) (by simp) ?_
  refine AllReadyH.cons rfl (fun K hK => ?_) AllReadyH.nil
  go_simp
  refine (number_rs (HRa0.out) 1 rfl).mono ?_
  rintro e wa1 ⟨rfl, hr1, hg1⟩; have HRa1 := Lib.hid hr1; have HGa1 := Lib.hid hg1; have HBa1 := Lib.hid ((HBa0.out).grown hg1 (fun e => HNE.out (Option.some.inj e))); clear hr1 hg1
  go_wp2_with fail
  refine hK.out _ _ ⟨(only_trans hHeld.1 HGa1.out), (HRa0.out).by_keep hHeld.2 HGa1.out⟩ (fun hHeld1 => ?_)
  clear hHeld hK K
  have hHeld := hHeld1
  clear hHeld1
  refine wpAnyH_take (i := 5) (v := (.int .i64 ((nval 1 (rnext 16 st) : Nat) : Int))) rfl (by kernel_rfl) (by kernel_rfl) (by kernel_rfl) (fun _ _ _ h => h) (yields_conv (by kernel_rfl) 61 3 (.tmp 7) rfl (.int .u64 ((nval 1 (rnext 16 st) : Nat) : Int)) (by simp [Act.eval]) (.int .i64 ((nval 1 (rnext 16 st) : Nat) : Int)) (fun W _ => conv_small 61 3 Try.underlying61 Try.underlying3 _ (by have := nval_lt 1 (rnext 16 st); simp only [e1] at this; omega) W)) (by assumption) ?_
  change wpAnyH _ _ _ _ _ _ _ (Act.put _ (some (8 : Nat)) (.int .i64 ((nval 1 (rnext 16 st) : Nat) : Int))) _
  simp only [Act.put, List.setIfInBounds_toArray, List.set_cons_zero, List.set_cons_succ]
  refine wpAnyH_ready (rs := [7]) (by kernel_rfl) (by simp) ?_
  refine AllReadyH.cons rfl (fun K hK => ?_) AllReadyH.nil
  go_simp
  refine (number_rs (HRa1.out) 8 rfl).mono ?_
  rintro e wa2 ⟨rfl, hr2, hg2⟩; have HRa2 := Lib.hid hr2; have HGa2 := Lib.hid hg2; have HBa2 := Lib.hid ((HBa1.out).grown hg2 (fun e => HNE.out (Option.some.inj e))); clear hr2 hg2
  go_wp2_with fail
  refine hK.out _ _ ⟨(only_trans hHeld.1 HGa2.out), (HRa1.out).by_keep hHeld.2 HGa2.out⟩ (fun hHeld1 => ?_)
  clear hHeld hK K
  have hHeld := hHeld1
  clear hHeld1
  refine wpAnyH_take (i := 8) (v := (.int .i64 (sx 8 (nval 8 (nnext 1 (rnext 16 st)))))) rfl (by kernel_rfl) (by kernel_rfl) (by kernel_rfl) (fun _ _ _ h => h) (yields_conv (by kernel_rfl) 61 2 (.tmp 10) rfl (.int .u64 ((nval 8 (nnext 1 (rnext 16 st)) : Nat) : Int)) (by simp [Act.eval]) (.int .i64 (sx 8 (nval 8 (nnext 1 (rnext 16 st))))) (fun W _ => conv_i64 61 2 Try.underlying61 Try.underlying2 _ (by have := nval_lt 8 (nnext 1 (rnext 16 st)); simp only [e8] at this; omega) W)) (by assumption) ?_
  change wpAnyH _ _ _ _ _ _ _ (Act.put _ (some (11 : Nat)) (.int .i64 (sx 8 (nval 8 (nnext 1 (rnext 16 st)))))) _
  simp only [Act.put, List.setIfInBounds_toArray, List.set_cons_zero, List.set_cons_succ]
  refine wpAnyH_ready (rs := [10]) (by kernel_rfl) (by simp) ?_
  refine AllReadyH.cons rfl (fun K hK => ?_) AllReadyH.nil
  go_simp
  refine (number_rs (HRa2.out) 8 rfl).mono ?_
  rintro e wa3 ⟨rfl, hr3, hg3⟩; have HRa3 := Lib.hid hr3; have HGa3 := Lib.hid hg3; have HBa3 := Lib.hid ((HBa2.out).grown hg3 (fun e => HNE.out (Option.some.inj e))); clear hr3 hg3
  go_wp2_with fail
  refine hK.out _ _ ⟨(only_trans hHeld.1 HGa3.out), (HRa2.out).by_keep hHeld.2 HGa3.out⟩ (fun hHeld1 => ?_)
  clear hHeld hK K
  have hHeld := hHeld1
  clear hHeld1
  refine wpAnyH_take (i := 11) (v := (.int .i64 (sx 8 (nval 8 (nnext 8 (nnext 1 (rnext 16 st))))))) rfl (by kernel_rfl) (by kernel_rfl) (by kernel_rfl) (fun _ _ _ h => h) (yields_conv (by kernel_rfl) 61 2 (.tmp 13) rfl (.int .u64 ((nval 8 (nnext 8 (nnext 1 (rnext 16 st))) : Nat) : Int)) (by simp [Act.eval]) (.int .i64 (sx 8 (nval 8 (nnext 8 (nnext 1 (rnext 16 st)))))) (fun W _ => conv_i64 61 2 Try.underlying61 Try.underlying2 _ (by have := nval_lt 8 (nnext 8 (nnext 1 (rnext 16 st))); simp only [e8] at this; omega) W)) (by assumption) ?_
  change wpAnyH _ _ _ _ _ _ _ (Act.put _ (some (14 : Nat)) (.int .i64 (sx 8 (nval 8 (nnext 8 (nnext 1 (rnext 16 st))))))) _
  simp only [Act.put, List.setIfInBounds_toArray, List.set_cons_zero, List.set_cons_succ]
  refine wpAnyH_ready (rs := [13]) (by kernel_rfl) (by simp) ?_
  refine AllReadyH.cons rfl (fun K hK => ?_) AllReadyH.nil
  go_simp
  refine (row_rs (HRa3.out) 200).mono ?_
  rintro e wa4 ⟨Ba4, ma4, ca4, rfl, hy4, hr4, hg4⟩; have HRa4 := Lib.hid hr4; have HGa4 := Lib.hid hg4; have HBa4 := Lib.hid ((HBa3.out).grown hg4 (fun e => HNE.out (Option.some.inj e))); have HYa4 := Lib.hid hy4; clear hr4 hg4 hy4
  go_wp2_with fail
  refine hK.out _ _ ⟨(only_trans hHeld.1 HGa4.out), (HRa3.out).by_keep hHeld.2 HGa4.out⟩ (fun hHeld1 => ?_)
  clear hHeld hK K
  have hHeld := hHeld1
  clear hHeld1
  refine wpAnyH_weaken (S' := fun W => ((w.grownBy W (some g)) ∧ By W (fun _ => True) Ba0 ma0 (rval 16 st)) ∧ By W (fun _ => True) Ba4 ma4 (rval 200 (nnext 8 (nnext 8 (nnext 1 (rnext 16 st)))))) (fun W h => h.1) _ _ _ _ ?_
  have hHeld2 := And.intro hHeld HYa4.out
  clear hHeld
  have hHeld := hHeld2
  clear hHeld2
  refine wpAnyH_take (i := 14) (v := (.string (ba (rval 200 (nnext 8 (nnext 8 (nnext 1 (rnext 16 st)))))))) rfl (by kernel_rfl) (by kernel_rfl) (by kernel_rfl) (fun _ _ _ h => h) (yields_conv (by kernel_rfl) 43 9 (.tmp 16) rfl (.slice Ba4 ma4 ca4) (by simp [Act.eval]) (.string (ba (rval 200 (nnext 8 (nnext 8 (nnext 1 (rnext 16 st))))))) (fun W hW => run_string_by W 43 9 5 Try.underlying43 Try.underlying5 Try.underlying9 _ _ _ _ _ hW.2)) (by assumption) ?_
  change wpAnyH _ _ _ _ _ _ _ (Act.put _ (some (17 : Nat)) (.string (ba (rval 200 (nnext 8 (nnext 8 (nnext 1 (rnext 16 st)))))))) _
  simp only [Act.put, List.setIfInBounds_toArray, List.set_cons_zero, List.set_cons_succ]
  refine wpAnyH_ready (rs := [16]) (by kernel_rfl) (by simp) ?_
  refine AllReadyH.cons rfl (fun K hK => ?_) AllReadyH.nil
  go_simp
  refine (row_rs (HRa4.out) 200).mono ?_
  rintro e wa5 ⟨Ba5, ma5, ca5, rfl, hy5, hr5, hg5⟩; have HRa5 := Lib.hid hr5; have HGa5 := Lib.hid hg5; have HBa5 := Lib.hid ((HBa4.out).grown hg5 (fun e => HNE.out (Option.some.inj e))); have HYa5 := Lib.hid hy5; clear hr5 hg5 hy5
  go_wp2_with fail
  refine hK.out _ _ ⟨⟨(only_trans hHeld.1.1 HGa5.out), (HRa4.out).by_keep hHeld.1.2 HGa5.out⟩, (HRa4.out).by_keep hHeld.2 HGa5.out⟩ (fun hHeld1 => ?_)
  clear hHeld hK K
  have hHeld := hHeld1
  clear hHeld1
  refine wpAnyH_weaken (S' := fun W => (((w.grownBy W (some g)) ∧ By W (fun _ => True) Ba0 ma0 (rval 16 st)) ∧ By W (fun _ => True) Ba4 ma4 (rval 200 (nnext 8 (nnext 8 (nnext 1 (rnext 16 st)))))) ∧ By W (fun _ => True) Ba5 ma5 (rval 200 (rnext 200 (nnext 8 (nnext 8 (nnext 1 (rnext 16 st))))))) (fun W h => h.1) _ _ _ _ ?_
  have hHeld2 := And.intro hHeld HYa5.out
  clear hHeld
  have hHeld := hHeld2
  clear hHeld2
  refine wpAnyH_take (i := 17) (v := (.string (ba (rval 200 (rnext 200 (nnext 8 (nnext 8 (nnext 1 (rnext 16 st))))))))) rfl (by kernel_rfl) (by kernel_rfl) (by kernel_rfl) (fun _ _ _ h => h) (yields_conv (by kernel_rfl) 43 9 (.tmp 19) rfl (.slice Ba5 ma5 ca5) (by simp [Act.eval]) (.string (ba (rval 200 (rnext 200 (nnext 8 (nnext 8 (nnext 1 (rnext 16 st)))))))) (fun W hW => run_string_by W 43 9 5 Try.underlying43 Try.underlying5 Try.underlying9 _ _ _ _ _ hW.2)) (by assumption) ?_
  change wpAnyH _ _ _ _ _ _ _ (Act.put _ (some (20 : Nat)) (.string (ba (rval 200 (rnext 200 (nnext 8 (nnext 8 (nnext 1 (rnext 16 st))))))))) _
  simp only [Act.put, List.setIfInBounds_toArray, List.set_cons_zero, List.set_cons_succ]
  obtain ⟨V, hV⟩ : ∃ V : Value, V = .agg #[.string (ba (rval 16 st)), .int .i64 ((nval 1 (rnext 16 st) : Nat) : Int), .int .i64 (sx 8 (nval 8 (nnext 1 (rnext 16 st)))), .int .i64 (sx 8 (nval 8 (nnext 8 (nnext 1 (rnext 16 st))))), .string (ba (rval 200 (nnext 8 (nnext 8 (nnext 1 (rnext 16 st)))))), .string (ba (rval 200 (rnext 200 (nnext 8 (nnext 8 (nnext 1 (rnext 16 st)))))))] := ⟨_, rfl⟩
  have HV := Lib.hid hV
  clear hV
  refine wpAnyH_take (i := 18) (v := V) rfl (by kernel_rfl) (by kernel_rfl) (by kernel_rfl) (fun _ _ _ h => h) (yields_build (by kernel_rfl) 27 _ rfl _ (by simp only [List.map_toArray, List.map_cons, List.map_nil, Act.eval]; rfl) V (fun w _ => by rw [HV.out]; exact Try.build_l6 _ _ _ _ _ _ w)) (by assumption) ?_
  change wpAnyH _ _ _ _ _ _ _ (Act.put _ (some (21 : Nat)) V) _
  simp only [Act.put, List.setIfInBounds_toArray, List.set_cons_zero, List.set_cons_succ]
  refine wpAnyH_ready (rs := [19]) (by kernel_rfl) (by simp) ?_
  refine AllReadyH.cons (o := ⟨none, .store 27 (.tmp 2) (.tmp 21), _, _, _, none⟩) rfl (fun K hK => ?_) AllReadyH.nil
  have HBp := Lib.hid (HBa5.out); refine step_store_blk rfl 27 (.tmp 2) (.tmp 21) rfl gz [.string (ba (rval 16 st)), .int .i64 ((nval 1 (rnext 16 st) : Nat) : Int), .int .i64 (sx 8 (nval 8 (nnext 1 (rnext 16 st)))), .int .i64 (sx 8 (nval 8 (nnext 8 (nnext 1 (rnext 16 st))))), .string (ba (rval 200 (nnext 8 (nnext 8 (nnext 1 (rnext 16 st)))))), .string (ba (rval 200 (rnext 200 (nnext 8 (nnext 8 (nnext 1 (rnext 16 st)))))))] (by simp [Act.eval]) (by simp only [Act.eval]; exact HV.out) 27 [.string (ba []), .int .i64 0, .int .i64 0, .int .i64 0, .string (ba []), .string (ba [])] (HBa5.out) (by kernel_rfl) rfl (one6 _ _ _ _ _ _) ?_; intro we hbe hge; have HBe := Lib.hid hbe; have HGe := Lib.hid hge; have HRe := Lib.hid ((HRa5.out).other hge (fun b hb => ⟨fun e => HNE.out (by rw [Option.some.inj hb]; exact e), fun h9 => by have := HQ.out b h9; have := Option.some.inj hb; have := HGZ.out; omega⟩)); clear hbe hge
  refine hK.out _ _ ⟨⟨⟨(only_new hHeld.1.1.1 HGe.out (Nat.le_of_eq HGZ.out)), By.far hHeld.1.1.2 HGe.out HBp.out (no_u8 _ _ _ _ _ _)⟩, By.far hHeld.1.2 HGe.out HBp.out (no_u8 _ _ _ _ _ _)⟩, By.far hHeld.2 HGe.out HBp.out (no_u8 _ _ _ _ _ _)⟩ (fun hHeld1 => ?_)
  clear hHeld hK K
  have hHeld := hHeld1
  clear hHeld1
  change wpAnyH _ _ _ _ _ _ _ (Act.put _ none undef) _
  simp only [Act.put]
  refine wpAnyH_done (by kernel_rfl) ?_ _
  have HGf := Lib.hid (hHeld.1.1.1)
  clear hHeld
  go_wp2
  (try simp only [Exit.inBlock, Exit.then]); refine bodyPost_ret (results_cell_row_0 rfl _ _ (gz) 27 _ (0, 0) _ rfl HBe.out Try.underlying27 rfl (by kernel_rfl)) rfl ⟨?_, HRe.out, HGf.out⟩
  rfl


set_option maxHeartbeats 8000000 in
set_option maxRecDepth 100000 in
theorem readoutcome_any {Q : Nat → Prop} (g : Nat) (st : Option (List UInt8)) (w : World) (h : Rs Q w g tR st) (hQ : ∀ b, Q b → b < w.heap.size) :
    Calls Try.prog 57 #[.pointer (some ⟨g, 0, none⟩)] w fun e w' => e = .returned (.agg (rdOc st).1.cells.toArray) ∧ Rs Q w' g tR (rdOc st).2 ∧ w.grownBy w' (some g) := by
  have hz := Try.zero_oc
  have hb3 := Try.build_o3
  obtain ⟨gz, hgz⟩ : ∃ gz, w.heap.size = gz := ⟨_, rfl⟩
  have HGZ := Lib.hid hgz
  have HQ := Lib.hid hQ
  have HNE : Hid (gz ≠ g) := Lib.hid (by have := h.lt; omega)
  have HR1 : Hid (Rs Q (w.alloc (.cells #[.int .i64 0, .int .i64 0, .int .i64 0] 30)) g tR st) := Lib.hid (h.alloc _)
  have HG1 : Hid (w.grownBy (w.alloc (.cells #[.int .i64 0, .int .i64 0, .int .i64 0] 30)) (some g)) := Lib.hid (only_below (below1 w _))
  have HB1 : Hid (Blk (w.alloc (.cells #[.int .i64 0, .int .i64 0, .int .i64 0] 30)) gz 30 [.int .i64 0, .int .i64 0, .int .i64 0]) := Lib.hid (Blk.fresh hgz.symm rfl)
  have hn1 : ∀ (W : World) (s : Option (List UInt8)), Rs Q W g tR s → Calls Try.prog 53 #[.pointer (some ⟨g, 0, none⟩), .int .i64 1] W fun e w' => e = .returned (.int .u64 (nval 1 s)) ∧ Rs Q w' g tR (nnext 1 s) ∧ W.grownBy w' (some g) := fun W s hR => number_rs hR 1 rfl
  have hn8 : ∀ (W : World) (s : Option (List UInt8)), Rs Q W g tR s → Calls Try.prog 53 #[.pointer (some ⟨g, 0, none⟩), .int .i64 8] W fun e w' => e = .returned (.int .u64 (nval 8 s)) ∧ Rs Q w' g tR (nnext 8 s) ∧ W.grownBy w' (some g) := fun W s hR => number_rs hR 8 rfl
  have HN1 := Lib.hid hn1
  have HN8 := Lib.hid hn8
  have hc0 := fun (W : World) => conv_small 61 3 Try.underlying61 Try.underlying3 (nval 1 st) (by have := nval_lt 1 st; simp only [e1] at this; omega) W
  have hc1 := fun (W : World) => conv_i64 61 2 Try.underlying61 Try.underlying2 (nval 8 (nnext 1 st)) (by have := nval_lt 8 (nnext 1 st); simp only [e8] at this; omega) W
  have hc2 := fun (W : World) => conv_small 61 28 Try.underlying61 Try.underlying28 (nval 1 (nnext 8 (nnext 1 st))) (by have := nval_lt 1 (nnext 8 (nnext 1 st)); simp only [e1] at this; omega) W
  clear h hQ hn1 hn8
  go_enter Try.func57, Try.ntmps57
  go_wp2_with (first
    | (go_at_call 53; (with_reducible refine (HN1.out _ _ HR1.out).mono ?_); rintro e wa0 ⟨rfl, hr, hg⟩; have HRa0 := Lib.hid hr; have HGa0 : Hid (w.grownBy wa0 (some g)) := Lib.hid (only_trans HG1.out hg); have HBa0 := Lib.hid (HB1.out.grown hg (fun e => HNE.out (Option.some.inj e))); clear hr hg)
    | (go_at_call 53; (with_reducible refine (HN8.out _ _ HRa0.out).mono ?_); rintro e wa1 ⟨rfl, hr, hg⟩; have HRa1 := Lib.hid hr; have HGa1 : Hid (w.grownBy wa1 (some g)) := Lib.hid (only_trans HGa0.out hg); have HBa1 := Lib.hid (HBa0.out.grown hg (fun e => HNE.out (Option.some.inj e))); clear hr hg)
    | (go_at_call 53; (with_reducible refine (HN1.out _ _ HRa1.out).mono ?_); rintro e wa2 ⟨rfl, hr, hg⟩; have HRa2 := Lib.hid hr; have HGa2 : Hid (w.grownBy wa2 (some g)) := Lib.hid (only_trans HGa1.out hg); have HBa2 := Lib.hid (HBa1.out.grown hg (fun e => HNE.out (Option.some.inj e))); clear hr hg)
    | (refine wpList_store_blk rfl 30 (.tmp 2) (.tmp 12) rfl gz [.int .i64 ((nval 1 st : Nat) : Int), .int .i64 (sx 8 (nval 8 (nnext 1 st))), .int .i64 ((nval 1 (nnext 8 (nnext 1 st)) : Nat) : Int)] rfl rfl 30 [.int .i64 0, .int .i64 0, .int .i64 0] HBa2.out (by kernel_rfl) rfl (one3i _ _ _) ?_; intro we hbe hge; have HBe := Lib.hid hbe; have HGf : Hid (w.grownBy we (some g)) := Lib.hid (only_new HGa2.out hge (Nat.le_of_eq HGZ.out)); have HRe := Lib.hid (HRa2.out.other hge (fun b hb => ⟨fun e => HNE.out (by rw [Option.some.inj hb]; exact e), fun h9 => by have := HQ.out b h9; have := Option.some.inj hb; have := HGZ.out; omega⟩)); clear hbe hge))
  (try simp only [Exit.inBlock, Exit.then]); refine bodyPost_ret (results_cell_row_0 rfl _ _ (gz) 30 _ (0, 0) _ rfl HBe.out Try.underlying30 rfl (by kernel_rfl)) rfl ⟨?_, HRe.out, HGf.out⟩
  rfl

end Go.Proofs.Ytkbeodlihmmdbaa
