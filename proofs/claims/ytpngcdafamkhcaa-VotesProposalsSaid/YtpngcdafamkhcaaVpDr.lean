/-
  The program's ParseReply.
-/
import Derived.Test.YtpngcdafamkhcaaVpD
namespace Go.Proofs.Ytpngcdafamkhcaa
open Go.RowKit

set_option maxHeartbeats 16000000 in
set_option maxRecDepth 100000 in
theorem vparse_re (xs : List UInt8) (N : Int) (A : Option Addr) (n c : Nat) (w : World) (h : By w (fun _ => True) A n xs) (hn : n ≤ 1000000) :
    Calls Try.prog 15 #[.slice A n c, .int .i64 N] w (Told w (Re.cells (parseRe xs N).1) (parseRe xs N).2) := by
  have HZ0 : Hid (Blk (w.alloc (.cells #[.int .i64 0, .int .i64 0, .int .i64 0, .int .i64 0] 48)) w.heap.size 48 (Re.cells Re.no)) := Lib.hid (Blk.fresh rfl rfl)
  have HX0 : Hid (Below w.heap.size w (w.alloc (.cells #[.int .i64 0, .int .i64 0, .int .i64 0, .int .i64 0] 48))) := Lib.hid (below1_ w _)
  obtain ⟨P, hPP⟩ : ∃ P, parseRe xs N = P := ⟨_, rfl⟩
  rw [hPP]
  have hb0 := Try.build_re0
  obtain ⟨bn, hbn⟩ : ∃ b, badN N = b := ⟨_, rfl⟩
  have HSz : Hid (∀ W : World, Calls Try.prog 20 #[.int .i64 N] W fun e w' => e = .returned (.bool (!bn)) ∧ w' = W) := Lib.hid (fun W => hbn ▸ vsize_any N W)
  cases bn with
  | true =>
    have hP : P = (Re.no, 1) := by rw [← hPP]; unfold parseRe; rw [if_pos hbn]
    subst hP
    clear hPP h hn hbn
    go_enter Try.func15, Try.ntmps15
    go_wp2_with (first
      | (go_at_call 20; (with_reducible refine (HSz.out _).mono ?_); rintro e ws ⟨rfl, rfl⟩)
      | (refine wpList_store_blk rfl 48 (.tmp 4) (.tmp 11) rfl w.heap.size (Re.cells Re.no) rfl rfl 48 (Re.cells Re.no) HZ0.out (by kernel_rfl) (by rfl) (Re.one _) ?_; intro wy hby hgy; have HBy := Lib.hid hby; have HXy : Hid (Below w.heap.size w wy) := Lib.hid (HX0.out.grown hgy HX0.out.size (fun k hk => by have := Option.some.inj hk; omega)); clear hby hgy))
    (try simp only [Exit.inBlock, Exit.then])
    refine bodyPost_ret (results_cell_row_tmp1 rfl _ _ w.heap.size 48 _ (0, 0) _ rfl HBy.out Try.underlying48 rfl (by kernel_rfl)) rfl ?_
    exact ⟨rfl, HXy.out⟩
  | false =>
  have hN : 1 ≤ N ∧ N ≤ 7 := by simp [badN] at hbn; omega
  have HRd : Hid (Calls Try.prog 21 #[.slice A n c] (w.alloc (.cells #[.int .i64 0, .int .i64 0, .int .i64 0, .int .i64 0] 48)) fun e w' => ∃ g, e = .returned (.pointer (some ⟨g, 0, none⟩)) ∧ Rs (fun b => (w.alloc (.cells #[.int .i64 0, .int .i64 0, .int .i64 0, .int .i64 0] 48)).heap.size ≤ b) w' g tR (some xs) ∧ Below (w.alloc (.cells #[.int .i64 0, .int .i64 0, .int .i64 0, .int .i64 0] 48)).heap.size (w.alloc (.cells #[.int .i64 0, .int .i64 0, .int .i64 0, .int .i64 0] 48)) w' ∧ (w.alloc (.cells #[.int .i64 0, .int .i64 0, .int .i64 0, .int .i64 0] 48)).heap.size ≤ g) := Lib.hid (read_rs (h.through HX0.out) (by omega))
  have hPf : P = finRe (rdRe (some xs)) N := by rw [← hPP]; unfold parseRe; rw [if_neg (by simp [hbn])]
  unfold rdRe at hPf
  have Hk1 : Hid (∀ (Q : Nat → Prop) (g : Nat) (W : World), Rs Q W g tR (some xs) → Calls Try.prog 22 #[.pointer (some ⟨g, 0, none⟩)] W fun e w' => e = .returned (.int .i64 (sx 8 (nval 8 (some xs)))) ∧ Rs Q w' g tR (nnext 8 (some xs)) ∧ W.grownBy w' (some g)) := Lib.hid (fun Q g W h9 => vnum_any h9)
  have Hk2 : Hid (∀ (Q : Nat → Prop) (g : Nat) (W : World), Rs Q W g tR (nnext 8 (some xs)) → Calls Try.prog 40 #[.pointer (some ⟨g, 0, none⟩)] W fun e w' => e = .returned (.int .i64 (((nval 1 (nnext 8 (some xs)) : Nat) : Int))) ∧ Rs Q w' g tR (nnext 1 (nnext 8 (some xs))) ∧ W.grownBy w' (some g)) := Lib.hid (fun Q g W h9 => vcl_any h9)
  have Hk3 : Hid (∀ (Q : Nat → Prop) (g : Nat) (W : World), Rs Q W g tR (nnext 1 (nnext 8 (some xs))) → Calls Try.prog 22 #[.pointer (some ⟨g, 0, none⟩)] W fun e w' => e = .returned (.int .i64 (sx 8 (nval 8 (nnext 1 (nnext 8 (some xs)))))) ∧ Rs Q w' g tR (nnext 8 (nnext 1 (nnext 8 (some xs)))) ∧ W.grownBy w' (some g)) := Lib.hid (fun Q g W h9 => vnum_any h9)
  have Hk4 : Hid (∀ (Q : Nat → Prop) (g : Nat) (W : World), Rs Q W g tR (nnext 8 (nnext 1 (nnext 8 (some xs)))) → Calls Try.prog 41 #[.pointer (some ⟨g, 0, none⟩), .int .i64 1] W fun e w' => e = .returned (.int .u64 (nval 1 (nnext 8 (nnext 1 (nnext 8 (some xs)))))) ∧ Rs Q w' g tR (nnext 1 (nnext 8 (nnext 1 (nnext 8 (some xs))))) ∧ W.grownBy w' (some g)) := Lib.hid (fun Q g W h9 => number_rs h9 1 rfl)
  have hk4 : nval 1 (nnext 8 (nnext 1 (nnext 8 (some xs)))) < 256 := nval1_lt _
  generalize sx 8 (nval 8 (some xs)) = v1 at hPf Hk1
  generalize nnext 8 (some xs) = s1 at hPf Hk1 Hk2 Hk3 Hk4 hk4
  generalize ((nval 1 s1 : Nat) : Int) = v2 at hPf Hk2
  generalize nnext 1 s1 = s2 at hPf Hk2 Hk3 Hk4 hk4
  generalize sx 8 (nval 8 s2) = v3 at hPf Hk3
  generalize nnext 8 s2 = s3 at hPf Hk3 Hk4 hk4
  generalize nval 1 s3 = k4 at hPf Hk4 hk4
  have hcv4 := fun (W : World) => conv_small 68 33 Try.underlying68 Try.underlying33 k4 (by omega) W
  generalize nnext 1 s3 = s4 at hPf Hk4
  obtain ⟨X, hX⟩ : ∃ X, (⟨v1, v2, v3, (k4 : Int)⟩ : Re) = X := ⟨_, rfl⟩
  obtain ⟨q0, hq0⟩ : ∃ b, isW v1 = b := ⟨_, rfl⟩
  have HQ0 : Hid (∀ W : World, Calls Try.prog 28 #[.int .i64 v1] W fun e w' => e = .returned (.bool q0) ∧ w' = W) := Lib.hid (fun W => hq0 ▸ vview_any v1 W)
  obtain ⟨q1, hq1⟩ : ∃ b, isC v2 N = b := ⟨_, rfl⟩
  have HQ1 : Hid (∀ W : World, Calls Try.prog 43 #[.int .i64 v2, .int .i64 N] W fun e w' => e = .returned (.bool q1) ∧ w' = W) := Lib.hid (fun W => hq1 ▸ vclient_any v2 N hN W)
  obtain ⟨q2, hq2⟩ : ∃ b, isS v3 = b := ⟨_, rfl⟩
  have HQ2 : Hid (∀ W : World, Calls Try.prog 44 #[.int .i64 v3] W fun e w' => e = .returned (.bool q2) ∧ w' = W) := Lib.hid (fun W => hq2 ▸ vstamp_any v3 W)
  obtain ⟨q3, hq3⟩ : ∃ b, decide ((k4 : Int) ≤ 99) = b := ⟨_, rfl⟩
  obtain ⟨fo, hfo_⟩ : ∃ f, formE s4 = f := ⟨_, rfl⟩
  obtain ⟨rg, hrg⟩ : ∃ r, vrngE [q0, q1, q2, q3] = r := ⟨_, rfl⟩
  have HFo : Hid (∀ (Q : Nat → Prop) (g : Nat) (W : World), Rs Q W g tR s4 → Calls Try.prog 26 #[.pointer (some ⟨g, 0, none⟩)] W fun e w' => e = .returned (.int .i64 fo) ∧ w' = W) := Lib.hid (fun Q g W h9 => hfo_ ▸ vform_any h9)
  have HRg : Hid (∀ (W : World) (g : Nat), Blk W g 4 [.bool q0, .bool q1, .bool q2, .bool q3] → Calls Try.prog 27 #[.slice (some ⟨g, 0, none⟩) 4 4] W fun e w' => e = .returned (.int .i64 rg) ∧ w' = W) := Lib.hid (fun W g h9 => hrg ▸ vranges_any [q0, q1, q2, q3] g 4 W rfl (by omega) h9)
  have hU : ∀ W : World, ∀ g, Blk W g 33 [.int .i64 fo, .int .i64 rg] → Calls Try.prog 42 #[.agg ([.int .i64 v1, .int .i64 v2, .int .i64 v3, .int .i64 (k4 : Int)] : List Value).toArray, .slice (some ⟨g, 0, none⟩) 2 2] W (Told W (Re.cells P.1) P.2) := fun W g h9 => by
    have h8 := vunless_re ([.int .i64 v1, .int .i64 v2, .int .i64 v3, .int .i64 (k4 : Int)]) rfl (by simp [Value.oneCell']) [fo, rg] g 2 W rfl (by omega) h9
    have e1 : (if firstE [fo, rg] = 0 then ([.int .i64 v1, .int .i64 v2, .int .i64 v3, .int .i64 (k4 : Int)] : List Value) else [.int .i64 0, .int .i64 0, .int .i64 0, .int .i64 0]) = Re.cells P.1 ∧ firstE [fo, rg] = P.2 := by
      rw [hPf, ← hfo_, ← hrg]
      unfold finRe formE vrngE
      simp only [hq0, hq1, hq2, hq3]
      by_cases hst : s4 = some []
      · rw [if_pos hst, if_neg (show ¬ (s4 ≠ some []) from fun h => h hst)]
        cases q0 <;> cases q1 <;> cases q2 <;> cases q3 <;> exact ⟨rfl, rfl⟩
      · rw [if_neg hst, if_pos (show s4 ≠ some [] from hst)]
        exact ⟨rfl, rfl⟩
    rw [e1.1, e1.2] at h8
    exact h8
  have HU := Lib.hid hU
  have HPl : Hid ((Re.cells P.1).length = 4) := Lib.hid (by
    rw [hPf]
    unfold finRe
    split
    · rfl
    · split
      · rfl
      · rfl)
  clear hN
  clear h hn hPP hPf hU hfo_ hrg hq0 hq1 hq2 hX hk4 hbn
  go_enter Try.func15, Try.ntmps15
  go_wp2_with (first
    | (go_at_call 20; (with_reducible refine (HSz.out _).mono ?_); rintro e ws ⟨rfl, rfl⟩)
    | (go_at_call 21; (with_reducible refine HRd.out.mono ?_); rintro e w1 ⟨g, rfl, hr1, hb1, hg1⟩; have HR1 := Lib.hid hr1.lt_; have HGq : Hid (w.heap.size + 1 ≤ g) := Lib.hid (by simpa using hg1); have HGn : Hid (some w.heap.size ≠ some g) := Lib.hid (fun e => by have := Option.some.inj e; have := HGq.out; omega); have HX1 : Hid (Below w.heap.size w w1) := Lib.hid (below_step HX0.out hb1); have HZ1 := Lib.hid (HZ0.out.through hb1); have HS1 : Hid (w1.heap.size ≤ w1.heap.size) := Lib.hid (Nat.le_refl _); clear hr1 hb1 hg1)
    | (go_at_call 22; (with_reducible refine (Hk1.out _ _ _ HR1.out).mono ?_); rintro e w2 ⟨rfl, hr2, hg2⟩; have HR2 := Lib.hid hr2; have HX2 : Hid (Below w.heap.size w w2) := Lib.hid (HX1.out.grown hg2 HX1.out.size (fun k hk => by have := Option.some.inj hk; have := HGq.out; omega)); have HZ2 := Lib.hid (HZ1.out.grown hg2 HGn.out); have HS2 : Hid (w1.heap.size ≤ w2.heap.size) := Lib.hid (Nat.le_trans HS1.out hg2.size); clear hr2 hg2)
    | (go_at_call 40; (with_reducible refine (Hk2.out _ _ _ HR2.out).mono ?_); rintro e w3 ⟨rfl, hr3, hg3⟩; have HR3 := Lib.hid hr3; have HX3 : Hid (Below w.heap.size w w3) := Lib.hid (HX2.out.grown hg3 HX2.out.size (fun k hk => by have := Option.some.inj hk; have := HGq.out; omega)); have HZ3 := Lib.hid (HZ2.out.grown hg3 HGn.out); have HS3 : Hid (w1.heap.size ≤ w3.heap.size) := Lib.hid (Nat.le_trans HS2.out hg3.size); clear hr3 hg3)
    | (go_at_call 22; (with_reducible refine (Hk3.out _ _ _ HR3.out).mono ?_); rintro e w4 ⟨rfl, hr4, hg4⟩; have HR4 := Lib.hid hr4; have HX4 : Hid (Below w.heap.size w w4) := Lib.hid (HX3.out.grown hg4 HX3.out.size (fun k hk => by have := Option.some.inj hk; have := HGq.out; omega)); have HZ4 := Lib.hid (HZ3.out.grown hg4 HGn.out); have HS4 : Hid (w1.heap.size ≤ w4.heap.size) := Lib.hid (Nat.le_trans HS3.out hg4.size); clear hr4 hg4)
    | (go_at_call 41; (with_reducible refine (Hk4.out _ _ _ HR4.out).mono ?_); rintro e w5 ⟨rfl, hr5, hg5⟩; have HR5 := Lib.hid hr5; have HX5 : Hid (Below w.heap.size w w5) := Lib.hid (HX4.out.grown hg5 HX4.out.size (fun k hk => by have := Option.some.inj hk; have := HGq.out; omega)); have HZ5 := Lib.hid (HZ4.out.grown hg5 HGn.out); have HS5 : Hid (w1.heap.size ≤ w5.heap.size) := Lib.hid (Nat.le_trans HS4.out hg5.size); clear hr5 hg5)
    | (refine wpList_store_blk rfl 48 (.tmp 7) (.tmp 23) rfl w5.heap.size ([.int .i64 v1, .int .i64 v2, .int .i64 v3, .int .i64 (k4 : Int)]) rfl rfl 48 (Re.cells Re.no) (Blk.fresh rfl rfl) (by kernel_rfl) (by rfl) (by simp [Value.oneCell']) ?_; intro wb hbb hgb; have HBb := Lib.hid hbb; have HXb : Hid (Below w.heap.size w wb) := Lib.hid (below_step HX5.out (below_new hgb)); have HRb := Lib.hid (HR5.out.below (below_new hgb)); have HZb := Lib.hid (HZ5.out.through (below_new hgb)); clear hbb hgb))
  try dsimp only [Act.put]
  obtain ⟨gv, hgv⟩ : ∃ gv, w5.heap.size = gv := ⟨_, rfl⟩
  have HNv : Hid (some gv ≠ some w.heap.size) := Lib.hid (fun e => by have := Option.some.inj e; have := HGq.out; have := HR5.out.lt; omega)
  rw [hgv] at HBb ⊢
  clear hgv
  refine wp_region_held_drew (S := fun W => wb.grownBy W (some w.heap.size)) (by kernel_rfl) (grown_drew (only_refl _ _)) (fun hHeld => ?_)
  change wpAnyH _ _ _ _ _ _ #[false, false, false, false, false, false, false, false, false, false, false, false, false, false, false, false, false, false, false, false, false, false, false, false] _ _
  refine wpAnyH_take (i := 0) (v := (.agg ([.int .i64 v1, .int .i64 v2, .int .i64 v3, .int .i64 (k4 : Int)] : List Value).toArray)) rfl (by kernel_rfl) (by kernel_rfl) (by kernel_rfl) (fun _ _ _ h => h) (yieldsIf_load_mid (by kernel_rfl) 48 (.tmp 7) rfl gv 0 (by simp [Act.eval]) ([.int .i64 v1, .int .i64 v2, .int .i64 v3, .int .i64 (k4 : Int)]) _ (fun W hW => (HBb.out.grown hW HNv.out).whole_) Try.underlying48 rfl (by kernel_rfl)) (by assumption) ?_
  change wpAnyH _ _ _ _ _ _ _ (Act.put _ (some (24 : Nat)) (.agg ([.int .i64 v1, .int .i64 v2, .int .i64 v3, .int .i64 (k4 : Int)] : List Value).toArray)) _
  simp only [Act.put, List.setIfInBounds_toArray, List.set_cons_zero, List.set_cons_succ]
  refine wpAnyH_take (i := 1) (v := (.pointer (some ⟨g, 0, none⟩))) rfl (by kernel_rfl) (by kernel_rfl) (by kernel_rfl) (fun _ _ _ h => h) (Or.inl ⟨by kernel_rfl, fun w hSw => ?_⟩) (by assumption) ?_
  · (try dsimp only at hSw); go_simp <;> (try rfl)
  change wpAnyH _ _ _ _ _ _ _ (Act.put _ (some (25 : Nat)) (.pointer (some ⟨g, 0, none⟩))) _
  simp only [Act.put, List.setIfInBounds_toArray, List.set_cons_zero, List.set_cons_succ]
  refine wpAnyH_take (i := 3) (v := (.pointer (some ⟨gv, 0, none⟩))) rfl (by kernel_rfl) (by kernel_rfl) (by kernel_rfl) (fun _ _ _ h => h) (Or.inl ⟨by kernel_rfl, fun w hSw => ?_⟩) (by assumption) ?_
  · (try dsimp only at hSw); go_simp <;> (try rfl)
  change wpAnyH _ _ _ _ _ _ _ (Act.put _ (some (27 : Nat)) (.pointer (some ⟨gv, 0, none⟩))) _
  simp only [Act.put, List.setIfInBounds_toArray, List.set_cons_zero, List.set_cons_succ]
  refine wpAnyH_take (i := 4) (v := (.int .i64 v1)) rfl (by kernel_rfl) (by kernel_rfl) (by kernel_rfl) (fun _ _ _ h => h) (yields_load_at (by kernel_rfl) 2 (.tmp 27) rfl (.pointer (some ⟨gv, 0, none⟩)) (by simp [Act.eval]) (.int .i64 v1) (fun W hW => load_one' (Try.agg_i64 W) ((HBb.out.grown hW HNv.out).cellAt (i := 0) rfl))) (by assumption) ?_
  change wpAnyH _ _ _ _ _ _ _ (Act.put _ (some (28 : Nat)) (.int .i64 v1)) _
  simp only [Act.put, List.setIfInBounds_toArray, List.set_cons_zero, List.set_cons_succ]
  refine wpAnyH_take (i := 6) (v := (.pointer (some ⟨gv, 1, none⟩))) rfl (by kernel_rfl) (by kernel_rfl) (by kernel_rfl) (fun _ _ _ h => h) (Or.inl ⟨by kernel_rfl, fun w hSw => ?_⟩) (by assumption) ?_
  · (try dsimp only at hSw); go_simp <;> (try rfl)
  change wpAnyH _ _ _ _ _ _ _ (Act.put _ (some (30 : Nat)) (.pointer (some ⟨gv, 1, none⟩))) _
  simp only [Act.put, List.setIfInBounds_toArray, List.set_cons_zero, List.set_cons_succ]
  refine wpAnyH_take (i := 7) (v := (.int .i64 v2)) rfl (by kernel_rfl) (by kernel_rfl) (by kernel_rfl) (fun _ _ _ h => h) (yields_load_at (by kernel_rfl) 3 (.tmp 30) rfl (.pointer (some ⟨gv, 1, none⟩)) (by simp [Act.eval]) (.int .i64 v2) (fun W hW => load_one' (Try.agg_int W) ((HBb.out.grown hW HNv.out).cellAt (i := 1) rfl))) (by assumption) ?_
  change wpAnyH _ _ _ _ _ _ _ (Act.put _ (some (31 : Nat)) (.int .i64 v2)) _
  simp only [Act.put, List.setIfInBounds_toArray, List.set_cons_zero, List.set_cons_succ]
  refine wpAnyH_take (i := 10) (v := (.pointer (some ⟨gv, 2, none⟩))) rfl (by kernel_rfl) (by kernel_rfl) (by kernel_rfl) (fun _ _ _ h => h) (Or.inl ⟨by kernel_rfl, fun w hSw => ?_⟩) (by assumption) ?_
  · (try dsimp only at hSw); go_simp <;> (try rfl)
  change wpAnyH _ _ _ _ _ _ _ (Act.put _ (some (34 : Nat)) (.pointer (some ⟨gv, 2, none⟩))) _
  simp only [Act.put, List.setIfInBounds_toArray, List.set_cons_zero, List.set_cons_succ]
  refine wpAnyH_take (i := 11) (v := (.int .i64 v3)) rfl (by kernel_rfl) (by kernel_rfl) (by kernel_rfl) (fun _ _ _ h => h) (yields_load_at (by kernel_rfl) 2 (.tmp 34) rfl (.pointer (some ⟨gv, 2, none⟩)) (by simp [Act.eval]) (.int .i64 v3) (fun W hW => load_one' (Try.agg_i64 W) ((HBb.out.grown hW HNv.out).cellAt (i := 2) rfl))) (by assumption) ?_
  change wpAnyH _ _ _ _ _ _ _ (Act.put _ (some (35 : Nat)) (.int .i64 v3)) _
  simp only [Act.put, List.setIfInBounds_toArray, List.set_cons_zero, List.set_cons_succ]
  refine wpAnyH_take (i := 8) (v := (.int .i64 N)) rfl (by kernel_rfl) (by kernel_rfl) (by kernel_rfl) (fun _ _ _ h => h) (Or.inl ⟨by kernel_rfl, fun w hSw => ?_⟩) (by assumption) ?_
  · (try dsimp only at hSw); go_simp <;> (try rfl)
  change wpAnyH _ _ _ _ _ _ _ (Act.put _ (some (32 : Nat)) (.int .i64 N)) _
  simp only [Act.put, List.setIfInBounds_toArray, List.set_cons_zero, List.set_cons_succ]
  refine wpAnyH_take (i := 13) (v := (.pointer (some ⟨gv, 3, none⟩))) rfl (by kernel_rfl) (by kernel_rfl) (by kernel_rfl) (fun _ _ _ h => h) (Or.inl ⟨by kernel_rfl, fun w hSw => ?_⟩) (by assumption) ?_
  · (try dsimp only at hSw); go_simp <;> (try rfl)
  change wpAnyH _ _ _ _ _ _ _ (Act.put _ (some (37 : Nat)) (.pointer (some ⟨gv, 3, none⟩))) _
  simp only [Act.put, List.setIfInBounds_toArray, List.set_cons_zero, List.set_cons_succ]
  refine wpAnyH_take (i := 14) (v := (.int .i64 (k4 : Int))) rfl (by kernel_rfl) (by kernel_rfl) (by kernel_rfl) (fun _ _ _ h => h) (yields_load_at (by kernel_rfl) 33 (.tmp 37) rfl (.pointer (some ⟨gv, 3, none⟩)) (by simp [Act.eval]) (.int .i64 (k4 : Int)) (fun W hW => load_one' (Try.agg_er W) ((HBb.out.grown hW HNv.out).cellAt (i := 3) rfl))) (by assumption) ?_
  change wpAnyH _ _ _ _ _ _ _ (Act.put _ (some (38 : Nat)) (.int .i64 (k4 : Int))) _
  simp only [Act.put, List.setIfInBounds_toArray, List.set_cons_zero, List.set_cons_succ]
  refine wpAnyH_take (i := 15) (v := (.bool q3)) rfl (by kernel_rfl) (by kernel_rfl) (by kernel_rfl) (fun _ _ _ h => h) (Or.inl ⟨by kernel_rfl, fun w hSw => ?_⟩) (by assumption) ?_
  · (try dsimp only at hSw); go_simp <;> (try rfl)
  change wpAnyH _ _ _ _ _ _ _ (Act.put _ (some (39 : Nat)) (.bool q3)) _
  simp only [Act.put, List.setIfInBounds_toArray, List.set_cons_zero, List.set_cons_succ]
  refine wpAnyH_ready (rs := [2]) (by kernel_rfl) (by simp) ?_
  refine AllReadyH.cons rfl (fun K hK => ?_) AllReadyH.nil
  go_simp
  refine (HFo.out _ _ _ HRb.out.drew).mono ?_
  rintro e wf ⟨rfl, rfl⟩
  go_wp2_with fail
  refine hK.out _ _ hHeld (fun hHeld1 => ?_)
  clear hHeld hK K
  have hHeld := hHeld1
  clear hHeld1
  refine wpAnyH_ready (rs := [5]) (by kernel_rfl) (by simp) ?_
  refine AllReadyH.cons rfl (fun K hK => ?_) AllReadyH.nil
  go_simp
  refine (HQ0.out _).mono ?_
  rintro e wq0 ⟨rfl, rfl⟩
  go_wp2_with fail
  refine hK.out _ _ hHeld (fun hHeld1 => ?_)
  clear hHeld hK K
  have hHeld := hHeld1
  clear hHeld1
  refine wpAnyH_ready (rs := [9]) (by kernel_rfl) (by simp) ?_
  refine AllReadyH.cons rfl (fun K hK => ?_) AllReadyH.nil
  go_simp
  refine (HQ1.out _).mono ?_
  rintro e wq1 ⟨rfl, rfl⟩
  go_wp2_with fail
  refine hK.out _ _ hHeld (fun hHeld1 => ?_)
  clear hHeld hK K
  have hHeld := hHeld1
  clear hHeld1
  refine wpAnyH_ready (rs := [12]) (by kernel_rfl) (by simp) ?_
  refine AllReadyH.cons rfl (fun K hK => ?_) AllReadyH.nil
  go_simp
  refine (HQ2.out _).mono ?_
  rintro e wq2 ⟨rfl, rfl⟩
  go_wp2_with fail
  refine hK.out _ _ hHeld (fun hHeld1 => ?_)
  clear hHeld hK K
  have hHeld := hHeld1
  clear hHeld1
  refine wpAnyH_ready (rs := [16]) (by kernel_rfl) (by simp) ?_
  refine AllReadyH.cons (o := ⟨some 40, .buildSlice 89 4 #[(0, .tmp 29), (1, .tmp 33), (2, .tmp 36), (3, .tmp 39)], _, _, _, none⟩) rfl (fun K hK => ?_) AllReadyH.nil
  refine step_build4_w rfl 89 4 (.tmp 29) (.tmp 33) (.tmp 36) (.tmp 39) rfl (.bool q0) (.bool q1) (.bool q2) (.bool q3) (by simp [Act.eval]) (by simp [Act.eval]) (by simp [Act.eval]) (by simp [Act.eval]) (Try.run_bbo4 q0 q1 q2 q3 _) ?_; intro gx wx hbx hxx; have HBx := Lib.hid hbx; have HZx := Lib.hid (HZb.out.drew.through hxx); have HXx := Lib.hid (below_step HXb.out.drew hxx); have HGx := Lib.hid (only_trans hHeld (only_below hxx)); clear hbx hxx
  refine hK.out _ _ HGx.out (fun hHeld1 => ?_)
  clear hHeld hK K
  have hHeld := hHeld1
  clear hHeld1
  change wpAnyH _ _ _ _ _ _ _ (Act.put _ (some (40 : Nat)) (.slice (some ⟨gx, 0, none⟩) 4 4)) _
  simp only [Act.put, List.setIfInBounds_toArray, List.set_cons_zero, List.set_cons_succ]
  refine wpAnyH_ready (rs := [17]) (by kernel_rfl) (by simp) ?_
  refine AllReadyH.cons rfl (fun K hK => ?_) AllReadyH.nil
  go_simp
  refine (HRg.out _ _ HBx.out).mono ?_
  rintro e wr ⟨rfl, rfl⟩
  go_wp2_with fail
  refine hK.out _ _ hHeld (fun hHeld1 => ?_)
  clear hHeld hK K
  have hHeld := hHeld1
  clear hHeld1
  refine wpAnyH_ready (rs := [18]) (by kernel_rfl) (by simp) ?_
  refine AllReadyH.cons (o := ⟨some 42, .buildSlice 88 2 #[(0, .tmp 26), (1, .tmp 41)], _, _, _, none⟩) rfl (fun K hK => ?_) AllReadyH.nil
  refine step_build2_w rfl 88 33 (.tmp 26) (.tmp 41) rfl (.int .i64 fo) (.int .i64 rg) (by simp [Act.eval]) (by simp [Act.eval]) (Try.run_ber2 fo rg _) ?_; intro gy wy hby hxy; have HBy := Lib.hid hby; have HZy := Lib.hid (HZx.out.through hxy); have HXy := Lib.hid (below_step HXx.out hxy); have HGy := Lib.hid (only_trans hHeld (only_below hxy)); clear hby hxy
  refine hK.out _ _ HGy.out (fun hHeld1 => ?_)
  clear hHeld hK K
  have hHeld := hHeld1
  clear hHeld1
  change wpAnyH _ _ _ _ _ _ _ (Act.put _ (some (42 : Nat)) (.slice (some ⟨gy, 0, none⟩) 2 2)) _
  simp only [Act.put, List.setIfInBounds_toArray, List.set_cons_zero, List.set_cons_succ]
  refine wpAnyH_ready (rs := [19]) (by kernel_rfl) (by simp) ?_
  refine AllReadyH.cons rfl (fun K hK => ?_) AllReadyH.nil
  go_simp
  refine (HU.out _ _ HBy.out).mono ?_
  rintro e wu ⟨rfl, hbu⟩; have HZu := Lib.hid (HZy.out.through hbu); have HXu := Lib.hid (below_step HXy.out hbu); have HGu := Lib.hid (only_trans hHeld (only_below hbu)); clear hbu
  go_wp2_with fail
  refine hK.out _ _ HGu.out (fun hHeld1 => ?_)
  clear hHeld hK K
  have hHeld := hHeld1
  clear hHeld1
  refine wpAnyH_take (i := 20) (v := (.agg (Re.cells P.1).toArray)) rfl (by kernel_rfl) (by kernel_rfl) (by kernel_rfl) (fun _ _ _ h => h) (Or.inl ⟨by kernel_rfl, fun w hSw => ?_⟩) (by assumption) ?_
  · (try dsimp only at hSw); go_simp <;> (try rfl)
  change wpAnyH _ _ _ _ _ _ _ (Act.put _ (some (44 : Nat)) (.agg (Re.cells P.1).toArray)) _
  simp only [Act.put, List.setIfInBounds_toArray, List.set_cons_zero, List.set_cons_succ]
  refine wpAnyH_take (i := 21) (v := (.int .i64 P.2)) rfl (by kernel_rfl) (by kernel_rfl) (by kernel_rfl) (fun _ _ _ h => h) (Or.inl ⟨by kernel_rfl, fun w hSw => ?_⟩) (by assumption) ?_
  · (try dsimp only at hSw); go_simp <;> (try rfl)
  change wpAnyH _ _ _ _ _ _ _ (Act.put _ (some (45 : Nat)) (.int .i64 P.2)) _
  simp only [Act.put, List.setIfInBounds_toArray, List.set_cons_zero, List.set_cons_succ]
  refine wpAnyH_ready (rs := [22]) (by kernel_rfl) (by simp) ?_
  refine AllReadyH.cons (o := ⟨none, .store 48 (.tmp 4) (.tmp 44), _, _, _, none⟩) rfl (fun K hK => ?_) AllReadyH.nil
  refine step_store_blk rfl 48 (.tmp 4) (.tmp 44) rfl w.heap.size (Re.cells P.1) (by simp [Act.eval]) (by simp [Act.eval]) 48 (Re.cells Re.no) HZu.out (by rw [HPl.out]; kernel_rfl) (by rw [HPl.out]; rfl) (Re.one _) ?_; intro wz hbz hgz; have HBz := Lib.hid hbz; have HXz : Hid (Below w.heap.size w wz) := Lib.hid (HXu.out.grown hgz HXu.out.size (fun k hk => by have := Option.some.inj hk; omega)); have HGz := Lib.hid (only_trans hHeld hgz); clear hbz hgz
  refine hK.out _ _ HGz.out (fun hHeld1 => ?_)
  clear hHeld hK K
  have hHeld := hHeld1
  clear hHeld1
  change wpAnyH _ _ _ _ _ _ _ (Act.put _ none undef) _
  simp only [Act.put]
  refine wpAnyH_take (i := 23) (v := (.int .i64 P.2)) rfl (by kernel_rfl) (by kernel_rfl) (by kernel_rfl) (fun _ _ _ h => h) (Or.inl ⟨by kernel_rfl, fun w hSw => ?_⟩) (by assumption) ?_
  · (try dsimp only at hSw); go_simp <;> (try rfl)
  change wpAnyH _ _ _ _ _ _ _ (Act.put _ (some (5 : Nat)) (.int .i64 P.2)) _
  simp only [Act.put, List.setIfInBounds_toArray, List.set_cons_zero, List.set_cons_succ]
  refine wpAnyH_done (by kernel_rfl) ?_ _
  clear hHeld
  go_wp2_with fail
  (try simp only [Exit.inBlock, Exit.then])
  refine bodyPost_ret (results_cell_row_tmp1 rfl _ _ w.heap.size 48 _ (0, 0) _ rfl HBz.out Try.underlying48 rfl (by rw [List.size_toArray, HPl.out]; kernel_rfl)) rfl ?_
  exact ⟨rfl, HXz.out⟩

end Go.Proofs.Ytpngcdafamkhcaa
