/-
  FormulaTells, walked.
-/
import Derived.Test.YtkildlonenjmaaaF15b
namespace Go.Proofs.Ytkildlonenjmaaa
open Go.RowKit

theorem has_b (s j : Nat) (hs : s < 4294967296) (hj : j ≤ 1000) (w : World) : Calls Try.prog 29 #[.int .u32 (s : Int), .int .i64 (j : Int)] w fun e w' => e = .returned (.bool (s.testBit j)) ∧ Below w.heap.size w w' :=
  (has_any s j hs hj w).mono (by rintro e w' ⟨h1, rfl⟩; exact ⟨h1, Below.refl _ _⟩)

set_option maxHeartbeats 16000000 in
set_option maxRecDepth 100000 in
theorem ltells_far (f : Fm) (y : Int) (s : Nat) (_hs : s < 4294967296) (A : Option Addr) (n c : Nat) (w : World) (h : f.In w (fun _ => True) A n) (hok : (fewP 1 f).2 = false) :
    Calls Try.prog 5 #[f.val A n c, .int .i64 y, .int .u32 (s : Int)] w fun e w' => e = .returned (.bool true) ∧ Below w.heap.size w w' := by
  have hfw : ∀ W, f.In W (fun _ => True) A n → Calls Try.prog 21 #[f.val A n c, .int .i64 1] W fun e w' => e = .returned (.tuple #[.int .i64 (fewP 1 f).1, .bool (fewP 1 f).2]) ∧ Below W.heap.size W w' := fun W h => few_walk f 1 A n c W h
  have HF := Lib.hid h
  rw [hok] at hfw
  generalize (fewP 1 f).1 = fm at *
  unfold Fm.val at hfw
  unfold Fm.val
  generalize f.org = fo at *
  generalize f.nd = fa at *
  have HW := Lib.hid hfw
  clear hfw h hok
  have hB0 : Blk (w.alloc (.cells #[.int .i64 fo, .int .i64 fa, .slice A n c] 33)) w.heap.size 33 [.int .i64 fo, .int .i64 fa, .slice A n c] := Blk.fresh rfl rfl
  have HB0 := Lib.hid hB0
  have HX0 : Hid (Below w.heap.size w (w.alloc (.cells #[.int .i64 fo, .int .i64 fa, .slice A n c] 33))) := Lib.hid ((Below.refl _ w).alloc (Nat.le_refl _) _)
  clear hB0
  go_enter Try.func5, Try.ntmps5
  go_wp2_with (first
    | (go_at_call 20; (with_reducible refine (ffixed_any _).mono ?_); rintro e w1 ⟨rfl, hb⟩; have HXw1 : Hid (Below w.heap.size w w1) := Lib.hid (HX0.out.trans (hb.mono (by simp))); have HBw1 := Lib.hid (HB0.out.through hb); clear hb)
    | (refine wpList_load_blk rfl 33 (.tmp 3) rfl w.heap.size rfl 33 [.int .i64 fo, .int .i64 fa, .slice A n c] _ HBw1.out Try.underlying33 rfl (by kernel_rfl) ?_)
    | (go_at_call 21; (with_reducible refine (HW.out _ (HF.out.through HXw1.out)).mono ?_); rintro e w2 ⟨rfl, hb⟩; have HXw2 := Lib.hid (HXw1.out.trans (hb.mono HXw1.out.size)); have HBw2 := Lib.hid (HBw1.out.through hb); clear hb))
  go_ret
  exact ⟨rfl, HXw2.out⟩

set_option maxHeartbeats 16000000 in
set_option maxRecDepth 100000 in
theorem ltells_no (f : Fm) (y : Int) (s : Nat) (hs : s < 4294967296) (A : Option Addr) (n c : Nat) (w : World) (h : f.In w (fun _ => True) A n) (hok : (fewP 1 f).2 = true) (hmb : f.mb = false) :
    Calls Try.prog 5 #[f.val A n c, .int .i64 y, .int .u32 (s : Int)] w fun e w' => e = .returned (.bool true) ∧ Below w.heap.size w w' := by
  have hfw : ∀ W, f.In W (fun _ => True) A n → Calls Try.prog 21 #[f.val A n c, .int .i64 1] W fun e w' => e = .returned (.tuple #[.int .i64 (fewP 1 f).1, .bool (fewP 1 f).2]) ∧ Below W.heap.size W w' := fun W h => few_walk f 1 A n c W h
  have HF := Lib.hid h
  have hfz := few_ok hok
  have hck : ∀ W, f.In W (fun _ => True) A n → Calls Try.prog 22 #[f.val A n c, .int .i64 y] W fun e w' => e = .returned (.int .i64 (f.check y)) ∧ Below W.heap.size W w' := fun W h => check_any f y A n c W hfz h
  have hrc : ∀ W, f.In W (fun _ => True) A n → Calls Try.prog 23 #[f.val A n c, .int .i64 y] W fun e w' => e = .returned (.int .i64 (f.check y)) ∧ Below W.heap.size W w' := fun W h => rcheck_any f y A n c W hfz h
  have hrt : ∀ W, f.In W (fun _ => True) A n → Calls Try.prog 24 #[f.val A n c] W fun e w' => e = .returned (.bool f.mb) ∧ Below W.heap.size W w' := fun W h => right_any f A n c W hfz h
  have hho : ∀ W, f.In W (fun _ => True) A n → Calls Try.prog 25 #[f.val A n c, .int .u32 (s : Int)] W fun e w' => e = .returned (.bool (f.mb && f.hold s)) ∧ Below W.heap.size W w' := fun W h => Hold_any s hs f A n c W hfz h
  have hst : ∀ W, f.In W (fun _ => True) A n → Calls Try.prog 28 #[f.val A n c, .int .u32 (s : Int)] W fun e w' => e = .returned (.bool (f.mb && !f.hold (cpl s))) ∧ Below W.heap.size W w' := fun W h => Stop_any s hs f A n c W hfz h
  have hnm : ∀ W, f.In W (fun _ => True) A n → Calls Try.prog 26 #[f.val A n c] W fun e w' => e = .returned (.int .u32 (f.nms : Int)) ∧ Below W.heap.size W w' := fun W h => Name_any f A n c W hfz h
  have hle : ∀ W, f.In W (fun _ => True) A n → Calls Try.prog 27 #[f.val A n c] W fun e w' => e = .returned (.int .i64 ((if f.mb then f.least else 0 : Nat) : Int)) ∧ Below W.heap.size W w' := fun W h => Least_any f A n c W hfz h
  rw [hok] at hfw
  generalize (fewP 1 f).1 = fm at *
  generalize f.check y = k at *
  have e0 : f.nms = 0 := by unfold Fm.nms; rw [hmb]; rfl
  rw [hmb] at hrt hho hst hle
  rw [e0] at hnm
  rw [if_neg (by simp)] at hle
  simp only [Bool.false_and] at hho hst
  unfold Fm.val at hfw hck hrc hrt hho hst hnm hle
  unfold Fm.val
  generalize f.org = fo at *
  generalize f.nd = fa at *
  have HW := Lib.hid hfw
  have HC := Lib.hid hck
  have HD := Lib.hid hrc
  have HR := Lib.hid hrt
  have HH := Lib.hid hho
  have HS := Lib.hid hst
  have HN : Hid (∀ W, f.In W (fun _ => True) A n → Calls Try.prog 26 #[.agg #[.int .i64 fo, .int .i64 fa, .slice A n c]] W fun e w' => e = .returned (.int .u32 0) ∧ Below W.heap.size W w') := Lib.hid hnm
  have HL : Hid (∀ W, f.In W (fun _ => True) A n → Calls Try.prog 27 #[.agg #[.int .i64 fo, .int .i64 fa, .slice A n c]] W fun e w' => e = .returned (.int .i64 0) ∧ Below W.heap.size W w') := Lib.hid hle
  clear hfw hck hrc hrt hho hst hnm hle h hok hmb e0 hfz
  have hB0 : Blk (w.alloc (.cells #[.int .i64 fo, .int .i64 fa, .slice A n c] 33)) w.heap.size 33 [.int .i64 fo, .int .i64 fa, .slice A n c] := Blk.fresh rfl rfl
  have HB0 := Lib.hid hB0
  have HX0 : Hid (Below w.heap.size w (w.alloc (.cells #[.int .i64 fo, .int .i64 fa, .slice A n c] 33))) := Lib.hid ((Below.refl _ w).alloc (Nat.le_refl _) _)
  clear hB0
  go_enter Try.func5, Try.ntmps5
  go_wp2_with (first
    | (go_at_call 20; (with_reducible refine (ffixed_any _).mono ?_); rintro e w1 ⟨rfl, hb⟩; have HXw1 : Hid (Below w.heap.size w w1) := Lib.hid (HX0.out.trans (hb.mono (by simp))); have HBw1 := Lib.hid (HB0.out.through hb); clear hb)
    | (refine wpList_load_blk rfl 33 (.tmp 3) rfl w.heap.size rfl 33 [.int .i64 fo, .int .i64 fa, .slice A n c] _ HBw1.out Try.underlying33 rfl (by kernel_rfl) ?_)
    | (go_at_call 21; (with_reducible refine (HW.out _ (HF.out.through HXw1.out)).mono ?_); rintro e w2 ⟨rfl, hb⟩; have HXw2 := Lib.hid (HXw1.out.trans (hb.mono HXw1.out.size)); have HBw2 := Lib.hid (HBw1.out.through hb); clear hb))
  obtain ⟨bf, hbf⟩ : ∃ bf, bf = w.heap.size := ⟨_, rfl⟩
  rw [← hbf] at HBw2
  rw [← hbf]
  try dsimp only [Act.put]
  refine wp_region_held_drew (S := fun W => Blk W bf 33 [.int .i64 fo, .int .i64 fa, .slice A n c]) (by kernel_rfl) HBw2.out.drew (fun hHeld => ?_)
  change wpAnyH _ _ _ _ _ _ #[false, false, false, false, false, false, false] _ _
  refine wpAnyH_take (i := 0) (v := (.agg [.int .i64 fo, .int .i64 fa, .slice A n c].toArray)) rfl (by kernel_rfl) (by kernel_rfl) (by kernel_rfl) (fun _ _ _ h => h) (yields_load_at (by kernel_rfl) 33 (.tmp 3) rfl (.pointer (some ⟨bf, 0, none⟩)) (by simp [Act.eval]) (.agg [.int .i64 fo, .int .i64 fa, .slice A n c].toArray) (fun W hW => hW.loadAt 33 _ Try.underlying33 rfl (by kernel_rfl))) (by assumption) ?_
  change wpAnyH _ _ _ _ _ _ _ (Act.put _ (some (20 : Nat)) (.agg [.int .i64 fo, .int .i64 fa, .slice A n c].toArray)) _
  simp only [Act.put, List.setIfInBounds_toArray, List.set_cons_zero, List.set_cons_succ]
  refine wpAnyH_take (i := 1) (v := (.int .i64 y)) rfl (by kernel_rfl) (by kernel_rfl) (by kernel_rfl) (fun _ _ _ h => h) (Or.inl ⟨by kernel_rfl, fun w hSw => ?_⟩) (by assumption) ?_
  · (try dsimp only at hSw); go_simp <;> (try rfl)
  change wpAnyH _ _ _ _ _ _ _ (Act.put _ (some (21 : Nat)) (.int .i64 y)) _
  simp only [Act.put, List.setIfInBounds_toArray, List.set_cons_zero, List.set_cons_succ]
  refine wpAnyH_take (i := 3) (v := (.agg [.int .i64 fo, .int .i64 fa, .slice A n c].toArray)) rfl (by kernel_rfl) (by kernel_rfl) (by kernel_rfl) (fun _ _ _ h => h) (yields_load_at (by kernel_rfl) 33 (.tmp 3) rfl (.pointer (some ⟨bf, 0, none⟩)) (by simp [Act.eval]) (.agg [.int .i64 fo, .int .i64 fa, .slice A n c].toArray) (fun W hW => hW.loadAt 33 _ Try.underlying33 rfl (by kernel_rfl))) (by assumption) ?_
  change wpAnyH _ _ _ _ _ _ _ (Act.put _ (some (23 : Nat)) (.agg [.int .i64 fo, .int .i64 fa, .slice A n c].toArray)) _
  simp only [Act.put, List.setIfInBounds_toArray, List.set_cons_zero, List.set_cons_succ]
  refine wpAnyH_take (i := 4) (v := (.int .i64 y)) rfl (by kernel_rfl) (by kernel_rfl) (by kernel_rfl) (fun _ _ _ h => h) (Or.inl ⟨by kernel_rfl, fun w hSw => ?_⟩) (by assumption) ?_
  · (try dsimp only at hSw); go_simp <;> (try rfl)
  change wpAnyH _ _ _ _ _ _ _ (Act.put _ (some (24 : Nat)) (.int .i64 y)) _
  simp only [Act.put, List.setIfInBounds_toArray, List.set_cons_zero, List.set_cons_succ]
  refine wpAnyH_ready (rs := [2]) (by kernel_rfl) (by simp) ?_
  refine AllReadyH.cons rfl (fun K hK => ?_) AllReadyH.nil
  go_simp
  refine (HC.out _ (HF.out.through HXw2.out).drew).mono ?_
  rintro e b1 ⟨rfl, hb⟩; have hb' : Below w2.heap.size w2 b1 := ⟨hb.os, hb.tape, hb.output, hb.size, hb.block⟩; have HXb1 := Lib.hid (HXw2.out.trans (hb'.mono HXw2.out.size)); have HBb1 := Lib.hid (HBw2.out.through hb'); clear hb hb'
  go_wp2_with fail
  refine hK.out _ _ HBb1.out (fun hHeld1 => ?_)
  clear hHeld hK K
  have hHeld := hHeld1
  clear hHeld1
  refine wpAnyH_ready (rs := [5]) (by kernel_rfl) (by simp) ?_
  refine AllReadyH.cons rfl (fun K hK => ?_) AllReadyH.nil
  go_simp
  refine (HD.out _ (HF.out.through HXb1.out)).mono ?_
  rintro e b2 ⟨rfl, hb⟩; have hb' : Below b1.heap.size b1 b2 := ⟨hb.os, hb.tape, hb.output, hb.size, hb.block⟩; have HXb2 := Lib.hid (HXb1.out.trans (hb'.mono HXb1.out.size)); have HBb2 := Lib.hid (HBb1.out.through hb'); clear hb hb'
  go_wp2_with fail
  refine hK.out _ _ HBb2.out (fun hHeld1 => ?_)
  clear hHeld hK K
  have hHeld := hHeld1
  clear hHeld1
  refine wpAnyH_take (i := 6) (v := (.bool false)) rfl (by kernel_rfl) (by kernel_rfl) (by kernel_rfl) (fun _ _ _ h => h) (Or.inl ⟨by kernel_rfl, fun w hSw => ?_⟩) (by assumption) ?_
  · (try dsimp only at hSw); go_simp <;> (try rfl)
  change wpAnyH _ _ _ _ _ _ _ (Act.put _ (some (26 : Nat)) (.bool false)) _
  simp only [Act.put, List.setIfInBounds_toArray, List.set_cons_zero, List.set_cons_succ]
  refine wpAnyH_done (by kernel_rfl) ?_ _
  subst hbf
  go_wp2_with (first
    | (go_at_call 28; (with_reducible refine (HS.out _ (HF.out.through HXb6.out)).mono ?_); rintro e b7 ⟨rfl, hb⟩; have HXb7 := Lib.hid (HXb6.out.trans (hb.mono HXb6.out.size)); have HBb7 := Lib.hid (HBb6.out.through hb); clear hb)
    | (refine wpList_load_blk_g 33 (.tmp 3) rfl (by kernel_rfl) w.heap.size rfl 33 [.int .i64 fo, .int .i64 fa, .slice A n c] _ HBb6.out Try.underlying33 rfl (by kernel_rfl) ?_)
    | (go_at_call 27; (with_reducible refine (HL.out _ (HF.out.through HXb5.out)).mono ?_); rintro e b6 ⟨rfl, hb⟩; have HXb6 := Lib.hid (HXb5.out.trans (hb.mono HXb5.out.size)); have HBb6 := Lib.hid (HBb5.out.through hb); clear hb)
    | (refine wpList_load_blk_g 33 (.tmp 3) rfl (by kernel_rfl) w.heap.size rfl 33 [.int .i64 fo, .int .i64 fa, .slice A n c] _ HBb5.out Try.underlying33 rfl (by kernel_rfl) ?_)
    | (go_at_call 26; (with_reducible refine (HN.out _ (HF.out.through HXb4.out)).mono ?_); rintro e b5 ⟨rfl, hb⟩; have HXb5 := Lib.hid (HXb4.out.trans (hb.mono HXb4.out.size)); have HBb5 := Lib.hid (HBb4.out.through hb); clear hb)
    | (refine wpList_load_blk_g 33 (.tmp 3) rfl (by kernel_rfl) w.heap.size rfl 33 [.int .i64 fo, .int .i64 fa, .slice A n c] _ HBb4.out Try.underlying33 rfl (by kernel_rfl) ?_)
    | (go_at_call 25; (with_reducible refine (HH.out _ (HF.out.through HXb3.out)).mono ?_); rintro e b4 ⟨rfl, hb⟩; have HXb4 := Lib.hid (HXb3.out.trans (hb.mono HXb3.out.size)); have HBb4 := Lib.hid (HBb3.out.through hb); clear hb)
    | (refine wpList_load_blk rfl 33 (.tmp 3) rfl w.heap.size rfl 33 [.int .i64 fo, .int .i64 fa, .slice A n c] _ HBb3.out Try.underlying33 rfl (by kernel_rfl) ?_)
    | (go_at_call 24; (with_reducible refine (HR.out _ (HF.out.through HXb2.out)).mono ?_); rintro e b3 ⟨rfl, hb⟩; have HXb3 := Lib.hid (HXb2.out.trans (hb.mono HXb2.out.size)); have HBb3 := Lib.hid (HBb2.out.through hb); clear hb)
    | (refine wpList_load_blk rfl 33 (.tmp 3) rfl w.heap.size rfl 33 [.int .i64 fo, .int .i64 fa, .slice A n c] _ HBb2.out Try.underlying33 rfl (by kernel_rfl) ?_))
  go_ret
  exact ⟨rfl, HXb7.out⟩

set_option maxHeartbeats 16000000 in
set_option maxRecDepth 100000 in
theorem ltells_yes (f : Fm) (y : Int) (s : Nat) (hs : s < 4294967296) (A : Option Addr) (n c : Nat) (w : World) (h : f.In w (fun _ => True) A n) (hok : (fewP 1 f).2 = true) (hmb : f.mb = true) :
    Calls Try.prog 5 #[f.val A n c, .int .i64 y, .int .u32 (s : Int)] w fun e w' => e = .returned (.bool true) ∧ Below w.heap.size w w' := by
  have hfw : ∀ W, f.In W (fun _ => True) A n → Calls Try.prog 21 #[f.val A n c, .int .i64 1] W fun e w' => e = .returned (.tuple #[.int .i64 (fewP 1 f).1, .bool (fewP 1 f).2]) ∧ Below W.heap.size W w' := fun W h => few_walk f 1 A n c W h
  have HF := Lib.hid h
  have hfz := few_ok hok
  have hck : ∀ W, f.In W (fun _ => True) A n → Calls Try.prog 22 #[f.val A n c, .int .i64 y] W fun e w' => e = .returned (.int .i64 (f.check y)) ∧ Below W.heap.size W w' := fun W h => check_any f y A n c W hfz h
  have hrc : ∀ W, f.In W (fun _ => True) A n → Calls Try.prog 23 #[f.val A n c, .int .i64 y] W fun e w' => e = .returned (.int .i64 (f.check y)) ∧ Below W.heap.size W w' := fun W h => rcheck_any f y A n c W hfz h
  have hrt : ∀ W, f.In W (fun _ => True) A n → Calls Try.prog 24 #[f.val A n c] W fun e w' => e = .returned (.bool f.mb) ∧ Below W.heap.size W w' := fun W h => right_any f A n c W hfz h
  have hho : ∀ W, f.In W (fun _ => True) A n → Calls Try.prog 25 #[f.val A n c, .int .u32 (s : Int)] W fun e w' => e = .returned (.bool (f.mb && f.hold s)) ∧ Below W.heap.size W w' := fun W h => Hold_any s hs f A n c W hfz h
  have hst : ∀ W, f.In W (fun _ => True) A n → Calls Try.prog 28 #[f.val A n c, .int .u32 (s : Int)] W fun e w' => e = .returned (.bool (f.mb && !f.hold (cpl s))) ∧ Below W.heap.size W w' := fun W h => Stop_any s hs f A n c W hfz h
  have hnm : ∀ W, f.In W (fun _ => True) A n → Calls Try.prog 26 #[f.val A n c] W fun e w' => e = .returned (.int .u32 (f.nms : Int)) ∧ Below W.heap.size W w' := fun W h => Name_any f A n c W hfz h
  have hle : ∀ W, f.In W (fun _ => True) A n → Calls Try.prog 27 #[f.val A n c] W fun e w' => e = .returned (.int .i64 ((if f.mb then f.least else 0 : Nat) : Int)) ∧ Below W.heap.size W w' := fun W h => Least_any f A n c W hfz h
  rw [hok] at hfw
  generalize (fewP 1 f).1 = fm at *
  generalize f.check y = k at *
  have hr := Fm.mb_rng hmb
  have e0 : f.nms = f.names := by unfold Fm.nms; rw [hmb]; rfl
  have hnl := Fm.names_lt f hr
  have hrh : ∀ W, f.In W (fun _ => True) A n → Calls Try.prog 31 #[f.val A n c, .int .u32 (s : Int)] W fun e w' => e = .returned (.bool (f.hold s)) ∧ Below W.heap.size W w' := fun W h => rholds_any s hs f A n c W hr h
  have hrl : ∀ W, f.In W (fun _ => True) A n → Calls Try.prog 32 #[f.val A n c] W fun e w' => e = .returned (.int .i64 (f.least : Int)) ∧ Below W.heap.size W w' := fun W h => rleast_any f A n c W hr h
  have hrs : ∀ W, f.In W (fun _ => True) A n → Calls Try.prog 33 #[f.val A n c, .int .u32 (s : Int)] W fun e w' => e = .returned (.bool (!f.hold (cpl s))) ∧ Below W.heap.size W w' := fun W h => by
    have := rstops_any s hs f A n c W hr h
    rw [Fm.stops_eq hr hs] at this
    exact this
  have hhas : ∀ (i : Nat) (W : World), i < 32 → Calls Try.prog 29 #[.int .u32 (f.names : Int), .int .i64 (i : Int)] W fun e w' => e = .returned (.bool (f.names.testBit i)) ∧ Below W.heap.size W w' := fun i W hi => has_b f.names i (by omega) (by omega) W
  have hstd : ∀ (i : Nat) (W : World), f.In W (fun _ => True) A n → Calls Try.prog 30 #[f.val A n c, .int .i64 (i : Int)] W fun e w' => e = .returned (.bool (f.names.testBit i)) ∧ Below W.heap.size W w' := fun i W h => by
    have := stands_any (i : Int) f A n c W h
    rw [← Fm.names_bit i f hr] at this
    exact this
  rw [hmb] at hrt hho hst hle
  rw [e0] at hnm
  rw [if_pos rfl] at hle
  simp only [Bool.true_and] at hho hst
  generalize f.names = nms at *
  generalize (f.least : Int) = lst at *
  generalize f.hold s = v1 at *
  generalize (!f.hold (cpl s)) = v2 at *
  unfold Fm.val at hfw hck hrc hrt hho hst hnm hle hrh hrl hrs hstd
  unfold Fm.val
  generalize f.org = fo at *
  generalize f.nd = fa at *
  have HW := Lib.hid hfw
  have HC := Lib.hid hck
  have HD := Lib.hid hrc
  have HR := Lib.hid hrt
  have HH := Lib.hid hho
  have HS := Lib.hid hst
  have HN := Lib.hid hnm
  have HL := Lib.hid hle
  have HRH := Lib.hid hrh
  have HRL := Lib.hid hrl
  have HRS := Lib.hid hrs
  have HHas := Lib.hid hhas
  have HStd := Lib.hid hstd
  clear hfw hck hrc hrt hho hst hnm hle h hok hmb e0 hfz hrh hrl hrs hhas hstd hr hnl
  have hB0 : Blk (w.alloc (.cells #[.int .i64 fo, .int .i64 fa, .slice A n c] 33)) w.heap.size 33 [.int .i64 fo, .int .i64 fa, .slice A n c] := Blk.fresh rfl rfl
  have HB0 := Lib.hid hB0
  have HX0 : Hid (Below w.heap.size w (w.alloc (.cells #[.int .i64 fo, .int .i64 fa, .slice A n c] 33))) := Lib.hid ((Below.refl _ w).alloc (Nat.le_refl _) _)
  clear hB0
  go_enter Try.func5, Try.ntmps5
  go_wp2_with (first
    | (go_at_call 20; (with_reducible refine (ffixed_any _).mono ?_); rintro e w1 ⟨rfl, hb⟩; have HXw1 : Hid (Below w.heap.size w w1) := Lib.hid (HX0.out.trans (hb.mono (by simp))); have HBw1 := Lib.hid (HB0.out.through hb); clear hb)
    | (refine wpList_load_blk rfl 33 (.tmp 3) rfl w.heap.size rfl 33 [.int .i64 fo, .int .i64 fa, .slice A n c] _ HBw1.out Try.underlying33 rfl (by kernel_rfl) ?_)
    | (go_at_call 21; (with_reducible refine (HW.out _ (HF.out.through HXw1.out)).mono ?_); rintro e w2 ⟨rfl, hb⟩; have HXw2 := Lib.hid (HXw1.out.trans (hb.mono HXw1.out.size)); have HBw2 := Lib.hid (HBw1.out.through hb); clear hb))
  obtain ⟨bf, hbf⟩ : ∃ bf, bf = w.heap.size := ⟨_, rfl⟩
  rw [← hbf] at HBw2
  rw [← hbf]
  try dsimp only [Act.put]
  refine wp_region_held_drew (S := fun W => Blk W bf 33 [.int .i64 fo, .int .i64 fa, .slice A n c]) (by kernel_rfl) HBw2.out.drew (fun hHeld => ?_)
  change wpAnyH _ _ _ _ _ _ #[false, false, false, false, false, false, false] _ _
  refine wpAnyH_take (i := 0) (v := (.agg [.int .i64 fo, .int .i64 fa, .slice A n c].toArray)) rfl (by kernel_rfl) (by kernel_rfl) (by kernel_rfl) (fun _ _ _ h => h) (yields_load_at (by kernel_rfl) 33 (.tmp 3) rfl (.pointer (some ⟨bf, 0, none⟩)) (by simp [Act.eval]) (.agg [.int .i64 fo, .int .i64 fa, .slice A n c].toArray) (fun W hW => hW.loadAt 33 _ Try.underlying33 rfl (by kernel_rfl))) (by assumption) ?_
  change wpAnyH _ _ _ _ _ _ _ (Act.put _ (some (20 : Nat)) (.agg [.int .i64 fo, .int .i64 fa, .slice A n c].toArray)) _
  simp only [Act.put, List.setIfInBounds_toArray, List.set_cons_zero, List.set_cons_succ]
  refine wpAnyH_take (i := 1) (v := (.int .i64 y)) rfl (by kernel_rfl) (by kernel_rfl) (by kernel_rfl) (fun _ _ _ h => h) (Or.inl ⟨by kernel_rfl, fun w hSw => ?_⟩) (by assumption) ?_
  · (try dsimp only at hSw); go_simp <;> (try rfl)
  change wpAnyH _ _ _ _ _ _ _ (Act.put _ (some (21 : Nat)) (.int .i64 y)) _
  simp only [Act.put, List.setIfInBounds_toArray, List.set_cons_zero, List.set_cons_succ]
  refine wpAnyH_take (i := 3) (v := (.agg [.int .i64 fo, .int .i64 fa, .slice A n c].toArray)) rfl (by kernel_rfl) (by kernel_rfl) (by kernel_rfl) (fun _ _ _ h => h) (yields_load_at (by kernel_rfl) 33 (.tmp 3) rfl (.pointer (some ⟨bf, 0, none⟩)) (by simp [Act.eval]) (.agg [.int .i64 fo, .int .i64 fa, .slice A n c].toArray) (fun W hW => hW.loadAt 33 _ Try.underlying33 rfl (by kernel_rfl))) (by assumption) ?_
  change wpAnyH _ _ _ _ _ _ _ (Act.put _ (some (23 : Nat)) (.agg [.int .i64 fo, .int .i64 fa, .slice A n c].toArray)) _
  simp only [Act.put, List.setIfInBounds_toArray, List.set_cons_zero, List.set_cons_succ]
  refine wpAnyH_take (i := 4) (v := (.int .i64 y)) rfl (by kernel_rfl) (by kernel_rfl) (by kernel_rfl) (fun _ _ _ h => h) (Or.inl ⟨by kernel_rfl, fun w hSw => ?_⟩) (by assumption) ?_
  · (try dsimp only at hSw); go_simp <;> (try rfl)
  change wpAnyH _ _ _ _ _ _ _ (Act.put _ (some (24 : Nat)) (.int .i64 y)) _
  simp only [Act.put, List.setIfInBounds_toArray, List.set_cons_zero, List.set_cons_succ]
  refine wpAnyH_ready (rs := [2]) (by kernel_rfl) (by simp) ?_
  refine AllReadyH.cons rfl (fun K hK => ?_) AllReadyH.nil
  go_simp
  refine (HC.out _ (HF.out.through HXw2.out).drew).mono ?_
  rintro e b1 ⟨rfl, hb⟩; have hb' : Below w2.heap.size w2 b1 := ⟨hb.os, hb.tape, hb.output, hb.size, hb.block⟩; have HXb1 := Lib.hid (HXw2.out.trans (hb'.mono HXw2.out.size)); have HBb1 := Lib.hid (HBw2.out.through hb'); clear hb hb'
  go_wp2_with fail
  refine hK.out _ _ HBb1.out (fun hHeld1 => ?_)
  clear hHeld hK K
  have hHeld := hHeld1
  clear hHeld1
  refine wpAnyH_ready (rs := [5]) (by kernel_rfl) (by simp) ?_
  refine AllReadyH.cons rfl (fun K hK => ?_) AllReadyH.nil
  go_simp
  refine (HD.out _ (HF.out.through HXb1.out)).mono ?_
  rintro e b2 ⟨rfl, hb⟩; have hb' : Below b1.heap.size b1 b2 := ⟨hb.os, hb.tape, hb.output, hb.size, hb.block⟩; have HXb2 := Lib.hid (HXb1.out.trans (hb'.mono HXb1.out.size)); have HBb2 := Lib.hid (HBb1.out.through hb'); clear hb hb'
  go_wp2_with fail
  refine hK.out _ _ HBb2.out (fun hHeld1 => ?_)
  clear hHeld hK K
  have hHeld := hHeld1
  clear hHeld1
  refine wpAnyH_take (i := 6) (v := (.bool false)) rfl (by kernel_rfl) (by kernel_rfl) (by kernel_rfl) (fun _ _ _ h => h) (Or.inl ⟨by kernel_rfl, fun w hSw => ?_⟩) (by assumption) ?_
  · (try dsimp only at hSw); go_simp <;> (try rfl)
  change wpAnyH _ _ _ _ _ _ _ (Act.put _ (some (26 : Nat)) (.bool false)) _
  simp only [Act.put, List.setIfInBounds_toArray, List.set_cons_zero, List.set_cons_succ]
  refine wpAnyH_done (by kernel_rfl) ?_ _
  subst hbf
  go_wp2_with (first
    | (go_at_call 26; (with_reducible refine (HN.out _ (HF.out.through HXb3.out)).mono ?_); rintro e b4 ⟨rfl, hb⟩; have HXb4 := Lib.hid (HXb3.out.trans (hb.mono HXb3.out.size)); have HBb4 := Lib.hid (HBb3.out.through hb); clear hb)
    | (refine wpList_load_blk rfl 33 (.tmp 3) rfl w.heap.size rfl 33 [.int .i64 fo, .int .i64 fa, .slice A n c] _ HBb3.out Try.underlying33 rfl (by kernel_rfl) ?_)
    | (go_at_call 24; (with_reducible refine (HR.out _ (HF.out.through HXb2.out)).mono ?_); rintro e b3 ⟨rfl, hb⟩; have HXb3 := Lib.hid (HXb2.out.trans (hb.mono HXb2.out.size)); have HBb3 := Lib.hid (HBb2.out.through hb); clear hb)
    | (refine wpList_load_blk rfl 33 (.tmp 3) rfl w.heap.size rfl 33 [.int .i64 fo, .int .i64 fa, .slice A n c] _ HBb2.out Try.underlying33 rfl (by kernel_rfl) ?_))
  go_loopw [52] (fun iv wr => ∃ i : Nat, i ≤ 32 ∧ iv = .int .i64 (i : Int) ∧ Below w.heap.size w wr ∧ Blk wr w.heap.size 33 [.int .i64 fo, .int .i64 fa, .slice A n c]) (fun iv _ => 32 - (intOf iv).toNat)
  case atStart => exact ⟨0, by omega, rfl, HXb4.out, HBb4.out⟩
  case round =>
    obtain ⟨i, hi, rfl, hx, hb⟩ := hrel
    have HXwr := Lib.hid hx
    have HBwr := Lib.hid hb
    clear hx hb
    by_cases hlt : i < 32
    · have h1 := fun W => HHas.out i W hlt
      have h2 := fun W h => HStd.out i W h
      generalize nms.testBit i = b at h1 h2
      have HHi := Lib.hid h1
      have HTi := Lib.hid h2
      clear h1 h2
      go_wp2
      obtain ⟨bf, hbf⟩ : ∃ bf, bf = w.heap.size := ⟨_, rfl⟩
      rw [← hbf] at HBwr
      rw [← hbf]
      try dsimp only [Act.put]
      refine wp_region_held_drew (S := fun W => Blk W bf 33 [.int .i64 fo, .int .i64 fa, .slice A n c]) (by kernel_rfl) HBwr.out.drew (fun hHeld => ?_)
      change wpAnyH _ _ _ _ _ _ #[false, false, false, false, false, false, false] _ _
      refine wpAnyH_take (i := 0) (v := (.int .u32 (nms : Int))) rfl (by kernel_rfl) (by kernel_rfl) (by kernel_rfl) (fun _ _ _ h => h) (Or.inl ⟨by kernel_rfl, fun w hSw => ?_⟩) (by assumption) ?_
      · (try dsimp only at hSw); go_simp <;> (try rfl)
      change wpAnyH _ _ _ _ _ _ _ (Act.put _ (some (55 : Nat)) (.int .u32 (nms : Int))) _
      simp only [Act.put, List.setIfInBounds_toArray, List.set_cons_zero, List.set_cons_succ]
      refine wpAnyH_take (i := 1) (v := (.int .i64 (i : Int))) rfl (by kernel_rfl) (by kernel_rfl) (by kernel_rfl) (fun _ _ _ h => h) (Or.inl ⟨by kernel_rfl, fun w hSw => ?_⟩) (by assumption) ?_
      · (try dsimp only at hSw); go_simp <;> (try rfl)
      change wpAnyH _ _ _ _ _ _ _ (Act.put _ (some (56 : Nat)) (.int .i64 (i : Int))) _
      simp only [Act.put, List.setIfInBounds_toArray, List.set_cons_zero, List.set_cons_succ]
      refine wpAnyH_take (i := 3) (v := (.agg [.int .i64 fo, .int .i64 fa, .slice A n c].toArray)) rfl (by kernel_rfl) (by kernel_rfl) (by kernel_rfl) (fun _ _ _ h => h) (yields_load_at (by kernel_rfl) 33 (.tmp 3) rfl (.pointer (some ⟨bf, 0, none⟩)) (by simp [Act.eval]) (.agg [.int .i64 fo, .int .i64 fa, .slice A n c].toArray) (fun W hW => hW.loadAt 33 _ Try.underlying33 rfl (by kernel_rfl))) (by assumption) ?_
      change wpAnyH _ _ _ _ _ _ _ (Act.put _ (some (58 : Nat)) (.agg [.int .i64 fo, .int .i64 fa, .slice A n c].toArray)) _
      simp only [Act.put, List.setIfInBounds_toArray, List.set_cons_zero, List.set_cons_succ]
      refine wpAnyH_take (i := 4) (v := (.int .i64 (i : Int))) rfl (by kernel_rfl) (by kernel_rfl) (by kernel_rfl) (fun _ _ _ h => h) (Or.inl ⟨by kernel_rfl, fun w hSw => ?_⟩) (by assumption) ?_
      · (try dsimp only at hSw); go_simp <;> (try rfl)
      change wpAnyH _ _ _ _ _ _ _ (Act.put _ (some (59 : Nat)) (.int .i64 (i : Int))) _
      simp only [Act.put, List.setIfInBounds_toArray, List.set_cons_zero, List.set_cons_succ]
      refine wpAnyH_ready (rs := [2]) (by kernel_rfl) (by simp) ?_
      refine AllReadyH.cons rfl (fun K hK => ?_) AllReadyH.nil
      go_simp
      refine (HHi.out _).mono ?_
      rintro e c1 ⟨rfl, hb⟩; have hb' : Below wr.heap.size wr c1 := ⟨hb.os, hb.tape, hb.output, hb.size, hb.block⟩; have HXc1 := Lib.hid (HXwr.out.trans (hb'.mono HXwr.out.size)); have HBc1 := Lib.hid (HBwr.out.through hb'); clear hb hb'
      go_wp2_with fail
      refine hK.out _ _ HBc1.out (fun hHeld1 => ?_)
      clear hHeld hK K
      have hHeld := hHeld1
      clear hHeld1
      refine wpAnyH_ready (rs := [5]) (by kernel_rfl) (by simp) ?_
      refine AllReadyH.cons rfl (fun K hK => ?_) AllReadyH.nil
      go_simp
      refine (HTi.out _ (HF.out.through HXc1.out)).mono ?_
      rintro e c2 ⟨rfl, hb⟩; have hb' : Below c1.heap.size c1 c2 := ⟨hb.os, hb.tape, hb.output, hb.size, hb.block⟩; have HXc2 := Lib.hid (HXc1.out.trans (hb'.mono HXc1.out.size)); have HBc2 := Lib.hid (HBc1.out.through hb'); clear hb hb'
      go_wp2_with fail
      refine hK.out _ _ HBc2.out (fun hHeld1 => ?_)
      clear hHeld hK K
      have hHeld := hHeld1
      clear hHeld1
      refine wpAnyH_take (i := 6) (v := (.bool false)) rfl (by kernel_rfl) (by kernel_rfl) (by kernel_rfl) (fun _ _ _ h => h) (Or.inl ⟨by kernel_rfl, fun w hSw => ?_⟩) (by assumption) ?_
      · (try dsimp only at hSw); go_simp <;> (try rfl)
      change wpAnyH _ _ _ _ _ _ _ (Act.put _ (some (61 : Nat)) (.bool false)) _
      simp only [Act.put, List.setIfInBounds_toArray, List.set_cons_zero, List.set_cons_succ]
      refine wpAnyH_done (by kernel_rfl) ?_ _
      go_wp2
      go_roundw
      case rel => exact ⟨i + 1, by omega, by go_num, HXc2.out, by rw [← hbf]; exact HBc2.out⟩
      case measure => simp [intOf]; omega
    · obtain rfl : i = 32 := by omega
      go_wp2
      obtain ⟨bf, hbf⟩ : ∃ bf, bf = w.heap.size := ⟨_, rfl⟩
      rw [← hbf] at HBwr
      rw [← hbf]
      try dsimp only [Act.put]
      refine wp_region_held_drew (S := fun W => Blk W bf 33 [.int .i64 fo, .int .i64 fa, .slice A n c]) (by kernel_rfl) HBwr.out.drew (fun hHeld => ?_)
      change wpAnyH _ _ _ _ _ _ #[false, false, false, false, false, false, false, false, false, false, false, false, false, false, false, false, false, false, false, false, false, false, false, false] _ _
      refine wpAnyH_take (i := 0) (v := (.agg [.int .i64 fo, .int .i64 fa, .slice A n c].toArray)) rfl (by kernel_rfl) (by kernel_rfl) (by kernel_rfl) (fun _ _ _ h => h) (yields_load_at (by kernel_rfl) 33 (.tmp 3) rfl (.pointer (some ⟨bf, 0, none⟩)) (by simp [Act.eval]) (.agg [.int .i64 fo, .int .i64 fa, .slice A n c].toArray) (fun W hW => hW.loadAt 33 _ Try.underlying33 rfl (by kernel_rfl))) (by assumption) ?_
      change wpAnyH _ _ _ _ _ _ _ (Act.put _ (some (63 : Nat)) (.agg [.int .i64 fo, .int .i64 fa, .slice A n c].toArray)) _
      simp only [Act.put, List.setIfInBounds_toArray, List.set_cons_zero, List.set_cons_succ]
      refine wpAnyH_take (i := 1) (v := (.int .u32 (s : Int))) rfl (by kernel_rfl) (by kernel_rfl) (by kernel_rfl) (fun _ _ _ h => h) (Or.inl ⟨by kernel_rfl, fun w hSw => ?_⟩) (by assumption) ?_
      · (try dsimp only at hSw); go_simp <;> (try rfl)
      change wpAnyH _ _ _ _ _ _ _ (Act.put _ (some (64 : Nat)) (.int .u32 (s : Int))) _
      simp only [Act.put, List.setIfInBounds_toArray, List.set_cons_zero, List.set_cons_succ]
      refine wpAnyH_take (i := 3) (v := (.agg [.int .i64 fo, .int .i64 fa, .slice A n c].toArray)) rfl (by kernel_rfl) (by kernel_rfl) (by kernel_rfl) (fun _ _ _ h => h) (yields_load_at (by kernel_rfl) 33 (.tmp 3) rfl (.pointer (some ⟨bf, 0, none⟩)) (by simp [Act.eval]) (.agg [.int .i64 fo, .int .i64 fa, .slice A n c].toArray) (fun W hW => hW.loadAt 33 _ Try.underlying33 rfl (by kernel_rfl))) (by assumption) ?_
      change wpAnyH _ _ _ _ _ _ _ (Act.put _ (some (66 : Nat)) (.agg [.int .i64 fo, .int .i64 fa, .slice A n c].toArray)) _
      simp only [Act.put, List.setIfInBounds_toArray, List.set_cons_zero, List.set_cons_succ]
      refine wpAnyH_take (i := 4) (v := (.int .u32 (s : Int))) rfl (by kernel_rfl) (by kernel_rfl) (by kernel_rfl) (fun _ _ _ h => h) (Or.inl ⟨by kernel_rfl, fun w hSw => ?_⟩) (by assumption) ?_
      · (try dsimp only at hSw); go_simp <;> (try rfl)
      change wpAnyH _ _ _ _ _ _ _ (Act.put _ (some (67 : Nat)) (.int .u32 (s : Int))) _
      simp only [Act.put, List.setIfInBounds_toArray, List.set_cons_zero, List.set_cons_succ]
      refine wpAnyH_ready (rs := [2]) (by kernel_rfl) (by simp) ?_
      refine AllReadyH.cons rfl (fun K hK => ?_) AllReadyH.nil
      go_simp
      refine (HH.out _ (HF.out.through HXwr.out).drew).mono ?_
      rintro e d1 ⟨rfl, hb⟩; have hb' : Below wr.heap.size wr d1 := ⟨hb.os, hb.tape, hb.output, hb.size, hb.block⟩; have HXd1 := Lib.hid (HXwr.out.trans (hb'.mono HXwr.out.size)); have HBd1 := Lib.hid (HBwr.out.through hb'); clear hb hb'
      go_wp2_with fail
      refine hK.out _ _ HBd1.out (fun hHeld1 => ?_)
      clear hHeld hK K
      have hHeld := hHeld1
      clear hHeld1
      refine wpAnyH_ready (rs := [5]) (by kernel_rfl) (by simp) ?_
      refine AllReadyH.cons rfl (fun K hK => ?_) AllReadyH.nil
      go_simp
      refine (HRH.out _ (HF.out.through HXd1.out)).mono ?_
      rintro e d2 ⟨rfl, hb⟩; have hb' : Below d1.heap.size d1 d2 := ⟨hb.os, hb.tape, hb.output, hb.size, hb.block⟩; have HXd2 := Lib.hid (HXd1.out.trans (hb'.mono HXd1.out.size)); have HBd2 := Lib.hid (HBd1.out.through hb'); clear hb hb'
      go_wp2_with fail
      refine hK.out _ _ HBd2.out (fun hHeld1 => ?_)
      clear hHeld hK K
      have hHeld := hHeld1
      clear hHeld1
      refine wpAnyH_take (i := 6) (v := (.bool true)) rfl (by kernel_rfl) (by kernel_rfl) (by kernel_rfl) (fun _ _ _ h => h) (Or.inl ⟨by kernel_rfl, fun w hSw => ?_⟩) (by assumption) ?_
      · (try dsimp only at hSw); go_simp <;> (try rfl)
      change wpAnyH _ _ _ _ _ _ _ (Act.put _ (some (69 : Nat)) (.bool true)) _
      simp only [Act.put, List.setIfInBounds_toArray, List.set_cons_zero, List.set_cons_succ]
      refine wpAnyH_take (i := 7) (v := (.bool true)) rfl (by kernel_rfl) (by kernel_rfl) (by kernel_rfl) (fun _ _ _ h => h) (Or.inl ⟨by kernel_rfl, fun w hSw => ?_⟩) (by assumption) ?_
      · (try dsimp only at hSw); go_simp <;> (try rfl)
      change wpAnyH _ _ _ _ _ _ _ (Act.put _ (some (70 : Nat)) (.bool true)) _
      simp only [Act.put, List.setIfInBounds_toArray, List.set_cons_zero, List.set_cons_succ]
      refine wpAnyH_take (i := 8) (v := (.agg [.int .i64 fo, .int .i64 fa, .slice A n c].toArray)) rfl (by kernel_rfl) (by kernel_rfl) (by kernel_rfl) (fun _ _ _ h => h) (yields_load_at (by kernel_rfl) 33 (.tmp 3) rfl (.pointer (some ⟨bf, 0, none⟩)) (by simp [Act.eval]) (.agg [.int .i64 fo, .int .i64 fa, .slice A n c].toArray) (fun W hW => hW.loadAt 33 _ Try.underlying33 rfl (by kernel_rfl))) (by assumption) ?_
      change wpAnyH _ _ _ _ _ _ _ (Act.put _ (some (71 : Nat)) (.agg [.int .i64 fo, .int .i64 fa, .slice A n c].toArray)) _
      simp only [Act.put, List.setIfInBounds_toArray, List.set_cons_zero, List.set_cons_succ]
      refine wpAnyH_take (i := 10) (v := (.agg [.int .i64 fo, .int .i64 fa, .slice A n c].toArray)) rfl (by kernel_rfl) (by kernel_rfl) (by kernel_rfl) (fun _ _ _ h => h) (yields_load_at (by kernel_rfl) 33 (.tmp 3) rfl (.pointer (some ⟨bf, 0, none⟩)) (by simp [Act.eval]) (.agg [.int .i64 fo, .int .i64 fa, .slice A n c].toArray) (fun W hW => hW.loadAt 33 _ Try.underlying33 rfl (by kernel_rfl))) (by assumption) ?_
      change wpAnyH _ _ _ _ _ _ _ (Act.put _ (some (73 : Nat)) (.agg [.int .i64 fo, .int .i64 fa, .slice A n c].toArray)) _
      simp only [Act.put, List.setIfInBounds_toArray, List.set_cons_zero, List.set_cons_succ]
      refine wpAnyH_ready (rs := [9]) (by kernel_rfl) (by simp) ?_
      refine AllReadyH.cons rfl (fun K hK => ?_) AllReadyH.nil
      go_simp
      refine (HL.out _ (HF.out.through HXd2.out)).mono ?_
      rintro e d3 ⟨rfl, hb⟩; have hb' : Below d2.heap.size d2 d3 := ⟨hb.os, hb.tape, hb.output, hb.size, hb.block⟩; have HXd3 := Lib.hid (HXd2.out.trans (hb'.mono HXd2.out.size)); have HBd3 := Lib.hid (HBd2.out.through hb'); clear hb hb'
      go_wp2_with fail
      refine hK.out _ _ HBd3.out (fun hHeld1 => ?_)
      clear hHeld hK K
      have hHeld := hHeld1
      clear hHeld1
      refine wpAnyH_ready (rs := [11]) (by kernel_rfl) (by simp) ?_
      refine AllReadyH.cons rfl (fun K hK => ?_) AllReadyH.nil
      go_simp
      refine (HRL.out _ (HF.out.through HXd3.out)).mono ?_
      rintro e d4 ⟨rfl, hb⟩; have hb' : Below d3.heap.size d3 d4 := ⟨hb.os, hb.tape, hb.output, hb.size, hb.block⟩; have HXd4 := Lib.hid (HXd3.out.trans (hb'.mono HXd3.out.size)); have HBd4 := Lib.hid (HBd3.out.through hb'); clear hb hb'
      go_wp2_with fail
      refine hK.out _ _ HBd4.out (fun hHeld1 => ?_)
      clear hHeld hK K
      have hHeld := hHeld1
      clear hHeld1
      refine wpAnyH_take (i := 12) (v := (.bool true)) rfl (by kernel_rfl) (by kernel_rfl) (by kernel_rfl) (fun _ _ _ h => h) (Or.inl ⟨by kernel_rfl, fun w hSw => ?_⟩) (by assumption) ?_
      · (try dsimp only at hSw); go_simp <;> (try rfl)
      change wpAnyH _ _ _ _ _ _ _ (Act.put _ (some (75 : Nat)) (.bool true)) _
      simp only [Act.put, List.setIfInBounds_toArray, List.set_cons_zero, List.set_cons_succ]
      refine wpAnyH_take (i := 13) (v := (.bool true)) rfl (by kernel_rfl) (by kernel_rfl) (by kernel_rfl) (fun _ _ _ h => h) (Or.inl ⟨by kernel_rfl, fun w hSw => ?_⟩) (by assumption) ?_
      · (try dsimp only at hSw); go_simp <;> (try rfl)
      change wpAnyH _ _ _ _ _ _ _ (Act.put _ (some (76 : Nat)) (.bool true)) _
      simp only [Act.put, List.setIfInBounds_toArray, List.set_cons_zero, List.set_cons_succ]
      refine wpAnyH_take (i := 14) (v := (.bool true)) rfl (by kernel_rfl) (by kernel_rfl) (by kernel_rfl) (fun _ _ _ h => h) (Or.inl ⟨by kernel_rfl, fun w hSw => ?_⟩) (by assumption) ?_
      · (try dsimp only at hSw); go_simp <;> (try rfl)
      change wpAnyH _ _ _ _ _ _ _ (Act.put _ (some (77 : Nat)) (.bool true)) _
      simp only [Act.put, List.setIfInBounds_toArray, List.set_cons_zero, List.set_cons_succ]
      refine wpAnyH_take (i := 15) (v := (.agg [.int .i64 fo, .int .i64 fa, .slice A n c].toArray)) rfl (by kernel_rfl) (by kernel_rfl) (by kernel_rfl) (fun _ _ _ h => h) (yields_load_at (by kernel_rfl) 33 (.tmp 3) rfl (.pointer (some ⟨bf, 0, none⟩)) (by simp [Act.eval]) (.agg [.int .i64 fo, .int .i64 fa, .slice A n c].toArray) (fun W hW => hW.loadAt 33 _ Try.underlying33 rfl (by kernel_rfl))) (by assumption) ?_
      change wpAnyH _ _ _ _ _ _ _ (Act.put _ (some (78 : Nat)) (.agg [.int .i64 fo, .int .i64 fa, .slice A n c].toArray)) _
      simp only [Act.put, List.setIfInBounds_toArray, List.set_cons_zero, List.set_cons_succ]
      refine wpAnyH_take (i := 16) (v := (.int .u32 (s : Int))) rfl (by kernel_rfl) (by kernel_rfl) (by kernel_rfl) (fun _ _ _ h => h) (Or.inl ⟨by kernel_rfl, fun w hSw => ?_⟩) (by assumption) ?_
      · (try dsimp only at hSw); go_simp <;> (try rfl)
      change wpAnyH _ _ _ _ _ _ _ (Act.put _ (some (79 : Nat)) (.int .u32 (s : Int))) _
      simp only [Act.put, List.setIfInBounds_toArray, List.set_cons_zero, List.set_cons_succ]
      refine wpAnyH_take (i := 18) (v := (.agg [.int .i64 fo, .int .i64 fa, .slice A n c].toArray)) rfl (by kernel_rfl) (by kernel_rfl) (by kernel_rfl) (fun _ _ _ h => h) (yields_load_at (by kernel_rfl) 33 (.tmp 3) rfl (.pointer (some ⟨bf, 0, none⟩)) (by simp [Act.eval]) (.agg [.int .i64 fo, .int .i64 fa, .slice A n c].toArray) (fun W hW => hW.loadAt 33 _ Try.underlying33 rfl (by kernel_rfl))) (by assumption) ?_
      change wpAnyH _ _ _ _ _ _ _ (Act.put _ (some (81 : Nat)) (.agg [.int .i64 fo, .int .i64 fa, .slice A n c].toArray)) _
      simp only [Act.put, List.setIfInBounds_toArray, List.set_cons_zero, List.set_cons_succ]
      refine wpAnyH_take (i := 19) (v := (.int .u32 (s : Int))) rfl (by kernel_rfl) (by kernel_rfl) (by kernel_rfl) (fun _ _ _ h => h) (Or.inl ⟨by kernel_rfl, fun w hSw => ?_⟩) (by assumption) ?_
      · (try dsimp only at hSw); go_simp <;> (try rfl)
      change wpAnyH _ _ _ _ _ _ _ (Act.put _ (some (82 : Nat)) (.int .u32 (s : Int))) _
      simp only [Act.put, List.setIfInBounds_toArray, List.set_cons_zero, List.set_cons_succ]
      refine wpAnyH_ready (rs := [17]) (by kernel_rfl) (by simp) ?_
      refine AllReadyH.cons rfl (fun K hK => ?_) AllReadyH.nil
      go_simp
      refine (HS.out _ (HF.out.through HXd4.out)).mono ?_
      rintro e d5 ⟨rfl, hb⟩; have hb' : Below d4.heap.size d4 d5 := ⟨hb.os, hb.tape, hb.output, hb.size, hb.block⟩; have HXd5 := Lib.hid (HXd4.out.trans (hb'.mono HXd4.out.size)); have HBd5 := Lib.hid (HBd4.out.through hb'); clear hb hb'
      go_wp2_with fail
      refine hK.out _ _ HBd5.out (fun hHeld1 => ?_)
      clear hHeld hK K
      have hHeld := hHeld1
      clear hHeld1
      refine wpAnyH_ready (rs := [20]) (by kernel_rfl) (by simp) ?_
      refine AllReadyH.cons rfl (fun K hK => ?_) AllReadyH.nil
      go_simp
      refine (HRS.out _ (HF.out.through HXd5.out)).mono ?_
      rintro e d6 ⟨rfl, hb⟩; have hb' : Below d5.heap.size d5 d6 := ⟨hb.os, hb.tape, hb.output, hb.size, hb.block⟩; have HXd6 := Lib.hid (HXd5.out.trans (hb'.mono HXd5.out.size)); have HBd6 := Lib.hid (HBd5.out.through hb'); clear hb hb'
      go_wp2_with fail
      refine hK.out _ _ HBd6.out (fun hHeld1 => ?_)
      clear hHeld hK K
      have hHeld := hHeld1
      clear hHeld1
      refine wpAnyH_take (i := 21) (v := (.bool true)) rfl (by kernel_rfl) (by kernel_rfl) (by kernel_rfl) (fun _ _ _ h => h) (Or.inl ⟨by kernel_rfl, fun w hSw => ?_⟩) (by assumption) ?_
      · (try dsimp only at hSw); go_simp <;> (try rfl)
      change wpAnyH _ _ _ _ _ _ _ (Act.put _ (some (84 : Nat)) (.bool true)) _
      simp only [Act.put, List.setIfInBounds_toArray, List.set_cons_zero, List.set_cons_succ]
      refine wpAnyH_take (i := 22) (v := (.bool true)) rfl (by kernel_rfl) (by kernel_rfl) (by kernel_rfl) (fun _ _ _ h => h) (Or.inl ⟨by kernel_rfl, fun w hSw => ?_⟩) (by assumption) ?_
      · (try dsimp only at hSw); go_simp <;> (try rfl)
      change wpAnyH _ _ _ _ _ _ _ (Act.put _ (some (85 : Nat)) (.bool true)) _
      simp only [Act.put, List.setIfInBounds_toArray, List.set_cons_zero, List.set_cons_succ]
      refine wpAnyH_take (i := 23) (v := (.bool true)) rfl (by kernel_rfl) (by kernel_rfl) (by kernel_rfl) (fun _ _ _ h => h) (Or.inl ⟨by kernel_rfl, fun w hSw => ?_⟩) (by assumption) ?_
      · (try dsimp only at hSw); go_simp <;> (try rfl)
      change wpAnyH _ _ _ _ _ _ _ (Act.put _ (some (6 : Nat)) (.bool true)) _
      simp only [Act.put, List.setIfInBounds_toArray, List.set_cons_zero, List.set_cons_succ]
      refine wpAnyH_done (by kernel_rfl) ?_ _
      go_wp2
      go_ret
      exact ⟨rfl, HXd6.out⟩

theorem ltells_any (f : Fm) (y : Int) (s : Nat) (hs : s < 4294967296) (A : Option Addr) (n c : Nat) (w : World) (h : f.In w (fun _ => True) A n) :
    Calls Try.prog 5 #[f.val A n c, .int .i64 y, .int .u32 (s : Int)] w fun e w' => e = .returned (.bool true) ∧ Below w.heap.size w w' := by
  cases hok : (fewP 1 f).2
  · exact ltells_far f y s hs A n c w h hok
  · cases hmb : f.mb
    · exact ltells_no f y s hs A n c w h hok hmb
    · exact ltells_yes f y s hs A n c w h hok hmb

end Go.Proofs.Ytkildlonenjmaaa
