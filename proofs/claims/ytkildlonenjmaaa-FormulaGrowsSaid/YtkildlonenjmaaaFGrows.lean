/-
  FormulaGrows, walked.
-/
import Derived.Test.YtkildlonenjmaaaF15b
namespace Go.Proofs.Ytkildlonenjmaaa
open Go.RowKit

/-- who isn't named counts for nothing -/
theorem Fm.hold_names (f : Fm) (s : Nat) : f.hold (s &&& f.names) = f.hold s := f.hold_congr fun i hi => by rw [Nat.testBit_and, hi, Bool.and_true]

set_option maxHeartbeats 16000000 in
set_option maxRecDepth 100000 in
theorem lgrows_any (f : Fm) (s : Nat) (hs : s < 4294967296) (m : Nat) (hm : m < 4294967296) (A : Option Addr) (n c : Nat) (w : World) (h : f.In w (fun _ => True) A n) :
    Calls Try.prog 6 #[f.val A n c, .int .u32 (s : Int), .int .u32 (m : Int)] w fun e w' => e = .returned (.bool true) ∧ Below w.heap.size w w' := by
  have hfw : ∀ W, f.In W (fun _ => True) A n → Calls Try.prog 21 #[f.val A n c, .int .i64 1] W fun e w' => e = .returned (.tuple #[.int .i64 (fewP 1 f).1, .bool (fewP 1 f).2]) ∧ Below W.heap.size W w' := fun W h => few_walk f 1 A n c W h
  have HF := Lib.hid h
  cases hok : (fewP 1 f).2
  case false =>
    rw [hok] at hfw
    generalize (fewP 1 f).1 = fm at *
    unfold Fm.val at hfw
    unfold Fm.val
    generalize f.org = fo at *
    generalize f.nd = fa at *
    have HW := Lib.hid hfw
    clear hfw h hok
    have hB0 : Blk (w.alloc (.cells #[.int .i64 fo, .int .i64 fa, .slice A n c] 33)) w.heap.size 33 [.int .i64 fo, .int .i64 fa, .slice A n c] := Blk.fresh rfl rfl
    have HB0 := Lib.hid hB0
    have HX0 : Hid (Below w.heap.size w (w.alloc (.cells #[.int .i64 fo, .int .i64 fa, .slice A n c] 33))) := Lib.hid ((Below.refl _ w).alloc (Nat.le_refl _) _)
    clear hB0
    go_enter Try.func6, Try.ntmps6
    go_wp2_with (first
    | (go_at_call 20; (with_reducible refine (ffixed_any _).mono ?_); rintro e w1 ⟨rfl, hb⟩; have HXw1 : Hid (Below w.heap.size w w1) := Lib.hid (HX0.out.trans (hb.mono (by simp))); have HBw1 := Lib.hid (HB0.out.through hb); clear hb)
    | (refine wpList_load_blk rfl 33 (.tmp 3) rfl w.heap.size rfl 33 [.int .i64 fo, .int .i64 fa, .slice A n c] _ HBw1.out Try.underlying33 rfl (by kernel_rfl) ?_)
    | (go_at_call 21; (with_reducible refine (HW.out _ (HF.out.through HXw1.out)).mono ?_); rintro e w2 ⟨rfl, hb⟩; have HXw2 := Lib.hid (HXw1.out.trans (hb.mono HXw1.out.size)); have HBw2 := Lib.hid (HBw1.out.through hb); clear hb))
    go_ret
    exact ⟨rfl, HXw2.out⟩
  case true =>
    have hfz := few_ok hok
    obtain ⟨hd, hhd⟩ : ∃ hd : Nat → Bool, ∀ x, hd x = (f.mb && f.hold x) := ⟨fun x => f.mb && f.hold x, fun _ => rfl⟩
    have hho : ∀ x, x < 4294967296 → ∀ W, f.In W (fun _ => True) A n → Calls Try.prog 25 #[f.val A n c, .int .u32 ((x : Nat) : Int)] W fun e w' => e = .returned (.bool (hd x)) ∧ Below W.heap.size W w' := fun x hx W h => by rw [hhd]; exact Hold_any x hx f A n c W hfz h
    have hst : ∀ W, f.In W (fun _ => True) A n → Calls Try.prog 28 #[f.val A n c, .int .u32 ((cpl s : Nat) : Int)] W fun e w' => e = .returned (.bool (f.mb && !f.hold s)) ∧ Below W.heap.size W w' := fun W h => by
      have := Stop_any (cpl s) (cpl_lt s) f A n c W hfz h
      rw [cpl_cpl s hs] at this
      exact this
    have hnm : ∀ W, f.In W (fun _ => True) A n → Calls Try.prog 26 #[f.val A n c] W fun e w' => e = .returned (.int .u32 (f.nms : Int)) ∧ Below W.heap.size W w' := fun W h => Name_any f A n c W hfz h
    -- the plain facts
    have e1 : hd (s &&& f.nms) = hd s := by
      rw [hhd, hhd]
      unfold Fm.nms
      cases hmb : f.mb
      · rfl
      · rw [if_pos rfl, f.hold_names]
    have e2 : hd s = true → hd (s ||| m) = true := fun h0 => by
      rw [hhd, Bool.and_eq_true] at h0
      rw [hhd, h0.1, Bool.true_and]
      exact f.hold_mono (fun i _ hi => by rw [Nat.testBit_or, hi, Bool.true_or]) h0.2
    have e3 : hd s = true → (f.mb && !f.hold s) = false := fun h0 => by
      rw [hhd, Bool.and_eq_true] at h0
      rw [h0.1, h0.2]
      rfl
    have hnl := f.nms_lt
    have hh1 := hho s hs
    have hh2 := hho (s ||| m) (Nat.or_lt_two_pow (n := 32) hs hm)
    have hh3 := hho (s &&& f.nms) (Nat.lt_of_le_of_lt Nat.and_le_left hs)
    rw [e1] at hh3
    have hor := u32_or s m hs hm
    have han := u32_and s f.nms hs (by omega)
    have hno := u32_not s hs
    have hno' := u32_not' s hs
    rw [hok] at hfw
    generalize (fewP 1 f).1 = fm at *
    generalize ((s &&& f.nms : Nat) : Int) = sn at *
    generalize ((s ||| m : Nat) : Int) = so at hh2 hor
    generalize ((cpl s : Nat) : Int) = sc at *
    generalize (f.nms : Int) = nms at *
    clear hho hfz hok hnl e1
    cases hds : hd s
    case' true =>
      rw [e2 hds] at hh2
      rw [e3 hds] at hst
    all_goals
      rw [hds] at hh1 hh3
      clear e2 e3 hds hhd
      unfold Fm.val at hfw hnm hst hh1 hh2 hh3
      unfold Fm.val
      generalize f.org = fo at *
      generalize f.nd = fa at *
      have HW := Lib.hid hfw
      have HN := Lib.hid hnm
      have HS := Lib.hid hst
      have HH1 := Lib.hid hh1
      have HH2 := Lib.hid hh2
      have HH3 := Lib.hid hh3
      clear hfw h hnm hst hh1 hh2 hh3
      have hB0 : Blk (w.alloc (.cells #[.int .i64 fo, .int .i64 fa, .slice A n c] 33)) w.heap.size 33 [.int .i64 fo, .int .i64 fa, .slice A n c] := Blk.fresh rfl rfl
      have HB0 := Lib.hid hB0
      have HX0 : Hid (Below w.heap.size w (w.alloc (.cells #[.int .i64 fo, .int .i64 fa, .slice A n c] 33))) := Lib.hid ((Below.refl _ w).alloc (Nat.le_refl _) _)
      clear hB0
      go_enter Try.func6, Try.ntmps6
    · go_wp2_with (first
        | (go_at_call 25; (with_reducible refine (HH2.out _ (HF.out.through HXw3.out)).mono ?_); rintro e w4 ⟨rfl, hb⟩; have HXw4 := Lib.hid (HXw3.out.trans (hb.mono HXw3.out.size)); have HBw4 := Lib.hid (HBw3.out.through hb); clear hb)
        | (refine wpList_load_blk_g 33 (.tmp 3) rfl (by kernel_rfl) w.heap.size rfl 33 [.int .i64 fo, .int .i64 fa, .slice A n c] _ HBw3.out Try.underlying33 rfl (by kernel_rfl) ?_)
        | (go_at_call 25; (with_reducible refine (HH1.out _ (HF.out.through HXw2.out)).mono ?_); rintro e w3 ⟨rfl, hb⟩; have HXw3 := Lib.hid (HXw2.out.trans (hb.mono HXw2.out.size)); have HBw3 := Lib.hid (HBw2.out.through hb); clear hb)
        | (refine wpList_load_blk rfl 33 (.tmp 3) rfl w.heap.size rfl 33 [.int .i64 fo, .int .i64 fa, .slice A n c] _ HBw2.out Try.underlying33 rfl (by kernel_rfl) ?_)
        | (go_at_call 20; (with_reducible refine (ffixed_any _).mono ?_); rintro e w1 ⟨rfl, hb⟩; have HXw1 : Hid (Below w.heap.size w w1) := Lib.hid (HX0.out.trans (hb.mono (by simp))); have HBw1 := Lib.hid (HB0.out.through hb); clear hb)
        | (refine wpList_load_blk rfl 33 (.tmp 3) rfl w.heap.size rfl 33 [.int .i64 fo, .int .i64 fa, .slice A n c] _ HBw1.out Try.underlying33 rfl (by kernel_rfl) ?_)
        | (go_at_call 21; (with_reducible refine (HW.out _ (HF.out.through HXw1.out)).mono ?_); rintro e w2 ⟨rfl, hb⟩; have HXw2 := Lib.hid (HXw1.out.trans (hb.mono HXw1.out.size)); have HBw2 := Lib.hid (HBw1.out.through hb); clear hb))
      obtain ⟨bf, hbf⟩ : ∃ bf, bf = w.heap.size := ⟨_, rfl⟩
      rw [← hbf] at HBw4
      rw [← hbf]
      try dsimp only [Act.put]
      refine wp_region_held_drew (S := fun W => Blk W bf 33 [.int .i64 fo, .int .i64 fa, .slice A n c]) (by kernel_rfl) HBw4.out.drew (fun hHeld => ?_)
      change wpAnyH _ _ _ _ _ _ #[false, false, false, false, false, false, false, false, false, false, false, false, false, false, false, false, false, false, false, false, false, false, false, false] _ _
      refine wpAnyH_take (i := 0) (v := (.agg [.int .i64 fo, .int .i64 fa, .slice A n c].toArray)) rfl (by kernel_rfl) (by kernel_rfl) (by kernel_rfl) (fun _ _ _ h => h) (yields_load_at (by kernel_rfl) 33 (.tmp 3) rfl (.pointer (some ⟨bf, 0, none⟩)) (by simp [Act.eval]) (.agg [.int .i64 fo, .int .i64 fa, .slice A n c].toArray) (fun W hW => hW.loadAt 33 _ Try.underlying33 rfl (by kernel_rfl))) (by assumption) ?_
      change wpAnyH _ _ _ _ _ _ _ (Act.put _ (some (29 : Nat)) (.agg [.int .i64 fo, .int .i64 fa, .slice A n c].toArray)) _
      simp only [Act.put, List.setIfInBounds_toArray, List.set_cons_zero, List.set_cons_succ]
      refine wpAnyH_take (i := 1) (v := (.int .u32 (s : Int))) rfl (by kernel_rfl) (by kernel_rfl) (by kernel_rfl) (fun _ _ _ h => h) (Or.inl ⟨by kernel_rfl, fun w hSw => ?_⟩) (by assumption) ?_
      · (try dsimp only at hSw); go_simp <;> (try rfl)
      change wpAnyH _ _ _ _ _ _ _ (Act.put _ (some (30 : Nat)) (.int .u32 (s : Int))) _
      simp only [Act.put, List.setIfInBounds_toArray, List.set_cons_zero, List.set_cons_succ]
      refine wpAnyH_take (i := 3) (v := (.agg [.int .i64 fo, .int .i64 fa, .slice A n c].toArray)) rfl (by kernel_rfl) (by kernel_rfl) (by kernel_rfl) (fun _ _ _ h => h) (yields_load_at (by kernel_rfl) 33 (.tmp 3) rfl (.pointer (some ⟨bf, 0, none⟩)) (by simp [Act.eval]) (.agg [.int .i64 fo, .int .i64 fa, .slice A n c].toArray) (fun W hW => hW.loadAt 33 _ Try.underlying33 rfl (by kernel_rfl))) (by assumption) ?_
      change wpAnyH _ _ _ _ _ _ _ (Act.put _ (some (32 : Nat)) (.agg [.int .i64 fo, .int .i64 fa, .slice A n c].toArray)) _
      simp only [Act.put, List.setIfInBounds_toArray, List.set_cons_zero, List.set_cons_succ]
      refine wpAnyH_take (i := 4) (v := (.int .u32 (s : Int))) rfl (by kernel_rfl) (by kernel_rfl) (by kernel_rfl) (fun _ _ _ h => h) (Or.inl ⟨by kernel_rfl, fun w hSw => ?_⟩) (by assumption) ?_
      · (try dsimp only at hSw); go_simp <;> (try rfl)
      change wpAnyH _ _ _ _ _ _ _ (Act.put _ (some (33 : Nat)) (.int .u32 (s : Int))) _
      simp only [Act.put, List.setIfInBounds_toArray, List.set_cons_zero, List.set_cons_succ]
      refine wpAnyH_take (i := 5) (v := (.agg [.int .i64 fo, .int .i64 fa, .slice A n c].toArray)) rfl (by kernel_rfl) (by kernel_rfl) (by kernel_rfl) (fun _ _ _ h => h) (yields_load_at (by kernel_rfl) 33 (.tmp 3) rfl (.pointer (some ⟨bf, 0, none⟩)) (by simp [Act.eval]) (.agg [.int .i64 fo, .int .i64 fa, .slice A n c].toArray) (fun W hW => hW.loadAt 33 _ Try.underlying33 rfl (by kernel_rfl))) (by assumption) ?_
      change wpAnyH _ _ _ _ _ _ _ (Act.put _ (some (34 : Nat)) (.agg [.int .i64 fo, .int .i64 fa, .slice A n c].toArray)) _
      simp only [Act.put, List.setIfInBounds_toArray, List.set_cons_zero, List.set_cons_succ]
      refine wpAnyH_ready (rs := [2]) (by kernel_rfl) (by simp) ?_
      refine AllReadyH.cons rfl (fun K hK => ?_) AllReadyH.nil
      go_simp
      refine (HH1.out _ (HF.out.through HXw4.out).drew).mono ?_
      rintro e a1 ⟨rfl, hb⟩; have hb' : Below w4.heap.size w4 a1 := ⟨hb.os, hb.tape, hb.output, hb.size, hb.block⟩; have HXa1 := Lib.hid (HXw4.out.trans (hb'.mono HXw4.out.size)); have HBa1 := Lib.hid (HBw4.out.through hb'); clear hb hb'
      go_wp2_with fail
      refine hK.out _ _ HBa1.out (fun hHeld1 => ?_)
      clear hHeld hK K
      have hHeld := hHeld1
      clear hHeld1
      refine wpAnyH_ready (rs := [6]) (by kernel_rfl) (by simp) ?_
      refine AllReadyH.cons rfl (fun K hK => ?_) AllReadyH.nil
      go_simp
      refine (HN.out _ (HF.out.through HXa1.out)).mono ?_
      rintro e a2 ⟨rfl, hb⟩; have hb' : Below a1.heap.size a1 a2 := ⟨hb.os, hb.tape, hb.output, hb.size, hb.block⟩; have HXa2 := Lib.hid (HXa1.out.trans (hb'.mono HXa1.out.size)); have HBa2 := Lib.hid (HBa1.out.through hb'); clear hb hb'
      go_wp2_with fail
      refine hK.out _ _ HBa2.out (fun hHeld1 => ?_)
      clear hHeld hK K
      have hHeld := hHeld1
      clear hHeld1
      refine wpAnyH_take (i := 7) (v := (.int .u32 sn)) rfl (by kernel_rfl) (by kernel_rfl) (by kernel_rfl) (fun _ _ _ h => h) (Or.inl ⟨by kernel_rfl, fun w hSw => ?_⟩) (by assumption) ?_
      · (try dsimp only at hSw); go_simp <;> (try rfl)
      change wpAnyH _ _ _ _ _ _ _ (Act.put _ (some (36 : Nat)) (.int .u32 sn)) _
      simp only [Act.put, List.setIfInBounds_toArray, List.set_cons_zero, List.set_cons_succ]
      refine wpAnyH_ready (rs := [8]) (by kernel_rfl) (by simp) ?_
      refine AllReadyH.cons rfl (fun K hK => ?_) AllReadyH.nil
      go_simp
      refine (HH3.out _ (HF.out.through HXa2.out)).mono ?_
      rintro e a3 ⟨rfl, hb⟩; have hb' : Below a2.heap.size a2 a3 := ⟨hb.os, hb.tape, hb.output, hb.size, hb.block⟩; have HXa3 := Lib.hid (HXa2.out.trans (hb'.mono HXa2.out.size)); have HBa3 := Lib.hid (HBa2.out.through hb'); clear hb hb'
      go_wp2_with fail
      refine hK.out _ _ HBa3.out (fun hHeld1 => ?_)
      clear hHeld hK K
      have hHeld := hHeld1
      clear hHeld1
      refine wpAnyH_take (i := 9) (v := (.bool true)) rfl (by kernel_rfl) (by kernel_rfl) (by kernel_rfl) (fun _ _ _ h => h) (Or.inl ⟨by kernel_rfl, fun w hSw => ?_⟩) (by assumption) ?_
      · (try dsimp only at hSw); go_simp <;> (try rfl)
      change wpAnyH _ _ _ _ _ _ _ (Act.put _ (some (38 : Nat)) (.bool true)) _
      simp only [Act.put, List.setIfInBounds_toArray, List.set_cons_zero, List.set_cons_succ]
      refine wpAnyH_take (i := 10) (v := (.bool true)) rfl (by kernel_rfl) (by kernel_rfl) (by kernel_rfl) (fun _ _ _ h => h) (Or.inl ⟨by kernel_rfl, fun w hSw => ?_⟩) (by assumption) ?_
      · (try dsimp only at hSw); go_simp <;> (try rfl)
      change wpAnyH _ _ _ _ _ _ _ (Act.put _ (some (39 : Nat)) (.bool true)) _
      simp only [Act.put, List.setIfInBounds_toArray, List.set_cons_zero, List.set_cons_succ]
      refine wpAnyH_take (i := 11) (v := (.agg [.int .i64 fo, .int .i64 fa, .slice A n c].toArray)) rfl (by kernel_rfl) (by kernel_rfl) (by kernel_rfl) (fun _ _ _ h => h) (yields_load_at (by kernel_rfl) 33 (.tmp 3) rfl (.pointer (some ⟨bf, 0, none⟩)) (by simp [Act.eval]) (.agg [.int .i64 fo, .int .i64 fa, .slice A n c].toArray) (fun W hW => hW.loadAt 33 _ Try.underlying33 rfl (by kernel_rfl))) (by assumption) ?_
      change wpAnyH _ _ _ _ _ _ _ (Act.put _ (some (40 : Nat)) (.agg [.int .i64 fo, .int .i64 fa, .slice A n c].toArray)) _
      simp only [Act.put, List.setIfInBounds_toArray, List.set_cons_zero, List.set_cons_succ]
      refine wpAnyH_take (i := 12) (v := (.int .u32 (s : Int))) rfl (by kernel_rfl) (by kernel_rfl) (by kernel_rfl) (fun _ _ _ h => h) (Or.inl ⟨by kernel_rfl, fun w hSw => ?_⟩) (by assumption) ?_
      · (try dsimp only at hSw); go_simp <;> (try rfl)
      change wpAnyH _ _ _ _ _ _ _ (Act.put _ (some (41 : Nat)) (.int .u32 (s : Int))) _
      simp only [Act.put, List.setIfInBounds_toArray, List.set_cons_zero, List.set_cons_succ]
      refine wpAnyH_ready (rs := [13]) (by kernel_rfl) (by simp) ?_
      refine AllReadyH.cons rfl (fun K hK => ?_) AllReadyH.nil
      go_simp
      refine (HH1.out _ (HF.out.through HXa3.out)).mono ?_
      rintro e a4 ⟨rfl, hb⟩; have hb' : Below a3.heap.size a3 a4 := ⟨hb.os, hb.tape, hb.output, hb.size, hb.block⟩; have HXa4 := Lib.hid (HXa3.out.trans (hb'.mono HXa3.out.size)); have HBa4 := Lib.hid (HBa3.out.through hb'); clear hb hb'
      go_wp2_with fail
      refine hK.out _ _ HBa4.out (fun hHeld1 => ?_)
      clear hHeld hK K
      have hHeld := hHeld1
      clear hHeld1
      refine wpAnyH_take (i := 14) (v := (.bool false)) rfl (by kernel_rfl) (by kernel_rfl) (by kernel_rfl) (fun _ _ _ h => h) (Or.inl ⟨by kernel_rfl, fun w hSw => ?_⟩) (by assumption) ?_
      · (try dsimp only at hSw); go_simp <;> (try rfl)
      change wpAnyH _ _ _ _ _ _ _ (Act.put _ (some (43 : Nat)) (.bool false)) _
      simp only [Act.put, List.setIfInBounds_toArray, List.set_cons_zero, List.set_cons_succ]
      refine wpAnyH_take (i := 15) (v := (.bool false)) rfl (by kernel_rfl) (by kernel_rfl) (by kernel_rfl) (fun _ _ _ h => h) (Or.inl ⟨by kernel_rfl, fun w hSw => ?_⟩) (by assumption) ?_
      · (try dsimp only at hSw); go_simp <;> (try rfl)
      change wpAnyH _ _ _ _ _ _ _ (Act.put _ (some (44 : Nat)) (.bool false)) _
      simp only [Act.put, List.setIfInBounds_toArray, List.set_cons_zero, List.set_cons_succ]
      refine wpAnyH_take (i := 16) (v := (.agg [.int .i64 fo, .int .i64 fa, .slice A n c].toArray)) rfl (by kernel_rfl) (by kernel_rfl) (by kernel_rfl) (fun _ _ _ h => h) (yields_load_at (by kernel_rfl) 33 (.tmp 3) rfl (.pointer (some ⟨bf, 0, none⟩)) (by simp [Act.eval]) (.agg [.int .i64 fo, .int .i64 fa, .slice A n c].toArray) (fun W hW => hW.loadAt 33 _ Try.underlying33 rfl (by kernel_rfl))) (by assumption) ?_
      change wpAnyH _ _ _ _ _ _ _ (Act.put _ (some (45 : Nat)) (.agg [.int .i64 fo, .int .i64 fa, .slice A n c].toArray)) _
      simp only [Act.put, List.setIfInBounds_toArray, List.set_cons_zero, List.set_cons_succ]
      refine wpAnyH_take (i := 17) (v := (.int .u32 (s : Int))) rfl (by kernel_rfl) (by kernel_rfl) (by kernel_rfl) (fun _ _ _ h => h) (Or.inl ⟨by kernel_rfl, fun w hSw => ?_⟩) (by assumption) ?_
      · (try dsimp only at hSw); go_simp <;> (try rfl)
      change wpAnyH _ _ _ _ _ _ _ (Act.put _ (some (46 : Nat)) (.int .u32 (s : Int))) _
      simp only [Act.put, List.setIfInBounds_toArray, List.set_cons_zero, List.set_cons_succ]
      refine wpAnyH_take (i := 18) (v := (.int .u32 sc)) rfl (by kernel_rfl) (by kernel_rfl) (by kernel_rfl) (fun _ _ _ h => h) (Or.inl ⟨by kernel_rfl, fun w hSw => ?_⟩) (by assumption) ?_
      · (try dsimp only at hSw); go_simp <;> (try rfl)
      change wpAnyH _ _ _ _ _ _ _ (Act.put _ (some (47 : Nat)) (.int .u32 sc)) _
      simp only [Act.put, List.setIfInBounds_toArray, List.set_cons_zero, List.set_cons_succ]
      refine wpAnyH_ready (rs := [19]) (by kernel_rfl) (by simp) ?_
      refine AllReadyH.cons rfl (fun K hK => ?_) AllReadyH.nil
      go_simp
      refine (HS.out _ (HF.out.through HXa4.out)).mono ?_
      rintro e a5 ⟨rfl, hb⟩; have hb' : Below a4.heap.size a4 a5 := ⟨hb.os, hb.tape, hb.output, hb.size, hb.block⟩; have HXa5 := Lib.hid (HXa4.out.trans (hb'.mono HXa4.out.size)); have HBa5 := Lib.hid (HBa4.out.through hb'); clear hb hb'
      go_wp2_with fail
      refine hK.out _ _ HBa5.out (fun hHeld1 => ?_)
      clear hHeld hK K
      have hHeld := hHeld1
      clear hHeld1
      refine wpAnyH_take (i := 20) (v := (.bool true)) rfl (by kernel_rfl) (by kernel_rfl) (by kernel_rfl) (fun _ _ _ h => h) (Or.inl ⟨by kernel_rfl, fun w hSw => ?_⟩) (by assumption) ?_
      · (try dsimp only at hSw); go_simp <;> (try rfl)
      change wpAnyH _ _ _ _ _ _ _ (Act.put _ (some (49 : Nat)) (.bool true)) _
      simp only [Act.put, List.setIfInBounds_toArray, List.set_cons_zero, List.set_cons_succ]
      refine wpAnyH_take (i := 21) (v := (.bool true)) rfl (by kernel_rfl) (by kernel_rfl) (by kernel_rfl) (fun _ _ _ h => h) (Or.inl ⟨by kernel_rfl, fun w hSw => ?_⟩) (by assumption) ?_
      · (try dsimp only at hSw); go_simp <;> (try rfl)
      change wpAnyH _ _ _ _ _ _ _ (Act.put _ (some (50 : Nat)) (.bool true)) _
      simp only [Act.put, List.setIfInBounds_toArray, List.set_cons_zero, List.set_cons_succ]
      refine wpAnyH_take (i := 22) (v := (.bool true)) rfl (by kernel_rfl) (by kernel_rfl) (by kernel_rfl) (fun _ _ _ h => h) (Or.inl ⟨by kernel_rfl, fun w hSw => ?_⟩) (by assumption) ?_
      · (try dsimp only at hSw); go_simp <;> (try rfl)
      change wpAnyH _ _ _ _ _ _ _ (Act.put _ (some (51 : Nat)) (.bool true)) _
      simp only [Act.put, List.setIfInBounds_toArray, List.set_cons_zero, List.set_cons_succ]
      refine wpAnyH_take (i := 23) (v := (.bool true)) rfl (by kernel_rfl) (by kernel_rfl) (by kernel_rfl) (fun _ _ _ h => h) (Or.inl ⟨by kernel_rfl, fun w hSw => ?_⟩) (by assumption) ?_
      · (try dsimp only at hSw); go_simp <;> (try rfl)
      change wpAnyH _ _ _ _ _ _ _ (Act.put _ (some (6 : Nat)) (.bool true)) _
      simp only [Act.put, List.setIfInBounds_toArray, List.set_cons_zero, List.set_cons_succ]
      refine wpAnyH_done (by kernel_rfl) ?_ _
      go_wp2
      go_ret
      exact ⟨rfl, HXa5.out⟩
    · go_wp2_with (first
        | (go_at_call 25; (with_reducible refine (HH1.out _ (HF.out.through HXw2.out)).mono ?_); rintro e w3 ⟨rfl, hb⟩; have HXw3 := Lib.hid (HXw2.out.trans (hb.mono HXw2.out.size)); have HBw3 := Lib.hid (HBw2.out.through hb); clear hb)
        | (refine wpList_load_blk rfl 33 (.tmp 3) rfl w.heap.size rfl 33 [.int .i64 fo, .int .i64 fa, .slice A n c] _ HBw2.out Try.underlying33 rfl (by kernel_rfl) ?_)
        | (go_at_call 20; (with_reducible refine (ffixed_any _).mono ?_); rintro e w1 ⟨rfl, hb⟩; have HXw1 : Hid (Below w.heap.size w w1) := Lib.hid (HX0.out.trans (hb.mono (by simp))); have HBw1 := Lib.hid (HB0.out.through hb); clear hb)
        | (refine wpList_load_blk rfl 33 (.tmp 3) rfl w.heap.size rfl 33 [.int .i64 fo, .int .i64 fa, .slice A n c] _ HBw1.out Try.underlying33 rfl (by kernel_rfl) ?_)
        | (go_at_call 21; (with_reducible refine (HW.out _ (HF.out.through HXw1.out)).mono ?_); rintro e w2 ⟨rfl, hb⟩; have HXw2 := Lib.hid (HXw1.out.trans (hb.mono HXw1.out.size)); have HBw2 := Lib.hid (HBw1.out.through hb); clear hb))
      obtain ⟨bf, hbf⟩ : ∃ bf, bf = w.heap.size := ⟨_, rfl⟩
      rw [← hbf] at HBw3
      rw [← hbf]
      try dsimp only [Act.put]
      refine wp_region_held_drew (S := fun W => Blk W bf 33 [.int .i64 fo, .int .i64 fa, .slice A n c]) (by kernel_rfl) HBw3.out.drew (fun hHeld => ?_)
      change wpAnyH _ _ _ _ _ _ #[false, false, false, false, false, false, false, false, false, false, false, false, false, false, false, false, false, false, false, false, false, false, false, false] _ _
      refine wpAnyH_take (i := 0) (v := (.agg [.int .i64 fo, .int .i64 fa, .slice A n c].toArray)) rfl (by kernel_rfl) (by kernel_rfl) (by kernel_rfl) (fun _ _ _ h => h) (yields_load_at (by kernel_rfl) 33 (.tmp 3) rfl (.pointer (some ⟨bf, 0, none⟩)) (by simp [Act.eval]) (.agg [.int .i64 fo, .int .i64 fa, .slice A n c].toArray) (fun W hW => hW.loadAt 33 _ Try.underlying33 rfl (by kernel_rfl))) (by assumption) ?_
      change wpAnyH _ _ _ _ _ _ _ (Act.put _ (some (29 : Nat)) (.agg [.int .i64 fo, .int .i64 fa, .slice A n c].toArray)) _
      simp only [Act.put, List.setIfInBounds_toArray, List.set_cons_zero, List.set_cons_succ]
      refine wpAnyH_take (i := 1) (v := (.int .u32 (s : Int))) rfl (by kernel_rfl) (by kernel_rfl) (by kernel_rfl) (fun _ _ _ h => h) (Or.inl ⟨by kernel_rfl, fun w hSw => ?_⟩) (by assumption) ?_
      · (try dsimp only at hSw); go_simp <;> (try rfl)
      change wpAnyH _ _ _ _ _ _ _ (Act.put _ (some (30 : Nat)) (.int .u32 (s : Int))) _
      simp only [Act.put, List.setIfInBounds_toArray, List.set_cons_zero, List.set_cons_succ]
      refine wpAnyH_take (i := 3) (v := (.agg [.int .i64 fo, .int .i64 fa, .slice A n c].toArray)) rfl (by kernel_rfl) (by kernel_rfl) (by kernel_rfl) (fun _ _ _ h => h) (yields_load_at (by kernel_rfl) 33 (.tmp 3) rfl (.pointer (some ⟨bf, 0, none⟩)) (by simp [Act.eval]) (.agg [.int .i64 fo, .int .i64 fa, .slice A n c].toArray) (fun W hW => hW.loadAt 33 _ Try.underlying33 rfl (by kernel_rfl))) (by assumption) ?_
      change wpAnyH _ _ _ _ _ _ _ (Act.put _ (some (32 : Nat)) (.agg [.int .i64 fo, .int .i64 fa, .slice A n c].toArray)) _
      simp only [Act.put, List.setIfInBounds_toArray, List.set_cons_zero, List.set_cons_succ]
      refine wpAnyH_take (i := 4) (v := (.int .u32 (s : Int))) rfl (by kernel_rfl) (by kernel_rfl) (by kernel_rfl) (fun _ _ _ h => h) (Or.inl ⟨by kernel_rfl, fun w hSw => ?_⟩) (by assumption) ?_
      · (try dsimp only at hSw); go_simp <;> (try rfl)
      change wpAnyH _ _ _ _ _ _ _ (Act.put _ (some (33 : Nat)) (.int .u32 (s : Int))) _
      simp only [Act.put, List.setIfInBounds_toArray, List.set_cons_zero, List.set_cons_succ]
      refine wpAnyH_take (i := 5) (v := (.agg [.int .i64 fo, .int .i64 fa, .slice A n c].toArray)) rfl (by kernel_rfl) (by kernel_rfl) (by kernel_rfl) (fun _ _ _ h => h) (yields_load_at (by kernel_rfl) 33 (.tmp 3) rfl (.pointer (some ⟨bf, 0, none⟩)) (by simp [Act.eval]) (.agg [.int .i64 fo, .int .i64 fa, .slice A n c].toArray) (fun W hW => hW.loadAt 33 _ Try.underlying33 rfl (by kernel_rfl))) (by assumption) ?_
      change wpAnyH _ _ _ _ _ _ _ (Act.put _ (some (34 : Nat)) (.agg [.int .i64 fo, .int .i64 fa, .slice A n c].toArray)) _
      simp only [Act.put, List.setIfInBounds_toArray, List.set_cons_zero, List.set_cons_succ]
      refine wpAnyH_ready (rs := [2]) (by kernel_rfl) (by simp) ?_
      refine AllReadyH.cons rfl (fun K hK => ?_) AllReadyH.nil
      go_simp
      refine (HH1.out _ (HF.out.through HXw3.out).drew).mono ?_
      rintro e a1 ⟨rfl, hb⟩; have hb' : Below w3.heap.size w3 a1 := ⟨hb.os, hb.tape, hb.output, hb.size, hb.block⟩; have HXa1 := Lib.hid (HXw3.out.trans (hb'.mono HXw3.out.size)); have HBa1 := Lib.hid (HBw3.out.through hb'); clear hb hb'
      go_wp2_with fail
      refine hK.out _ _ HBa1.out (fun hHeld1 => ?_)
      clear hHeld hK K
      have hHeld := hHeld1
      clear hHeld1
      refine wpAnyH_ready (rs := [6]) (by kernel_rfl) (by simp) ?_
      refine AllReadyH.cons rfl (fun K hK => ?_) AllReadyH.nil
      go_simp
      refine (HN.out _ (HF.out.through HXa1.out)).mono ?_
      rintro e a2 ⟨rfl, hb⟩; have hb' : Below a1.heap.size a1 a2 := ⟨hb.os, hb.tape, hb.output, hb.size, hb.block⟩; have HXa2 := Lib.hid (HXa1.out.trans (hb'.mono HXa1.out.size)); have HBa2 := Lib.hid (HBa1.out.through hb'); clear hb hb'
      go_wp2_with fail
      refine hK.out _ _ HBa2.out (fun hHeld1 => ?_)
      clear hHeld hK K
      have hHeld := hHeld1
      clear hHeld1
      refine wpAnyH_take (i := 7) (v := (.int .u32 sn)) rfl (by kernel_rfl) (by kernel_rfl) (by kernel_rfl) (fun _ _ _ h => h) (Or.inl ⟨by kernel_rfl, fun w hSw => ?_⟩) (by assumption) ?_
      · (try dsimp only at hSw); go_simp <;> (try rfl)
      change wpAnyH _ _ _ _ _ _ _ (Act.put _ (some (36 : Nat)) (.int .u32 sn)) _
      simp only [Act.put, List.setIfInBounds_toArray, List.set_cons_zero, List.set_cons_succ]
      refine wpAnyH_ready (rs := [8]) (by kernel_rfl) (by simp) ?_
      refine AllReadyH.cons rfl (fun K hK => ?_) AllReadyH.nil
      go_simp
      refine (HH3.out _ (HF.out.through HXa2.out)).mono ?_
      rintro e a3 ⟨rfl, hb⟩; have hb' : Below a2.heap.size a2 a3 := ⟨hb.os, hb.tape, hb.output, hb.size, hb.block⟩; have HXa3 := Lib.hid (HXa2.out.trans (hb'.mono HXa2.out.size)); have HBa3 := Lib.hid (HBa2.out.through hb'); clear hb hb'
      go_wp2_with fail
      refine hK.out _ _ HBa3.out (fun hHeld1 => ?_)
      clear hHeld hK K
      have hHeld := hHeld1
      clear hHeld1
      refine wpAnyH_take (i := 9) (v := (.bool true)) rfl (by kernel_rfl) (by kernel_rfl) (by kernel_rfl) (fun _ _ _ h => h) (Or.inl ⟨by kernel_rfl, fun w hSw => ?_⟩) (by assumption) ?_
      · (try dsimp only at hSw); go_simp <;> (try rfl)
      change wpAnyH _ _ _ _ _ _ _ (Act.put _ (some (38 : Nat)) (.bool true)) _
      simp only [Act.put, List.setIfInBounds_toArray, List.set_cons_zero, List.set_cons_succ]
      refine wpAnyH_take (i := 10) (v := (.bool true)) rfl (by kernel_rfl) (by kernel_rfl) (by kernel_rfl) (fun _ _ _ h => h) (Or.inl ⟨by kernel_rfl, fun w hSw => ?_⟩) (by assumption) ?_
      · (try dsimp only at hSw); go_simp <;> (try rfl)
      change wpAnyH _ _ _ _ _ _ _ (Act.put _ (some (39 : Nat)) (.bool true)) _
      simp only [Act.put, List.setIfInBounds_toArray, List.set_cons_zero, List.set_cons_succ]
      refine wpAnyH_take (i := 11) (v := (.agg [.int .i64 fo, .int .i64 fa, .slice A n c].toArray)) rfl (by kernel_rfl) (by kernel_rfl) (by kernel_rfl) (fun _ _ _ h => h) (yields_load_at (by kernel_rfl) 33 (.tmp 3) rfl (.pointer (some ⟨bf, 0, none⟩)) (by simp [Act.eval]) (.agg [.int .i64 fo, .int .i64 fa, .slice A n c].toArray) (fun W hW => hW.loadAt 33 _ Try.underlying33 rfl (by kernel_rfl))) (by assumption) ?_
      change wpAnyH _ _ _ _ _ _ _ (Act.put _ (some (40 : Nat)) (.agg [.int .i64 fo, .int .i64 fa, .slice A n c].toArray)) _
      simp only [Act.put, List.setIfInBounds_toArray, List.set_cons_zero, List.set_cons_succ]
      refine wpAnyH_take (i := 12) (v := (.int .u32 (s : Int))) rfl (by kernel_rfl) (by kernel_rfl) (by kernel_rfl) (fun _ _ _ h => h) (Or.inl ⟨by kernel_rfl, fun w hSw => ?_⟩) (by assumption) ?_
      · (try dsimp only at hSw); go_simp <;> (try rfl)
      change wpAnyH _ _ _ _ _ _ _ (Act.put _ (some (41 : Nat)) (.int .u32 (s : Int))) _
      simp only [Act.put, List.setIfInBounds_toArray, List.set_cons_zero, List.set_cons_succ]
      refine wpAnyH_ready (rs := [13]) (by kernel_rfl) (by simp) ?_
      refine AllReadyH.cons rfl (fun K hK => ?_) AllReadyH.nil
      go_simp
      refine (HH1.out _ (HF.out.through HXa3.out)).mono ?_
      rintro e a4 ⟨rfl, hb⟩; have hb' : Below a3.heap.size a3 a4 := ⟨hb.os, hb.tape, hb.output, hb.size, hb.block⟩; have HXa4 := Lib.hid (HXa3.out.trans (hb'.mono HXa3.out.size)); have HBa4 := Lib.hid (HBa3.out.through hb'); clear hb hb'
      go_wp2_with fail
      refine hK.out _ _ HBa4.out (fun hHeld1 => ?_)
      clear hHeld hK K
      have hHeld := hHeld1
      clear hHeld1
      refine wpAnyH_take (i := 14) (v := (.bool true)) rfl (by kernel_rfl) (by kernel_rfl) (by kernel_rfl) (fun _ _ _ h => h) (Or.inl ⟨by kernel_rfl, fun w hSw => ?_⟩) (by assumption) ?_
      · (try dsimp only at hSw); go_simp <;> (try rfl)
      change wpAnyH _ _ _ _ _ _ _ (Act.put _ (some (43 : Nat)) (.bool true)) _
      simp only [Act.put, List.setIfInBounds_toArray, List.set_cons_zero, List.set_cons_succ]
      refine wpAnyH_take (i := 15) (v := (.bool true)) rfl (by kernel_rfl) (by kernel_rfl) (by kernel_rfl) (fun _ _ _ h => h) (Or.inl ⟨by kernel_rfl, fun w hSw => ?_⟩) (by assumption) ?_
      · (try dsimp only at hSw); go_simp <;> (try rfl)
      change wpAnyH _ _ _ _ _ _ _ (Act.put _ (some (44 : Nat)) (.bool true)) _
      simp only [Act.put, List.setIfInBounds_toArray, List.set_cons_zero, List.set_cons_succ]
      refine wpAnyH_take (i := 16) (v := undef) rfl (by kernel_rfl) (by kernel_rfl) (by kernel_rfl) (fun _ _ _ h => h) (Or.inr ⟨by kernel_rfl, rfl⟩) (by assumption) ?_
      change wpAnyH _ _ _ _ _ _ _ (Act.put _ (some (45 : Nat)) undef) _
      simp only [Act.put, List.setIfInBounds_toArray, List.set_cons_zero, List.set_cons_succ]
      refine wpAnyH_take (i := 17) (v := undef) rfl (by kernel_rfl) (by kernel_rfl) (by kernel_rfl) (fun _ _ _ h => h) (Or.inr ⟨by kernel_rfl, rfl⟩) (by assumption) ?_
      change wpAnyH _ _ _ _ _ _ _ (Act.put _ (some (46 : Nat)) undef) _
      simp only [Act.put, List.setIfInBounds_toArray, List.set_cons_zero, List.set_cons_succ]
      refine wpAnyH_take (i := 18) (v := undef) rfl (by kernel_rfl) (by kernel_rfl) (by kernel_rfl) (fun _ _ _ h => h) (Or.inr ⟨by kernel_rfl, rfl⟩) (by assumption) ?_
      change wpAnyH _ _ _ _ _ _ _ (Act.put _ (some (47 : Nat)) undef) _
      simp only [Act.put, List.setIfInBounds_toArray, List.set_cons_zero, List.set_cons_succ]
      refine wpAnyH_take (i := 19) (v := undef) rfl (by kernel_rfl) (by kernel_rfl) (by kernel_rfl) (fun _ _ _ h => h) (Or.inr ⟨by kernel_rfl, rfl⟩) (by assumption) ?_
      change wpAnyH _ _ _ _ _ _ _ (Act.put _ (some (48 : Nat)) undef) _
      simp only [Act.put, List.setIfInBounds_toArray, List.set_cons_zero, List.set_cons_succ]
      refine wpAnyH_take (i := 20) (v := undef) rfl (by kernel_rfl) (by kernel_rfl) (by kernel_rfl) (fun _ _ _ h => h) (Or.inr ⟨by kernel_rfl, rfl⟩) (by assumption) ?_
      change wpAnyH _ _ _ _ _ _ _ (Act.put _ (some (49 : Nat)) undef) _
      simp only [Act.put, List.setIfInBounds_toArray, List.set_cons_zero, List.set_cons_succ]
      refine wpAnyH_take (i := 21) (v := (.bool true)) rfl (by kernel_rfl) (by kernel_rfl) (by kernel_rfl) (fun _ _ _ h => h) (Or.inl ⟨by kernel_rfl, fun w hSw => ?_⟩) (by assumption) ?_
      · (try dsimp only at hSw); go_simp <;> (try rfl)
      change wpAnyH _ _ _ _ _ _ _ (Act.put _ (some (50 : Nat)) (.bool true)) _
      simp only [Act.put, List.setIfInBounds_toArray, List.set_cons_zero, List.set_cons_succ]
      refine wpAnyH_take (i := 22) (v := (.bool true)) rfl (by kernel_rfl) (by kernel_rfl) (by kernel_rfl) (fun _ _ _ h => h) (Or.inl ⟨by kernel_rfl, fun w hSw => ?_⟩) (by assumption) ?_
      · (try dsimp only at hSw); go_simp <;> (try rfl)
      change wpAnyH _ _ _ _ _ _ _ (Act.put _ (some (51 : Nat)) (.bool true)) _
      simp only [Act.put, List.setIfInBounds_toArray, List.set_cons_zero, List.set_cons_succ]
      refine wpAnyH_take (i := 23) (v := (.bool true)) rfl (by kernel_rfl) (by kernel_rfl) (by kernel_rfl) (fun _ _ _ h => h) (Or.inl ⟨by kernel_rfl, fun w hSw => ?_⟩) (by assumption) ?_
      · (try dsimp only at hSw); go_simp <;> (try rfl)
      change wpAnyH _ _ _ _ _ _ _ (Act.put _ (some (6 : Nat)) (.bool true)) _
      simp only [Act.put, List.setIfInBounds_toArray, List.set_cons_zero, List.set_cons_succ]
      refine wpAnyH_done (by kernel_rfl) ?_ _
      go_wp2
      go_ret
      exact ⟨rfl, HXa4.out⟩

end Go.Proofs.Ytkildlonenjmaaa
