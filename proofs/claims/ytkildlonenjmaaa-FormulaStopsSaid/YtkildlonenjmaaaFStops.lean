/-
  FormulaStops, walked.
-/
import Derived.Test.YtkildlonenjmaaaF15b
namespace Go.Proofs.Ytkildlonenjmaaa
open Go.RowKit

set_option maxHeartbeats 16000000 in
set_option maxRecDepth 100000 in
theorem lstops_any (f : Fm) (s : Nat) (hs : s < 4294967296) (A : Option Addr) (n c : Nat) (w : World) (h : f.In w (fun _ => True) A n) :
    Calls Try.prog 8 #[f.val A n c, .int .u32 (s : Int)] w fun e w' => e = .returned (.bool true) ∧ Below w.heap.size w w' := by
  have hfw : ∀ W, f.In W (fun _ => True) A n → Calls Try.prog 21 #[f.val A n c, .int .i64 1] W fun e w' => e = .returned (.tuple #[.int .i64 (fewP 1 f).1, .bool (fewP 1 f).2]) ∧ Below W.heap.size W w' := fun W h => few_walk f 1 A n c W h
  have HF := Lib.hid h
  cases hok : (fewP 1 f).2
  case' true =>
    have hfz := few_ok hok
    have hrt : ∀ W, f.In W (fun _ => True) A n → Calls Try.prog 24 #[f.val A n c] W fun e w' => e = .returned (.bool f.mb) ∧ Below W.heap.size W w' := fun W h => right_any f A n c W hfz h
    cases hmb : f.mb
  case false =>
    rw [hok] at hfw
    generalize (fewP 1 f).1 = fm at *
    unfold Fm.val at hfw
    unfold Fm.val
    generalize f.org = fo at *
    generalize f.nd = fa at *
    have HW := Lib.hid hfw
    clear hfw h hok
    have hB0 : Blk (w.alloc (.cells #[.int .i64 fo, .int .i64 fa, .slice A n c] 33)) w.heap.size 33 [.int .i64 fo, .int .i64 fa, .slice A n c] := Blk.fresh rfl rfl
    have HB0 := Lib.hid hB0
    have HX0 : Hid (Below w.heap.size w (w.alloc (.cells #[.int .i64 fo, .int .i64 fa, .slice A n c] 33))) := Lib.hid ((Below.refl _ w).alloc (Nat.le_refl _) _)
    clear hB0
    go_enter Try.func8, Try.ntmps8
    go_wp2_with (first
    | (go_at_call 20; (with_reducible refine (ffixed_any _).mono ?_); rintro e w1 ⟨rfl, hb⟩; have HXw1 : Hid (Below w.heap.size w w1) := Lib.hid (HX0.out.trans (hb.mono (by simp))); have HBw1 := Lib.hid (HB0.out.through hb); clear hb)
    | (refine wpList_load_blk rfl 33 (.tmp 2) rfl w.heap.size rfl 33 [.int .i64 fo, .int .i64 fa, .slice A n c] _ HBw1.out Try.underlying33 rfl (by kernel_rfl) ?_)
    | (go_at_call 21; (with_reducible refine (HW.out _ (HF.out.through HXw1.out)).mono ?_); rintro e w2 ⟨rfl, hb⟩; have HXw2 := Lib.hid (HXw1.out.trans (hb.mono HXw1.out.size)); have HBw2 := Lib.hid (HBw1.out.through hb); clear hb))
    go_ret
    exact ⟨rfl, HXw2.out⟩
  case true.false =>
    rw [hok] at hfw
    rw [hmb] at hrt
    generalize (fewP 1 f).1 = fm at *
    unfold Fm.val at hfw hrt
    unfold Fm.val
    generalize f.org = fo at *
    generalize f.nd = fa at *
    have HW := Lib.hid hfw
    have HR := Lib.hid hrt
    clear hfw h hok hrt hmb
    have hB0 : Blk (w.alloc (.cells #[.int .i64 fo, .int .i64 fa, .slice A n c] 33)) w.heap.size 33 [.int .i64 fo, .int .i64 fa, .slice A n c] := Blk.fresh rfl rfl
    have HB0 := Lib.hid hB0
    have HX0 : Hid (Below w.heap.size w (w.alloc (.cells #[.int .i64 fo, .int .i64 fa, .slice A n c] 33))) := Lib.hid ((Below.refl _ w).alloc (Nat.le_refl _) _)
    clear hB0
    go_enter Try.func8, Try.ntmps8
    go_wp2_with (first
    | (go_at_call 24; (with_reducible refine (HR.out _ (HF.out.through HXw2.out)).mono ?_); rintro e w3 ⟨rfl, hb⟩; have HXw3 := Lib.hid (HXw2.out.trans (hb.mono HXw2.out.size)); have HBw3 := Lib.hid (HBw2.out.through hb); clear hb)
    | (refine wpList_load_blk_g 33 (.tmp 2) rfl (by kernel_rfl) w.heap.size rfl 33 [.int .i64 fo, .int .i64 fa, .slice A n c] _ HBw2.out Try.underlying33 rfl (by kernel_rfl) ?_)
    | (go_at_call 20; (with_reducible refine (ffixed_any _).mono ?_); rintro e w1 ⟨rfl, hb⟩; have HXw1 : Hid (Below w.heap.size w w1) := Lib.hid (HX0.out.trans (hb.mono (by simp))); have HBw1 := Lib.hid (HB0.out.through hb); clear hb)
    | (refine wpList_load_blk rfl 33 (.tmp 2) rfl w.heap.size rfl 33 [.int .i64 fo, .int .i64 fa, .slice A n c] _ HBw1.out Try.underlying33 rfl (by kernel_rfl) ?_)
    | (go_at_call 21; (with_reducible refine (HW.out _ (HF.out.through HXw1.out)).mono ?_); rintro e w2 ⟨rfl, hb⟩; have HXw2 := Lib.hid (HXw1.out.trans (hb.mono HXw1.out.size)); have HBw2 := Lib.hid (HBw1.out.through hb); clear hb))
    go_ret
    exact ⟨rfl, HXw3.out⟩
  case true.true =>
    have hr := Fm.mb_rng hmb
    have hnl := Fm.names_lt f hr
    have hst : ∀ x, x < 4294967296 → ∀ W, f.In W (fun _ => True) A n → Calls Try.prog 28 #[f.val A n c, .int .u32 ((x : Nat) : Int)] W fun e w' => e = .returned (.bool (f.mb && !f.hold (cpl x))) ∧ Below W.heap.size W w' := fun x hx W h => Stop_any x hx f A n c W hfz h
    have hho : ∀ x, x < 4294967296 → ∀ W, f.In W (fun _ => True) A n → Calls Try.prog 25 #[f.val A n c, .int .u32 ((x : Nat) : Int)] W fun e w' => e = .returned (.bool (f.mb && f.hold x)) ∧ Below W.heap.size W w' := fun x hx W h => Hold_any x hx f A n c W hfz h
    rw [hmb] at hst hho
    simp only [Bool.true_and] at hst hho
    have hnm : ∀ W, f.In W (fun _ => True) A n → Calls Try.prog 26 #[f.val A n c] W fun e w' => e = .returned (.int .u32 (f.names : Int)) ∧ Below W.heap.size W w' := fun W h => by
      have := Name_any f A n c W hfz h
      unfold Fm.nms at this
      rw [hmb, if_pos rfl] at this
      exact this
    have hle : ∀ W, f.In W (fun _ => True) A n → Calls Try.prog 27 #[f.val A n c] W fun e w' => e = .returned (.int .i64 (f.least : Int)) ∧ Below W.heap.size W w' := fun W h => by
      have := Least_any f A n c W hfz h
      rw [hmb, if_pos rfl] at this
      exact this
    have hlp := Fm.least_pos hr
    -- the plain facts
    have e1 : f.hold (f.names &&& cpl s) = f.hold (cpl s) := f.hold_congr fun i hi => by rw [Nat.testBit_and, hi, Bool.true_and]
    have e2 : f.hold (cpl f.names) = false := f.hold_none hr fun i hi => by rw [cpl_bit _ _ (by omega), hi]; simp
    have e3 : f.hold f.names = true := f.hold_all hr fun i hi => hi
    have e4 : f.hold 0 = false := f.hold_none hr fun i _ => by simp
    have e5 : f.hold (cpl 0) = true := f.hold_all hr fun i hi => by have := Fm.bit_lt hr hi; rw [cpl_bit _ _ (by omega)]; simp; omega
    have hs1 := hst s hs
    have hs2 := hst f.names (by omega)
    have hs3 := hst 0 (by omega)
    have hh1 := hho (f.names &&& cpl s) (Nat.lt_of_le_of_lt Nat.and_le_left (by omega))
    have hh2 := hho f.names (by omega)
    have hh3 := hho 0 (by omega)
    rw [e2, Bool.not_false] at hs2
    rw [e5, Bool.not_true] at hs3
    rw [e1] at hh1
    rw [e3] at hh2
    rw [e4] at hh3
    have han := u32_andNot f.names s (by omega) hs
    rw [hok] at hfw
    rw [hmb] at hrt
    generalize (fewP 1 f).1 = fm at *
    generalize f.hold (cpl s) = v at *
    clear e1 e2 e3 e4 e5 hst hho hnl hr hmb hfz hok
    generalize ((f.names &&& cpl s : Nat) : Int) = ns at *
    generalize (f.names : Int) = nms at *
    have hls : decide (1 ≤ (f.least : Int)) = true := by simp; omega
    generalize (f.least : Int) = lst at *
    unfold Fm.val at hfw hrt hnm hle hs1 hs2 hs3 hh1 hh2 hh3
    unfold Fm.val
    generalize f.org = fo at *
    generalize f.nd = fa at *
    have HW := Lib.hid hfw
    have HR := Lib.hid hrt
    have HN := Lib.hid hnm
    have HL := Lib.hid hle
    have HS1 := Lib.hid hs1
    have HS2 := Lib.hid hs2
    have HS3 : Hid (∀ W, f.In W (fun _ => True) A n → Calls Try.prog 28 #[.agg #[.int .i64 fo, .int .i64 fa, .slice A n c], .int .u32 0] W fun e w' => e = .returned (.bool false) ∧ Below W.heap.size W w') := Lib.hid hs3
    have HH1 := Lib.hid hh1
    have HH2 := Lib.hid hh2
    have HH3 : Hid (∀ W, f.In W (fun _ => True) A n → Calls Try.prog 25 #[.agg #[.int .i64 fo, .int .i64 fa, .slice A n c], .int .u32 0] W fun e w' => e = .returned (.bool false) ∧ Below W.heap.size W w') := Lib.hid hh3
    clear hfw h hrt hnm hle hs1 hs2 hs3 hh1 hh2 hh3 hlp
    have hB0 : Blk (w.alloc (.cells #[.int .i64 fo, .int .i64 fa, .slice A n c] 33)) w.heap.size 33 [.int .i64 fo, .int .i64 fa, .slice A n c] := Blk.fresh rfl rfl
    have HB0 := Lib.hid hB0
    have HX0 : Hid (Below w.heap.size w (w.alloc (.cells #[.int .i64 fo, .int .i64 fa, .slice A n c] 33))) := Lib.hid ((Below.refl _ w).alloc (Nat.le_refl _) _)
    clear hB0
    go_enter Try.func8, Try.ntmps8
    go_wp2_with (first
    | (go_at_call 26; (with_reducible refine (HN.out _ (HF.out.through HXw3.out)).mono ?_); rintro e w4 ⟨rfl, hb⟩; have HXw4 := Lib.hid (HXw3.out.trans (hb.mono HXw3.out.size)); have HBw4 := Lib.hid (HBw3.out.through hb); clear hb)
    | (refine wpList_load_blk rfl 33 (.tmp 2) rfl w.heap.size rfl 33 [.int .i64 fo, .int .i64 fa, .slice A n c] _ HBw3.out Try.underlying33 rfl (by kernel_rfl) ?_)
    | (go_at_call 24; (with_reducible refine (HR.out _ (HF.out.through HXw2.out)).mono ?_); rintro e w3 ⟨rfl, hb⟩; have HXw3 := Lib.hid (HXw2.out.trans (hb.mono HXw2.out.size)); have HBw3 := Lib.hid (HBw2.out.through hb); clear hb)
    | (refine wpList_load_blk_g 33 (.tmp 2) rfl (by kernel_rfl) w.heap.size rfl 33 [.int .i64 fo, .int .i64 fa, .slice A n c] _ HBw2.out Try.underlying33 rfl (by kernel_rfl) ?_)
    | (go_at_call 20; (with_reducible refine (ffixed_any _).mono ?_); rintro e w1 ⟨rfl, hb⟩; have HXw1 : Hid (Below w.heap.size w w1) := Lib.hid (HX0.out.trans (hb.mono (by simp))); have HBw1 := Lib.hid (HB0.out.through hb); clear hb)
    | (refine wpList_load_blk rfl 33 (.tmp 2) rfl w.heap.size rfl 33 [.int .i64 fo, .int .i64 fa, .slice A n c] _ HBw1.out Try.underlying33 rfl (by kernel_rfl) ?_)
    | (go_at_call 21; (with_reducible refine (HW.out _ (HF.out.through HXw1.out)).mono ?_); rintro e w2 ⟨rfl, hb⟩; have HXw2 := Lib.hid (HXw1.out.trans (hb.mono HXw1.out.size)); have HBw2 := Lib.hid (HBw1.out.through hb); clear hb))
    obtain ⟨bf, hbf⟩ : ∃ bf, bf = w.heap.size := ⟨_, rfl⟩
    rw [← hbf] at HBw4
    rw [← hbf]
    try dsimp only [Act.put]
    refine wp_region_held_drew (S := fun W => Blk W bf 33 [.int .i64 fo, .int .i64 fa, .slice A n c]) (by kernel_rfl) HBw4.out.drew (fun hHeld => ?_)
    change wpAnyH _ _ _ _ _ _ #[false, false, false, false, false, false, false, false, false, false, false, false, false, false, false, false, false, false, false, false, false, false, false, false, false, false, false, false, false, false, false, false, false, false, false, false] _ _
    refine wpAnyH_take (i := 0) (v := (.agg [.int .i64 fo, .int .i64 fa, .slice A n c].toArray)) rfl (by kernel_rfl) (by kernel_rfl) (by kernel_rfl) (fun _ _ _ h => h) (yields_load_at (by kernel_rfl) 33 (.tmp 2) rfl (.pointer (some ⟨bf, 0, none⟩)) (by simp [Act.eval]) (.agg [.int .i64 fo, .int .i64 fa, .slice A n c].toArray) (fun W hW => hW.loadAt 33 _ Try.underlying33 rfl (by kernel_rfl))) (by assumption) ?_
    change wpAnyH _ _ _ _ _ _ _ (Act.put _ (some (24 : Nat)) (.agg [.int .i64 fo, .int .i64 fa, .slice A n c].toArray)) _
    simp only [Act.put, List.setIfInBounds_toArray, List.set_cons_zero, List.set_cons_succ]
    refine wpAnyH_take (i := 1) (v := (.int .u32 (s : Int))) rfl (by kernel_rfl) (by kernel_rfl) (by kernel_rfl) (fun _ _ _ h => h) (Or.inl ⟨by kernel_rfl, fun w hSw => ?_⟩) (by assumption) ?_
    · (try dsimp only at hSw); go_simp <;> (try rfl)
    change wpAnyH _ _ _ _ _ _ _ (Act.put _ (some (25 : Nat)) (.int .u32 (s : Int))) _
    simp only [Act.put, List.setIfInBounds_toArray, List.set_cons_zero, List.set_cons_succ]
    refine wpAnyH_take (i := 3) (v := (.agg [.int .i64 fo, .int .i64 fa, .slice A n c].toArray)) rfl (by kernel_rfl) (by kernel_rfl) (by kernel_rfl) (fun _ _ _ h => h) (yields_load_at (by kernel_rfl) 33 (.tmp 2) rfl (.pointer (some ⟨bf, 0, none⟩)) (by simp [Act.eval]) (.agg [.int .i64 fo, .int .i64 fa, .slice A n c].toArray) (fun W hW => hW.loadAt 33 _ Try.underlying33 rfl (by kernel_rfl))) (by assumption) ?_
    change wpAnyH _ _ _ _ _ _ _ (Act.put _ (some (27 : Nat)) (.agg [.int .i64 fo, .int .i64 fa, .slice A n c].toArray)) _
    simp only [Act.put, List.setIfInBounds_toArray, List.set_cons_zero, List.set_cons_succ]
    refine wpAnyH_take (i := 4) (v := (.int .u32 nms)) rfl (by kernel_rfl) (by kernel_rfl) (by kernel_rfl) (fun _ _ _ h => h) (Or.inl ⟨by kernel_rfl, fun w hSw => ?_⟩) (by assumption) ?_
    · (try dsimp only at hSw); go_simp <;> (try rfl)
    change wpAnyH _ _ _ _ _ _ _ (Act.put _ (some (28 : Nat)) (.int .u32 nms)) _
    simp only [Act.put, List.setIfInBounds_toArray, List.set_cons_zero, List.set_cons_succ]
    refine wpAnyH_take (i := 5) (v := (.int .u32 (s : Int))) rfl (by kernel_rfl) (by kernel_rfl) (by kernel_rfl) (fun _ _ _ h => h) (Or.inl ⟨by kernel_rfl, fun w hSw => ?_⟩) (by assumption) ?_
    · (try dsimp only at hSw); go_simp <;> (try rfl)
    change wpAnyH _ _ _ _ _ _ _ (Act.put _ (some (29 : Nat)) (.int .u32 (s : Int))) _
    simp only [Act.put, List.setIfInBounds_toArray, List.set_cons_zero, List.set_cons_succ]
    refine wpAnyH_take (i := 6) (v := (.int .u32 ns)) rfl (by kernel_rfl) (by kernel_rfl) (by kernel_rfl) (fun _ _ _ h => h) (Or.inl ⟨by kernel_rfl, fun w hSw => ?_⟩) (by assumption) ?_
    · (try dsimp only at hSw); go_simp <;> (try rfl)
    change wpAnyH _ _ _ _ _ _ _ (Act.put _ (some (30 : Nat)) (.int .u32 ns)) _
    simp only [Act.put, List.setIfInBounds_toArray, List.set_cons_zero, List.set_cons_succ]
    refine wpAnyH_ready (rs := [2]) (by kernel_rfl) (by simp) ?_
    refine AllReadyH.cons rfl (fun K hK => ?_) AllReadyH.nil
    go_simp
    refine (HS1.out _ (HF.out.through HXw4.out).drew).mono ?_
    rintro e a1 ⟨rfl, hb⟩; have hb' : Below w4.heap.size w4 a1 := ⟨hb.os, hb.tape, hb.output, hb.size, hb.block⟩; have HXa1 := Lib.hid (HXw4.out.trans (hb'.mono HXw4.out.size)); have HBa1 := Lib.hid (HBw4.out.through hb'); clear hb hb'
    go_wp2_with fail
    refine hK.out _ _ HBa1.out (fun hHeld1 => ?_)
    clear hHeld hK K
    have hHeld := hHeld1
    clear hHeld1
    refine wpAnyH_ready (rs := [7]) (by kernel_rfl) (by simp) ?_
    refine AllReadyH.cons rfl (fun K hK => ?_) AllReadyH.nil
    go_simp
    refine (HH1.out _ (HF.out.through HXa1.out)).mono ?_
    rintro e a2 ⟨rfl, hb⟩; have hb' : Below a1.heap.size a1 a2 := ⟨hb.os, hb.tape, hb.output, hb.size, hb.block⟩; have HXa2 := Lib.hid (HXa1.out.trans (hb'.mono HXa1.out.size)); have HBa2 := Lib.hid (HBa1.out.through hb'); clear hb hb'
    go_wp2_with fail
    refine hK.out _ _ HBa2.out (fun hHeld1 => ?_)
    clear hHeld hK K
    have hHeld := hHeld1
    clear hHeld1
    refine wpAnyH_take (i := 8) (v := (.bool (!v))) rfl (by kernel_rfl) (by kernel_rfl) (by kernel_rfl) (fun _ _ _ h => h) (Or.inl ⟨by kernel_rfl, fun w hSw => ?_⟩) (by assumption) ?_
    · (try dsimp only at hSw); go_simp <;> (try rfl)
    change wpAnyH _ _ _ _ _ _ _ (Act.put _ (some (32 : Nat)) (.bool (!v))) _
    simp only [Act.put, List.setIfInBounds_toArray, List.set_cons_zero, List.set_cons_succ]
    refine wpAnyH_take (i := 9) (v := (.bool true)) rfl (by kernel_rfl) (by kernel_rfl) (by kernel_rfl) (fun _ _ _ h => h) (Or.inl ⟨by kernel_rfl, fun w hSw => ?_⟩) (by assumption) ?_
    · (try dsimp only at hSw); go_simp <;> (try rfl)
    change wpAnyH _ _ _ _ _ _ _ (Act.put _ (some (33 : Nat)) (.bool true)) _
    simp only [Act.put, List.setIfInBounds_toArray, List.set_cons_zero, List.set_cons_succ]
    refine wpAnyH_take (i := 10) (v := (.bool true)) rfl (by kernel_rfl) (by kernel_rfl) (by kernel_rfl) (fun _ _ _ h => h) (Or.inl ⟨by kernel_rfl, fun w hSw => ?_⟩) (by assumption) ?_
    · (try dsimp only at hSw); go_simp <;> (try rfl)
    change wpAnyH _ _ _ _ _ _ _ (Act.put _ (some (34 : Nat)) (.bool true)) _
    simp only [Act.put, List.setIfInBounds_toArray, List.set_cons_zero, List.set_cons_succ]
    refine wpAnyH_take (i := 11) (v := (.agg [.int .i64 fo, .int .i64 fa, .slice A n c].toArray)) rfl (by kernel_rfl) (by kernel_rfl) (by kernel_rfl) (fun _ _ _ h => h) (yields_load_at (by kernel_rfl) 33 (.tmp 2) rfl (.pointer (some ⟨bf, 0, none⟩)) (by simp [Act.eval]) (.agg [.int .i64 fo, .int .i64 fa, .slice A n c].toArray) (fun W hW => hW.loadAt 33 _ Try.underlying33 rfl (by kernel_rfl))) (by assumption) ?_
    change wpAnyH _ _ _ _ _ _ _ (Act.put _ (some (35 : Nat)) (.agg [.int .i64 fo, .int .i64 fa, .slice A n c].toArray)) _
    simp only [Act.put, List.setIfInBounds_toArray, List.set_cons_zero, List.set_cons_succ]
    refine wpAnyH_take (i := 12) (v := (.int .u32 nms)) rfl (by kernel_rfl) (by kernel_rfl) (by kernel_rfl) (fun _ _ _ h => h) (Or.inl ⟨by kernel_rfl, fun w hSw => ?_⟩) (by assumption) ?_
    · (try dsimp only at hSw); go_simp <;> (try rfl)
    change wpAnyH _ _ _ _ _ _ _ (Act.put _ (some (36 : Nat)) (.int .u32 nms)) _
    simp only [Act.put, List.setIfInBounds_toArray, List.set_cons_zero, List.set_cons_succ]
    refine wpAnyH_ready (rs := [13]) (by kernel_rfl) (by simp) ?_
    refine AllReadyH.cons rfl (fun K hK => ?_) AllReadyH.nil
    go_simp
    refine (HS2.out _ (HF.out.through HXa2.out)).mono ?_
    rintro e a3 ⟨rfl, hb⟩; have hb' : Below a2.heap.size a2 a3 := ⟨hb.os, hb.tape, hb.output, hb.size, hb.block⟩; have HXa3 := Lib.hid (HXa2.out.trans (hb'.mono HXa2.out.size)); have HBa3 := Lib.hid (HBa2.out.through hb'); clear hb hb'
    go_wp2_with fail
    refine hK.out _ _ HBa3.out (fun hHeld1 => ?_)
    clear hHeld hK K
    have hHeld := hHeld1
    clear hHeld1
    refine wpAnyH_take (i := 14) (v := (.bool true)) rfl (by kernel_rfl) (by kernel_rfl) (by kernel_rfl) (fun _ _ _ h => h) (Or.inl ⟨by kernel_rfl, fun w hSw => ?_⟩) (by assumption) ?_
    · (try dsimp only at hSw); go_simp <;> (try rfl)
    change wpAnyH _ _ _ _ _ _ _ (Act.put _ (some (38 : Nat)) (.bool true)) _
    simp only [Act.put, List.setIfInBounds_toArray, List.set_cons_zero, List.set_cons_succ]
    refine wpAnyH_take (i := 15) (v := (.bool true)) rfl (by kernel_rfl) (by kernel_rfl) (by kernel_rfl) (fun _ _ _ h => h) (Or.inl ⟨by kernel_rfl, fun w hSw => ?_⟩) (by assumption) ?_
    · (try dsimp only at hSw); go_simp <;> (try rfl)
    change wpAnyH _ _ _ _ _ _ _ (Act.put _ (some (39 : Nat)) (.bool true)) _
    simp only [Act.put, List.setIfInBounds_toArray, List.set_cons_zero, List.set_cons_succ]
    refine wpAnyH_take (i := 16) (v := (.agg [.int .i64 fo, .int .i64 fa, .slice A n c].toArray)) rfl (by kernel_rfl) (by kernel_rfl) (by kernel_rfl) (fun _ _ _ h => h) (yields_load_at (by kernel_rfl) 33 (.tmp 2) rfl (.pointer (some ⟨bf, 0, none⟩)) (by simp [Act.eval]) (.agg [.int .i64 fo, .int .i64 fa, .slice A n c].toArray) (fun W hW => hW.loadAt 33 _ Try.underlying33 rfl (by kernel_rfl))) (by assumption) ?_
    change wpAnyH _ _ _ _ _ _ _ (Act.put _ (some (40 : Nat)) (.agg [.int .i64 fo, .int .i64 fa, .slice A n c].toArray)) _
    simp only [Act.put, List.setIfInBounds_toArray, List.set_cons_zero, List.set_cons_succ]
    refine wpAnyH_take (i := 17) (v := (.int .u32 nms)) rfl (by kernel_rfl) (by kernel_rfl) (by kernel_rfl) (fun _ _ _ h => h) (Or.inl ⟨by kernel_rfl, fun w hSw => ?_⟩) (by assumption) ?_
    · (try dsimp only at hSw); go_simp <;> (try rfl)
    change wpAnyH _ _ _ _ _ _ _ (Act.put _ (some (41 : Nat)) (.int .u32 nms)) _
    simp only [Act.put, List.setIfInBounds_toArray, List.set_cons_zero, List.set_cons_succ]
    refine wpAnyH_ready (rs := [18]) (by kernel_rfl) (by simp) ?_
    refine AllReadyH.cons rfl (fun K hK => ?_) AllReadyH.nil
    go_simp
    refine (HH2.out _ (HF.out.through HXa3.out)).mono ?_
    rintro e a4 ⟨rfl, hb⟩; have hb' : Below a3.heap.size a3 a4 := ⟨hb.os, hb.tape, hb.output, hb.size, hb.block⟩; have HXa4 := Lib.hid (HXa3.out.trans (hb'.mono HXa3.out.size)); have HBa4 := Lib.hid (HBa3.out.through hb'); clear hb hb'
    go_wp2_with fail
    refine hK.out _ _ HBa4.out (fun hHeld1 => ?_)
    clear hHeld hK K
    have hHeld := hHeld1
    clear hHeld1
    refine wpAnyH_take (i := 19) (v := (.bool true)) rfl (by kernel_rfl) (by kernel_rfl) (by kernel_rfl) (fun _ _ _ h => h) (Or.inl ⟨by kernel_rfl, fun w hSw => ?_⟩) (by assumption) ?_
    · (try dsimp only at hSw); go_simp <;> (try rfl)
    change wpAnyH _ _ _ _ _ _ _ (Act.put _ (some (43 : Nat)) (.bool true)) _
    simp only [Act.put, List.setIfInBounds_toArray, List.set_cons_zero, List.set_cons_succ]
    refine wpAnyH_take (i := 20) (v := (.bool true)) rfl (by kernel_rfl) (by kernel_rfl) (by kernel_rfl) (fun _ _ _ h => h) (Or.inl ⟨by kernel_rfl, fun w hSw => ?_⟩) (by assumption) ?_
    · (try dsimp only at hSw); go_simp <;> (try rfl)
    change wpAnyH _ _ _ _ _ _ _ (Act.put _ (some (44 : Nat)) (.bool true)) _
    simp only [Act.put, List.setIfInBounds_toArray, List.set_cons_zero, List.set_cons_succ]
    refine wpAnyH_take (i := 21) (v := (.agg [.int .i64 fo, .int .i64 fa, .slice A n c].toArray)) rfl (by kernel_rfl) (by kernel_rfl) (by kernel_rfl) (fun _ _ _ h => h) (yields_load_at (by kernel_rfl) 33 (.tmp 2) rfl (.pointer (some ⟨bf, 0, none⟩)) (by simp [Act.eval]) (.agg [.int .i64 fo, .int .i64 fa, .slice A n c].toArray) (fun W hW => hW.loadAt 33 _ Try.underlying33 rfl (by kernel_rfl))) (by assumption) ?_
    change wpAnyH _ _ _ _ _ _ _ (Act.put _ (some (45 : Nat)) (.agg [.int .i64 fo, .int .i64 fa, .slice A n c].toArray)) _
    simp only [Act.put, List.setIfInBounds_toArray, List.set_cons_zero, List.set_cons_succ]
    refine wpAnyH_ready (rs := [22]) (by kernel_rfl) (by simp) ?_
    refine AllReadyH.cons rfl (fun K hK => ?_) AllReadyH.nil
    go_simp
    refine (HS3.out _ (HF.out.through HXa4.out)).mono ?_
    rintro e a5 ⟨rfl, hb⟩; have hb' : Below a4.heap.size a4 a5 := ⟨hb.os, hb.tape, hb.output, hb.size, hb.block⟩; have HXa5 := Lib.hid (HXa4.out.trans (hb'.mono HXa4.out.size)); have HBa5 := Lib.hid (HBa4.out.through hb'); clear hb hb'
    go_wp2_with fail
    refine hK.out _ _ HBa5.out (fun hHeld1 => ?_)
    clear hHeld hK K
    have hHeld := hHeld1
    clear hHeld1
    refine wpAnyH_take (i := 23) (v := (.bool true)) rfl (by kernel_rfl) (by kernel_rfl) (by kernel_rfl) (fun _ _ _ h => h) (Or.inl ⟨by kernel_rfl, fun w hSw => ?_⟩) (by assumption) ?_
    · (try dsimp only at hSw); go_simp <;> (try rfl)
    change wpAnyH _ _ _ _ _ _ _ (Act.put _ (some (47 : Nat)) (.bool true)) _
    simp only [Act.put, List.setIfInBounds_toArray, List.set_cons_zero, List.set_cons_succ]
    refine wpAnyH_take (i := 24) (v := (.bool true)) rfl (by kernel_rfl) (by kernel_rfl) (by kernel_rfl) (fun _ _ _ h => h) (Or.inl ⟨by kernel_rfl, fun w hSw => ?_⟩) (by assumption) ?_
    · (try dsimp only at hSw); go_simp <;> (try rfl)
    change wpAnyH _ _ _ _ _ _ _ (Act.put _ (some (48 : Nat)) (.bool true)) _
    simp only [Act.put, List.setIfInBounds_toArray, List.set_cons_zero, List.set_cons_succ]
    refine wpAnyH_take (i := 25) (v := (.bool true)) rfl (by kernel_rfl) (by kernel_rfl) (by kernel_rfl) (fun _ _ _ h => h) (Or.inl ⟨by kernel_rfl, fun w hSw => ?_⟩) (by assumption) ?_
    · (try dsimp only at hSw); go_simp <;> (try rfl)
    change wpAnyH _ _ _ _ _ _ _ (Act.put _ (some (49 : Nat)) (.bool true)) _
    simp only [Act.put, List.setIfInBounds_toArray, List.set_cons_zero, List.set_cons_succ]
    refine wpAnyH_take (i := 26) (v := (.agg [.int .i64 fo, .int .i64 fa, .slice A n c].toArray)) rfl (by kernel_rfl) (by kernel_rfl) (by kernel_rfl) (fun _ _ _ h => h) (yields_load_at (by kernel_rfl) 33 (.tmp 2) rfl (.pointer (some ⟨bf, 0, none⟩)) (by simp [Act.eval]) (.agg [.int .i64 fo, .int .i64 fa, .slice A n c].toArray) (fun W hW => hW.loadAt 33 _ Try.underlying33 rfl (by kernel_rfl))) (by assumption) ?_
    change wpAnyH _ _ _ _ _ _ _ (Act.put _ (some (50 : Nat)) (.agg [.int .i64 fo, .int .i64 fa, .slice A n c].toArray)) _
    simp only [Act.put, List.setIfInBounds_toArray, List.set_cons_zero, List.set_cons_succ]
    refine wpAnyH_ready (rs := [27]) (by kernel_rfl) (by simp) ?_
    refine AllReadyH.cons rfl (fun K hK => ?_) AllReadyH.nil
    go_simp
    refine (HH3.out _ (HF.out.through HXa5.out)).mono ?_
    rintro e a6 ⟨rfl, hb⟩; have hb' : Below a5.heap.size a5 a6 := ⟨hb.os, hb.tape, hb.output, hb.size, hb.block⟩; have HXa6 := Lib.hid (HXa5.out.trans (hb'.mono HXa5.out.size)); have HBa6 := Lib.hid (HBa5.out.through hb'); clear hb hb'
    go_wp2_with fail
    refine hK.out _ _ HBa6.out (fun hHeld1 => ?_)
    clear hHeld hK K
    have hHeld := hHeld1
    clear hHeld1
    refine wpAnyH_take (i := 28) (v := (.bool true)) rfl (by kernel_rfl) (by kernel_rfl) (by kernel_rfl) (fun _ _ _ h => h) (Or.inl ⟨by kernel_rfl, fun w hSw => ?_⟩) (by assumption) ?_
    · (try dsimp only at hSw); go_simp <;> (try rfl)
    change wpAnyH _ _ _ _ _ _ _ (Act.put _ (some (52 : Nat)) (.bool true)) _
    simp only [Act.put, List.setIfInBounds_toArray, List.set_cons_zero, List.set_cons_succ]
    refine wpAnyH_take (i := 29) (v := (.bool true)) rfl (by kernel_rfl) (by kernel_rfl) (by kernel_rfl) (fun _ _ _ h => h) (Or.inl ⟨by kernel_rfl, fun w hSw => ?_⟩) (by assumption) ?_
    · (try dsimp only at hSw); go_simp <;> (try rfl)
    change wpAnyH _ _ _ _ _ _ _ (Act.put _ (some (53 : Nat)) (.bool true)) _
    simp only [Act.put, List.setIfInBounds_toArray, List.set_cons_zero, List.set_cons_succ]
    refine wpAnyH_take (i := 30) (v := (.bool true)) rfl (by kernel_rfl) (by kernel_rfl) (by kernel_rfl) (fun _ _ _ h => h) (Or.inl ⟨by kernel_rfl, fun w hSw => ?_⟩) (by assumption) ?_
    · (try dsimp only at hSw); go_simp <;> (try rfl)
    change wpAnyH _ _ _ _ _ _ _ (Act.put _ (some (54 : Nat)) (.bool true)) _
    simp only [Act.put, List.setIfInBounds_toArray, List.set_cons_zero, List.set_cons_succ]
    refine wpAnyH_take (i := 31) (v := (.agg [.int .i64 fo, .int .i64 fa, .slice A n c].toArray)) rfl (by kernel_rfl) (by kernel_rfl) (by kernel_rfl) (fun _ _ _ h => h) (yields_load_at (by kernel_rfl) 33 (.tmp 2) rfl (.pointer (some ⟨bf, 0, none⟩)) (by simp [Act.eval]) (.agg [.int .i64 fo, .int .i64 fa, .slice A n c].toArray) (fun W hW => hW.loadAt 33 _ Try.underlying33 rfl (by kernel_rfl))) (by assumption) ?_
    change wpAnyH _ _ _ _ _ _ _ (Act.put _ (some (55 : Nat)) (.agg [.int .i64 fo, .int .i64 fa, .slice A n c].toArray)) _
    simp only [Act.put, List.setIfInBounds_toArray, List.set_cons_zero, List.set_cons_succ]
    refine wpAnyH_ready (rs := [32]) (by kernel_rfl) (by simp) ?_
    refine AllReadyH.cons rfl (fun K hK => ?_) AllReadyH.nil
    go_simp
    refine (HL.out _ (HF.out.through HXa6.out)).mono ?_
    rintro e a7 ⟨rfl, hb⟩; have hb' : Below a6.heap.size a6 a7 := ⟨hb.os, hb.tape, hb.output, hb.size, hb.block⟩; have HXa7 := Lib.hid (HXa6.out.trans (hb'.mono HXa6.out.size)); have HBa7 := Lib.hid (HBa6.out.through hb'); clear hb hb'
    go_wp2_with fail
    refine hK.out _ _ HBa7.out (fun hHeld1 => ?_)
    clear hHeld hK K
    have hHeld := hHeld1
    clear hHeld1
    refine wpAnyH_take (i := 33) (v := (.bool true)) rfl (by kernel_rfl) (by kernel_rfl) (by kernel_rfl) (fun _ _ _ h => h) (Or.inl ⟨by kernel_rfl, fun w hSw => ?_⟩) (by assumption) ?_
    · (try dsimp only at hSw); go_simp <;> (try rfl)
    change wpAnyH _ _ _ _ _ _ _ (Act.put _ (some (57 : Nat)) (.bool true)) _
    simp only [Act.put, List.setIfInBounds_toArray, List.set_cons_zero, List.set_cons_succ]
    refine wpAnyH_take (i := 34) (v := (.bool true)) rfl (by kernel_rfl) (by kernel_rfl) (by kernel_rfl) (fun _ _ _ h => h) (Or.inl ⟨by kernel_rfl, fun w hSw => ?_⟩) (by assumption) ?_
    · (try dsimp only at hSw); go_simp <;> (try rfl)
    change wpAnyH _ _ _ _ _ _ _ (Act.put _ (some (58 : Nat)) (.bool true)) _
    simp only [Act.put, List.setIfInBounds_toArray, List.set_cons_zero, List.set_cons_succ]
    refine wpAnyH_take (i := 35) (v := (.bool true)) rfl (by kernel_rfl) (by kernel_rfl) (by kernel_rfl) (fun _ _ _ h => h) (Or.inl ⟨by kernel_rfl, fun w hSw => ?_⟩) (by assumption) ?_
    · (try dsimp only at hSw); go_simp <;> (try rfl)
    change wpAnyH _ _ _ _ _ _ _ (Act.put _ (some (4 : Nat)) (.bool true)) _
    simp only [Act.put, List.setIfInBounds_toArray, List.set_cons_zero, List.set_cons_succ]
    refine wpAnyH_done (by kernel_rfl) ?_ _
    go_wp2
    go_ret
    exact ⟨rfl, HXa7.out⟩

end Go.Proofs.Ytkildlonenjmaaa
