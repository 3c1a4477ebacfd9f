/-
  VectorAll, walked.
-/
import Derived.Test.YtnncfhkgcaoomaaVFix
import Derived.Test.YtnncfhkgcaoomaaVNil
namespace Go.Proofs.Ytnncfhkgcaoomaa
open Go.RowKit

set_option maxHeartbeats 8000000 in
set_option maxRecDepth 100000 in
theorem vall_far_nb (n : Int) (k f : Int) (B : Option Addr) (nb cb : Nat) (A : Option Addr) (nt ct : Nat) (pl : Int) (w : World) (hnb : 100 < nb) :
    Calls Try.prog 5 #[.int .i64 n, .agg #[.int .i64 k, .int .i64 f, .slice B nb cb, .slice A nt ct], .int .i64 pl] w fun e w' => e = .returned (.bool true) ∧ Below w.heap.size w w' := by
  have hdnb : decide (100 < (nb : Int)) = true := by simp; omega
  go_enter Try.func5, Try.ntmps5
  go_wp2_with (go_at_call 16; (with_reducible refine (vfixed_any _).mono ?_); rintro e w1 ⟨rfl, hb1⟩; have HX1 : Hid (Below w.heap.size w w1) := Lib.hid (((Below.refl _ w).alloc (Nat.le_refl _) _).trans (hb1.mono (by simp))); have HM1 : Hid (Blk w1 w.heap.size 50 [.int .i64 k, .int .i64 f, .slice B nb cb, .slice A nt ct]) := Lib.hid ((Blk.fresh rfl rfl).through hb1); have c2 := HM1.out.cellAt (i := 2) rfl; have c3 := HM1.out.cellAt (i := 3) rfl; clear hb1)
  go_ret
  exact ⟨rfl, HX1.out⟩

set_option maxHeartbeats 8000000 in
set_option maxRecDepth 100000 in
theorem vall_far_nt (n : Int) (k f : Int) (B : Option Addr) (nb cb : Nat) (A : Option Addr) (nt ct : Nat) (pl : Int) (w : World) (hnb : nb ≤ 100) (hnt : 50 < nt) :
    Calls Try.prog 5 #[.int .i64 n, .agg #[.int .i64 k, .int .i64 f, .slice B nb cb, .slice A nt ct], .int .i64 pl] w fun e w' => e = .returned (.bool true) ∧ Below w.heap.size w w' := by
  have hdnb : decide (100 < (nb : Int)) = false := by simp; omega
  have hdnt : decide (50 < (nt : Int)) = true := by simp; omega
  go_enter Try.func5, Try.ntmps5
  go_wp2_with (go_at_call 16; (with_reducible refine (vfixed_any _).mono ?_); rintro e w1 ⟨rfl, hb1⟩; have HX1 : Hid (Below w.heap.size w w1) := Lib.hid (((Below.refl _ w).alloc (Nat.le_refl _) _).trans (hb1.mono (by simp))); have HM1 : Hid (Blk w1 w.heap.size 50 [.int .i64 k, .int .i64 f, .slice B nb cb, .slice A nt ct]) := Lib.hid ((Blk.fresh rfl rfl).through hb1); have c2 := HM1.out.cellAt (i := 2) rfl; have c3 := HM1.out.cellAt (i := 3) rfl; clear hb1)
  go_ret
  exact ⟨rfl, HX1.out⟩

set_option maxHeartbeats 8000000 in
set_option maxRecDepth 100000 in
theorem vall_none (n : Int) (hn : n < 1 ∨ 7 < n) (k f : Int) (body : List UInt8) (tgs : List (List UInt8)) (B : Option Addr) (nb cb : Nat) (A : Option Addr) (nt ct : Nat) (pl : Int) (w : World) (hyb : By w (fun _ => True) B nb body) (hta : Tg w A nt tgs) (hnb : nb ≤ 100) (hnt : nt ≤ 50) :
    Calls Try.prog 5 #[.int .i64 n, .agg #[.int .i64 k, .int .i64 f, .slice B nb cb, .slice A nt ct], .int .i64 pl] w fun e w' => e = .returned (.bool true) ∧ Below w.heap.size w w' := by
  have hdnb : decide (100 < (nb : Int)) = false := by simp; omega
  have hdnt : decide (50 < (nt : Int)) = false := by simp; omega
  have hck : ∀ W, Below w.heap.size w W → Calls Try.prog 19 #[.nilIface, .agg #[.int .i64 k, .int .i64 f, .slice B nb cb, .slice A nt ct], .int .i64 pl, .int .i64 0] W fun e w' => e = .returned (.int .i64 12) ∧ Below W.heap.size W w' := fun W hb => by
    by_cases hp : pl < 0 ∨ (nt : Int) ≤ pl
    · exact check_out k f 0 pl B nb cb A nt ct _ hp W
    · obtain ⟨j, rfl⟩ : ∃ j : Nat, pl = (j : Int) := ⟨pl.toNat, by omega⟩
      have hjl : j < tgs.length := by have := hta.1; omega
      exact check_nilc _ k f 0 body tgs[j] tgs B nb cb (by omega) A nt ct j (List.getElem?_eq_getElem hjl) W (hyb.through hb) (hta.through hb)
  have hsg : ∀ W A' n' c', Below w.heap.size w W → Calls Try.prog 20 #[.nilIface, .int .i64 k, .int .i64 f, .slice B nb cb, .slice A' n' c'] W fun e w' => ∃ B1 c1, e = .returned (.agg #[.int .i64 k, .int .i64 f, .slice B1 nb c1, .slice none 0 0]) ∧ Below W.heap.size W w' := fun W A' n' c' hb => sign_nil _ k f body B nb cb (by omega) A' n' c' W (hyb.through hb)
  have hfd : ∀ (k f : Int) (B1 : Option Addr) (nb c1 : Nat) (W : World), (Instr.field 50 (.agg #[.int .i64 k, .int .i64 f, .slice B1 nb c1, .slice none 0 0]) 3).run Try.prog W = .ok (.slice none 0 0) W := fun _ _ _ _ _ _ => by kernel_rfl
  have HCk := Lib.hid hck
  have HSg := Lib.hid hsg
  clear hck hsg hyb hta
  go_enter Try.func5, Try.ntmps5
  go_wp2_with (first
    | (go_at_call 16; (with_reducible refine (vfixed_any _).mono ?_); rintro e w1 ⟨rfl, hb1⟩; have HX1 : Hid (Below w.heap.size w w1) := Lib.hid (((Below.refl _ w).alloc (Nat.le_refl _) _).trans (hb1.mono (by simp))); have HM1 : Hid (Blk w1 w.heap.size 50 [.int .i64 k, .int .i64 f, .slice B nb cb, .slice A nt ct]) := Lib.hid ((Blk.fresh rfl rfl).through hb1); have c2 := HM1.out.cellAt (i := 2) rfl; have c3 := HM1.out.cellAt (i := 3) rfl; clear hb1)
    | (go_at_call 17; (with_reducible refine (all_none n hn _).mono ?_); rintro e w2 ⟨rfl, rfl⟩)
    | (go_at_call 18; (with_reducible refine (rall_none n hn _).mono ?_); rintro e w3 ⟨rfl, rfl⟩))
  have hr := HX1.out
  have hm := HM1.out
  have HXr := Lib.hid hr
  have HMr := Lib.hid hm
  clear hr hm
  go_loopw [33] (fun iv wr => iv = .int .i64 0 ∧ wr = w1) (fun iv _ => 0)
  case atStart => exact ⟨rfl, rfl⟩
  case round =>
    obtain ⟨rfl, rfl⟩ := hrel
    go_wp2_with (first
        | (refine wpList_load_blk rfl 50 (.tmp 4) rfl w.heap.size rfl 50 [.int .i64 k, .int .i64 f, .slice B nb cb, .slice A nt ct] _ HMr.out Try.underlying50 rfl (by kernel_rfl) ?_)
        | (go_at_call 19; (with_reducible refine (HCk.out _ HXr.out).mono ?_); rintro e wc ⟨rfl, hb⟩; have HXc := Lib.hid (HXr.out.trans (hb.mono HXr.out.size)); have HMc := Lib.hid (HMr.out.through hb); have d0 := HMc.out.cellAt (i := 0) rfl; have d1 := HMc.out.cellAt (i := 1) rfl; have d2 := HMc.out.cellAt (i := 2) rfl; clear hb)
        | (go_at_call 20; (with_reducible refine (HSg.out _ _ _ _ HXc.out).mono ?_); rintro e wd ⟨B1, c1, rfl, hb⟩; have HXd := Lib.hid (HXc.out.trans (hb.mono HXc.out.size)); clear hb))
    go_ret
    exact ⟨rfl, HXd.out⟩

set_option maxHeartbeats 8000000 in
set_option maxRecDepth 100000 in
theorem vall_some (m : Nat) (h1 : 1 ≤ m) (h7 : m ≤ 7) (k f : Int) (body : List UInt8) (tgs : List (List UInt8)) (B : Option Addr) (nb cb : Nat) (A : Option Addr) (nt ct : Nat) (pl : Int) (w : World) (hyb : By w (fun _ => True) B nb body) (hta : Tg w A nt tgs) (hnb : nb ≤ 100) (hnt : nt ≤ 50) :
    Calls Try.prog 5 #[.int .i64 (m : Int), .agg #[.int .i64 k, .int .i64 f, .slice B nb cb, .slice A nt ct], .int .i64 pl] w fun e w' => e = .returned (.bool true) ∧ Below w.heap.size w w' := by
  have hdnb : decide (100 < (nb : Int)) = false := by simp; omega
  have hdnt : decide (50 < (nt : Int)) = false := by simp; omega
  have hall : ∀ W, Calls Try.prog 17 #[.int .i64 (m : Int)] W fun e w' => ∃ b, e = .returned (.slice (some ⟨b, 0, none⟩) m m) ∧ Iv w' (fun k => k = b) (some ⟨b, 0, none⟩) m (upTo m) ∧ Below W.heap.size W w' := fun W => by
    refine (all_some m h1 h7 W).mono ?_
    rintro e w' ⟨rfl, h1, h2⟩
    exact ⟨_, rfl, h1, h2⟩
  have HAll := Lib.hid hall
  clear hall
  have hck : ∀ W, Below w.heap.size w W → Calls Try.prog 19 #[.nilIface, .agg #[.int .i64 k, .int .i64 f, .slice B nb cb, .slice A nt ct], .int .i64 pl, .int .i64 0] W fun e w' => e = .returned (.int .i64 12) ∧ Below W.heap.size W w' := fun W hb => by
    by_cases hp : pl < 0 ∨ (nt : Int) ≤ pl
    · exact check_out k f 0 pl B nb cb A nt ct _ hp W
    · obtain ⟨j, rfl⟩ : ∃ j : Nat, pl = (j : Int) := ⟨pl.toNat, by omega⟩
      have hjl : j < tgs.length := by have := hta.1; omega
      exact check_nilc _ k f 0 body tgs[j] tgs B nb cb (by omega) A nt ct j (List.getElem?_eq_getElem hjl) W (hyb.through hb) (hta.through hb)
  have hsg : ∀ W A' n' c', Below w.heap.size w W → Calls Try.prog 20 #[.nilIface, .int .i64 k, .int .i64 f, .slice B nb cb, .slice A' n' c'] W fun e w' => ∃ B1 c1, e = .returned (.agg #[.int .i64 k, .int .i64 f, .slice B1 nb c1, .slice none 0 0]) ∧ Below W.heap.size W w' := fun W A' n' c' hb => sign_nil _ k f body B nb cb (by omega) A' n' c' W (hyb.through hb)
  have hfd : ∀ (k f : Int) (B1 : Option Addr) (nb c1 : Nat) (W : World), (Instr.field 50 (.agg #[.int .i64 k, .int .i64 f, .slice B1 nb c1, .slice none 0 0]) 3).run Try.prog W = .ok (.slice none 0 0) W := fun _ _ _ _ _ _ => by kernel_rfl
  have HCk := Lib.hid hck
  have HSg := Lib.hid hsg
  clear hck hsg hyb hta
  go_enter Try.func5, Try.ntmps5
  go_wp2_with (first
    | (go_at_call 16; (with_reducible refine (vfixed_any _).mono ?_); rintro e w1 ⟨rfl, hb1⟩; have HX1 : Hid (Below w.heap.size w w1) := Lib.hid (((Below.refl _ w).alloc (Nat.le_refl _) _).trans (hb1.mono (by simp))); have HM1 : Hid (Blk w1 w.heap.size 50 [.int .i64 k, .int .i64 f, .slice B nb cb, .slice A nt ct]) := Lib.hid ((Blk.fresh rfl rfl).through hb1); have c2 := HM1.out.cellAt (i := 2) rfl; have c3 := HM1.out.cellAt (i := 3) rfl; clear hb1)
    | (go_at_call 17; (with_reducible refine (HAll.out _).mono ?_); rintro e w2 ⟨b, rfl, hi2, hb2⟩; have HX2 := Lib.hid (HX1.out.trans (hb2.mono HX1.out.size)); have HM2 := Lib.hid (HM1.out.through hb2); have HI2 := Lib.hid hi2; clear hi2 hb2)
    | (go_at_call 18; (with_reducible refine (rall_some m h1 h7 _).mono ?_); rintro e w3 ⟨R3, cr, rfl, hj3, hb3⟩; have HX3 := Lib.hid (HX2.out.trans (hb3.mono HX2.out.size)); have HM3 := Lib.hid (HM2.out.through hb3); have HI3 := Lib.hid (HI2.out.through hb3); have HJ3 := Lib.hid hj3; clear hj3 hb3))
  go_loopw [33] (fun iv wr => ∃ j : Nat, j ≤ m ∧ iv = .int .i64 j ∧ Below w.heap.size w wr ∧ Blk wr w.heap.size 50 [.int .i64 k, .int .i64 f, .slice B nb cb, .slice A nt ct] ∧ Iv wr (fun k => k = b) (some ⟨b, 0, none⟩) m (upTo m) ∧ Iv wr (fun _ => True) R3 m (upTo m)) (fun iv _ => m - (intOf iv).toNat)
  case atStart => exact ⟨0, Nat.zero_le _, rfl, HX3.out, HM3.out, HI3.out, HJ3.out⟩
  case round =>
    obtain ⟨j, hj, rfl, hx, hm, hi, hjv⟩ := hrel
    have HXr := Lib.hid hx
    have HMr := Lib.hid hm
    have HIr := Lib.hid hi
    have HJr := Lib.hid hjv
    clear hx hm hi hjv
    by_cases hlt : j < m
    · obtain ⟨gr, orr, rfl, _, hcr⟩ := HJr.out.cell (by omega)
      obtain ⟨gb, ob, e, _, hcb⟩ := HIr.out.cell (by omega)
      obtain ⟨rfl, rfl⟩ : b = gb ∧ ob = 0 := by
        injection e with e
        injection e with e1 e2
        exact ⟨e1, e2.symm⟩
      have hcr := hcr j hlt
      have hcb := hcb j hlt
      have hup : (upTo m).getD j 0 = (j : Int) := by simp [List.getD, upTo_get m j hlt]
      rw [hup] at hcr hcb
      rw [Nat.zero_add] at hcb
      have HR := Lib.hid hcr
      have HB := Lib.hid hcb
      clear hcr hcb hup e
      go_wp2
      try dsimp only [Act.put]
      refine wp_region_held_drew (S := fun W => W.cell? ⟨b, j, none⟩ = some (.int .i64 (j : Int)) ∧ W.cell? ⟨gr, orr + j, none⟩ = some (.int .i64 (j : Int))) (by kernel_rfl) ⟨HB.out, HR.out⟩ (fun hHeld => ?_)
      change wpAnyH _ _ _ _ _ _ #[false, false, false, false, false, false, false, false, false] _ _
      refine wpAnyH_take (i := 0) (v := (.slice (some ⟨b, 0, none⟩) m m)) rfl (by kernel_rfl) (by kernel_rfl) (by kernel_rfl) (fun _ _ _ h => h) (Or.inl ⟨by kernel_rfl, fun w hSw => ?_⟩) (by assumption) ?_
      · (try dsimp only at hSw); go_simp <;> (try rfl)
      change wpAnyH _ _ _ _ _ _ _ (Act.put _ (some (36 : Nat)) (.slice (some ⟨b, 0, none⟩) m m)) _
      simp only [Act.put, List.setIfInBounds_toArray, List.set_cons_zero, List.set_cons_succ]
      refine wpAnyH_take (i := 1) (v := (.int .i64 (j : Int))) rfl (by kernel_rfl) (by kernel_rfl) (by kernel_rfl) (fun _ _ _ h => h) (Or.inl ⟨by kernel_rfl, fun w hSw => ?_⟩) (by assumption) ?_
      · (try dsimp only at hSw); go_simp <;> (try rfl)
      change wpAnyH _ _ _ _ _ _ _ (Act.put _ (some (37 : Nat)) (.int .i64 (j : Int))) _
      simp only [Act.put, List.setIfInBounds_toArray, List.set_cons_zero, List.set_cons_succ]
      refine wpAnyH_take (i := 2) (v := (.pointer (some ⟨b, j, none⟩))) rfl (by kernel_rfl) (by kernel_rfl) (by kernel_rfl) (fun _ _ _ h => h) (Or.inl ⟨by kernel_rfl, fun w hSw => ?_⟩) (by assumption) ?_
      · (try dsimp only at hSw); go_simp <;> (try rfl)
      change wpAnyH _ _ _ _ _ _ _ (Act.put _ (some (38 : Nat)) (.pointer (some ⟨b, j, none⟩))) _
      simp only [Act.put, List.setIfInBounds_toArray, List.set_cons_zero, List.set_cons_succ]
      refine wpAnyH_take (i := 3) (v := (.int .i64 (j : Int))) rfl (by kernel_rfl) (by kernel_rfl) (by kernel_rfl) (fun _ _ _ h => h) (yields_load_at (by kernel_rfl) 3 (.tmp 38) rfl (.pointer (some ⟨b, j, none⟩)) (by simp [Act.eval]) (.int .i64 (j : Int)) (fun W hW => load_one' (Try.agg_int W) hW.1)) (by assumption) ?_
      change wpAnyH _ _ _ _ _ _ _ (Act.put _ (some (39 : Nat)) (.int .i64 (j : Int))) _
      simp only [Act.put, List.setIfInBounds_toArray, List.set_cons_zero, List.set_cons_succ]
      refine wpAnyH_take (i := 4) (v := (.slice (some ⟨gr, orr, none⟩) m cr)) rfl (by kernel_rfl) (by kernel_rfl) (by kernel_rfl) (fun _ _ _ h => h) (Or.inl ⟨by kernel_rfl, fun w hSw => ?_⟩) (by assumption) ?_
      · (try dsimp only at hSw); go_simp <;> (try rfl)
      change wpAnyH _ _ _ _ _ _ _ (Act.put _ (some (40 : Nat)) (.slice (some ⟨gr, orr, none⟩) m cr)) _
      simp only [Act.put, List.setIfInBounds_toArray, List.set_cons_zero, List.set_cons_succ]
      refine wpAnyH_take (i := 5) (v := (.int .i64 (j : Int))) rfl (by kernel_rfl) (by kernel_rfl) (by kernel_rfl) (fun _ _ _ h => h) (Or.inl ⟨by kernel_rfl, fun w hSw => ?_⟩) (by assumption) ?_
      · (try dsimp only at hSw); go_simp <;> (try rfl)
      change wpAnyH _ _ _ _ _ _ _ (Act.put _ (some (41 : Nat)) (.int .i64 (j : Int))) _
      simp only [Act.put, List.setIfInBounds_toArray, List.set_cons_zero, List.set_cons_succ]
      refine wpAnyH_take (i := 6) (v := (.pointer (some ⟨gr, orr + j, none⟩))) rfl (by kernel_rfl) (by kernel_rfl) (by kernel_rfl) (fun _ _ _ h => h) (Or.inl ⟨by kernel_rfl, fun w hSw => ?_⟩) (by assumption) ?_
      · (try dsimp only at hSw); go_simp <;> (try rfl)
      change wpAnyH _ _ _ _ _ _ _ (Act.put _ (some (42 : Nat)) (.pointer (some ⟨gr, orr + j, none⟩))) _
      simp only [Act.put, List.setIfInBounds_toArray, List.set_cons_zero, List.set_cons_succ]
      refine wpAnyH_take (i := 7) (v := (.int .i64 (j : Int))) rfl (by kernel_rfl) (by kernel_rfl) (by kernel_rfl) (fun _ _ _ h => h) (yields_load_at (by kernel_rfl) 3 (.tmp 42) rfl (.pointer (some ⟨gr, orr + j, none⟩)) (by simp [Act.eval]) (.int .i64 (j : Int)) (fun W hW => load_one' (Try.agg_int W) hW.2)) (by assumption) ?_
      change wpAnyH _ _ _ _ _ _ _ (Act.put _ (some (43 : Nat)) (.int .i64 (j : Int))) _
      simp only [Act.put, List.setIfInBounds_toArray, List.set_cons_zero, List.set_cons_succ]
      refine wpAnyH_take (i := 8) (v := (.bool false)) rfl (by kernel_rfl) (by kernel_rfl) (by kernel_rfl) (fun _ _ _ h => h) (Or.inl ⟨by kernel_rfl, fun w hSw => ?_⟩) (by assumption) ?_
      · (try dsimp only at hSw); go_simp <;> (try rfl)
      change wpAnyH _ _ _ _ _ _ _ (Act.put _ (some (44 : Nat)) (.bool false)) _
      simp only [Act.put, List.setIfInBounds_toArray, List.set_cons_zero, List.set_cons_succ]
      refine wpAnyH_done (by kernel_rfl) ?_ _
      go_wp2
      go_roundw
      case rel => exact ⟨j + 1, by omega, by go_num, HXr.out.drew, HMr.out.drew, HIr.out.drew, HJr.out.drew⟩
      case measure => simp [intOf]; omega
    · obtain rfl : j = m := by omega
      go_wp2_with (first
        | (refine wpList_load_blk rfl 50 (.tmp 4) rfl w.heap.size rfl 50 [.int .i64 k, .int .i64 f, .slice B nb cb, .slice A nt ct] _ HMr.out Try.underlying50 rfl (by kernel_rfl) ?_)
        | (go_at_call 19; (with_reducible refine (HCk.out _ HXr.out).mono ?_); rintro e wc ⟨rfl, hb⟩; have HXc := Lib.hid (HXr.out.trans (hb.mono HXr.out.size)); have HMc := Lib.hid (HMr.out.through hb); have d0 := HMc.out.cellAt (i := 0) rfl; have d1 := HMc.out.cellAt (i := 1) rfl; have d2 := HMc.out.cellAt (i := 2) rfl; clear hb)
        | (go_at_call 20; (with_reducible refine (HSg.out _ _ _ _ HXc.out).mono ?_); rintro e wd ⟨B1, c1, rfl, hb⟩; have HXd := Lib.hid (HXc.out.trans (hb.mono HXc.out.size)); clear hb))
      go_ret
      exact ⟨rfl, HXd.out⟩

theorem vall_any (n : Int) (k f : Int) (body : List UInt8) (tgs : List (List UInt8)) (B : Option Addr) (nb cb : Nat) (A : Option Addr) (nt ct : Nat) (pl : Int) (w : World) (hyb : By w (fun _ => True) B nb body) (hta : Tg w A nt tgs) :
    Calls Try.prog 5 #[.int .i64 n, .agg #[.int .i64 k, .int .i64 f, .slice B nb cb, .slice A nt ct], .int .i64 pl] w fun e w' => e = .returned (.bool true) ∧ Below w.heap.size w w' := by
  by_cases hnb : nb ≤ 100
  · by_cases hnt : nt ≤ 50
    · by_cases hn : n < 1 ∨ 7 < n
      · exact vall_none n hn k f body tgs B nb cb A nt ct pl w hyb hta hnb hnt
      · obtain ⟨m, rfl⟩ : ∃ m : Nat, n = (m : Int) := ⟨n.toNat, by omega⟩
        exact vall_some m (by omega) (by omega) k f body tgs B nb cb A nt ct pl w hyb hta hnb hnt
    · exact vall_far_nt n k f B nb cb A nt ct pl w hnb (by omega)
  · exact vall_far_nb n k f B nb cb A nt ct pl w (by omega)

end Go.Proofs.Ytnncfhkgcaoomaa
