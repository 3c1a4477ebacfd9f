/-
  The document's Check of a book.
-/
import Derived.Test.YtnncfhkgcaoomaaRTag5
import Derived.RegionTactic
import Derived.ChangeAlike
import Derived.StillTailTactics
import Derived.Deep.QuietTactic
import Derived.Outline
namespace Go.Proofs.Ytnncfhkgcaoomaa
open Go.RowKit

set_option maxHeartbeats 8000000 in
set_option maxRecDepth 100000 in
theorem rcheck5_hit (Q : Nat → Prop) (g : Nat) (ds : List DK) (ts : List TK) (a b : Int) (t tg : List UInt8) (A : Option Addr) (n c : Nat) (w : World) (h : RB w g ds ts) (hby : By w Q A n t) (hl : ts.length < 100000000) (htg : tg.length = 32) (hx : (a, b, t) ∈ ts) :
    Calls Try.prog 10 #[.pointer (some ⟨g, 0, none⟩), .int .i64 a, .int .i64 b, .slice A n c, .agg (vs tg).toArray] w fun e w' => e = .returned (.bool (tg == bookTag ts (a, b, t))) ∧ Below w.heap.size w w' := by
  have hg := h.lt
  obtain ⟨s, hs⟩ : ∃ s : ByteArray, s = ⟨t.toArray⟩ := ⟨_, rfl⟩
  have hcv : ∀ o, (convert 33 9 (.slice A n c)).run Try.prog (w.alloc o) = .ok (.string s) (w.alloc o) := fun o => by rw [hs]; exact str_any Q c (hby.alloc o)
  have hkx : saidC (a, b, t) = [.int .i64 a, .int .i64 b, .string s] := by rw [hs]; rfl
  obtain ⟨q, hq⟩ : ∃ q, q = vs tg := ⟨_, rfl⟩
  have hql : q.length = 32 := by rw [hq, vs_length, htg]
  obtain ⟨p, hp⟩ : ∃ p : Int, p = place (a, b, t) ts := ⟨_, rfl⟩
  have hfind : ∀ W, RB W g ds ts → Calls Try.prog 22 #[.pointer (some ⟨g, 0, none⟩), .agg #[.int .i64 a, .int .i64 b, .string s]] W fun e w' => e = .returned (.int .i64 p) ∧ Below W.heap.size W w' := fun W h1 => by
    rw [hp]
    have h2 := rfind_any g ds ts (a, b, t) (by omega) W h1
    rw [hkx] at h2
    exact h2
  have hol := ord_le hx
  have ho1 : 1 ≤ ord (a, b, t) ts := by unfold ord; omega
  have hpo : p = (ord (a, b, t) ts : Int) - 1 := by rw [hp, place_mem hx]
  have hp0 : 0 ≤ p := by omega
  have hp9 : p < 1000000000 := by omega
  obtain ⟨r, hr⟩ : ∃ r, r = vs (bookTag ts (a, b, t)) := ⟨_, rfl⟩
  have hnum : ∀ W, Calls Try.prog 21 #[.int .u8 255, .int .i64 (p + 1)] W fun e w' => e = .returned (.agg r.toArray) ∧ Below W.heap.size W w' := fun W => by
    have h2 := rnum5_any 255 (ord (a, b, t) ts) (by omega) W
    have e1 : ((ord (a, b, t) ts : Nat) : Int) = p + 1 := by omega
    rw [e1] at h2
    rw [hr]
    exact h2
  have hpw : wrap64 (p + 1) = p + 1 := by unfold wrap64; omega
  have hpw2 : IntKind.i64.wrap (p + 1) = p + 1 := IntWalk.i64_in _ (by omega)
  have hpl : decide (0 ≤ p) = true := by simp; omega
  obtain ⟨res, hres⟩ : ∃ res, res = (tg == bookTag ts (a, b, t)) := ⟨_, rfl⟩
  have hcmp : ∀ W, (binOp .eql 35 (.agg q.toArray) (.agg r.toArray)).run Try.prog W = .ok (.bool res) W := fun W => by
    rw [hq, hr, hres]
    exact tag_eql _ _ htg (numB_length _ _) W
  rw [← hres]
  have HNum := Lib.hid hnum
  have HFind := Lib.hid hfind
  have HQl := Lib.hid hql
  have HRB := Lib.hid h
  rw [← hq]
  clear h hby hs hkx hq hql hp hfind hx htg hol ho1 hpo hr hnum hres
  go_enter Try.func10, Try.ntmps10
  go_wp2_with (go_at_call 22; (with_reducible refine (HFind.out _ (HRB.out.through ((Below.refl _ w).alloc (Nat.le_refl _) _))).mono ?_); rintro e w1 ⟨rfl, hb1⟩; have HX1 : Hid (Below w.heap.size w w1) := Lib.hid (((Below.refl _ w).alloc (Nat.le_refl _) _).trans (hb1.mono (by simp))); have HB1 : Hid (Blk w1 w.heap.size 35 q) := Lib.hid ((Blk.fresh rfl rfl).through hb1); clear hb1)
  obtain ⟨b9, hb9⟩ : ∃ b9, b9 = w.heap.size := ⟨_, rfl⟩
  rw [← hb9] at HB1
  rw [← hb9]
  clear hb9
  try dsimp only [Act.put]
  refine wp_region_held_drew (S := fun W => Blk W b9 35 q) (by kernel_rfl) HB1.out.drew (fun hHeld => ?_)
  change wpAnyH _ _ _ _ _ _ #[false, false, false, false, false, false, false, false, false, false] _ _
  refine wpAnyH_take (i := 0) (v := (.int .i64 p)) rfl (by kernel_rfl) (by kernel_rfl) (by kernel_rfl) (fun _ _ _ h => h) (Or.inl ⟨by kernel_rfl, fun w hSw => ?_⟩) (by assumption) ?_
  · (try dsimp only at hSw); go_simp <;> (try rfl)
  change wpAnyH _ _ _ _ _ _ _ (Act.put _ (some (19 : Nat)) (.int .i64 p)) _
  simp only [Act.put, List.setIfInBounds_toArray, List.set_cons_zero, List.set_cons_succ]
  refine wpAnyH_take (i := 1) (v := (.bool true)) rfl (by kernel_rfl) (by kernel_rfl) (by kernel_rfl) (fun _ _ _ h => h) (Or.inl ⟨by kernel_rfl, fun w hSw => ?_⟩) (by assumption) ?_
  · (try dsimp only at hSw); go_simp <;> (try rfl)
  change wpAnyH _ _ _ _ _ _ _ (Act.put _ (some (20 : Nat)) (.bool true)) _
  simp only [Act.put, List.setIfInBounds_toArray, List.set_cons_zero, List.set_cons_succ]
  refine wpAnyH_take (i := 2) (v := (.bool true)) rfl (by kernel_rfl) (by kernel_rfl) (by kernel_rfl) (fun _ _ _ h => h) (Or.inl ⟨by kernel_rfl, fun w hSw => ?_⟩) (by assumption) ?_
  · (try dsimp only at hSw); go_simp <;> (try rfl)
  change wpAnyH _ _ _ _ _ _ _ (Act.put _ (some (21 : Nat)) (.bool true)) _
  simp only [Act.put, List.setIfInBounds_toArray, List.set_cons_zero, List.set_cons_succ]
  refine wpAnyH_take (i := 3) (v := (.agg q.toArray)) rfl (by kernel_rfl) (by kernel_rfl) (by kernel_rfl) (fun _ _ _ h => h) (yields_load_at (by kernel_rfl) 35 (.tmp 9) rfl (.pointer (some ⟨b9, 0, none⟩)) (by simp [Act.eval]) (.agg q.toArray) (fun W hW => hW.loadAt 35 _ Try.underlying35 rfl (by rw [HQl.out]; kernel_rfl))) (by assumption) ?_
  change wpAnyH _ _ _ _ _ _ _ (Act.put _ (some (22 : Nat)) (.agg q.toArray)) _
  simp only [Act.put, List.setIfInBounds_toArray, List.set_cons_zero, List.set_cons_succ]
  refine wpAnyH_take (i := 4) (v := (.int .i64 p)) rfl (by kernel_rfl) (by kernel_rfl) (by kernel_rfl) (fun _ _ _ h => h) (Or.inl ⟨by kernel_rfl, fun w hSw => ?_⟩) (by assumption) ?_
  · (try dsimp only at hSw); go_simp <;> (try rfl)
  change wpAnyH _ _ _ _ _ _ _ (Act.put _ (some (23 : Nat)) (.int .i64 p)) _
  simp only [Act.put, List.setIfInBounds_toArray, List.set_cons_zero, List.set_cons_succ]
  refine wpAnyH_take (i := 5) (v := (.int .i64 (p + 1))) rfl (by kernel_rfl) (by kernel_rfl) (by kernel_rfl) (fun _ _ _ h => h) (Or.inl ⟨by kernel_rfl, fun w hSw => ?_⟩) (by assumption) ?_
  · (try dsimp only at hSw); go_simp <;> (try rfl)
  change wpAnyH _ _ _ _ _ _ _ (Act.put _ (some (24 : Nat)) (.int .i64 (p + 1))) _
  simp only [Act.put, List.setIfInBounds_toArray, List.set_cons_zero, List.set_cons_succ]
  refine wpAnyH_ready (rs := [6]) (by kernel_rfl) (by simp) ?_
  refine AllReadyH.cons rfl (fun K hK => ?_) AllReadyH.nil
  go_simp
  refine (HNum.out _).mono ?_
  rintro e wa ⟨rfl, hb⟩; have HXa := Lib.hid (HX1.out.drew.trans (hb.mono HX1.out.size)); have HBa := Lib.hid (HB1.out.drew.through hb); clear hb
  go_wp2_with fail
  refine hK.out _ _ HBa.out (fun hHeld1 => ?_)
  clear hHeld hK K
  have hHeld := hHeld1
  clear hHeld1
  refine wpAnyH_take (i := 7) (v := (.bool res)) rfl (by kernel_rfl) (by kernel_rfl) (by kernel_rfl) (fun _ _ _ h => h) (Or.inl ⟨by kernel_rfl, fun w hSw => ?_⟩) (by assumption) ?_
  · (try dsimp only at hSw); go_simp <;> (try rfl)
  change wpAnyH _ _ _ _ _ _ _ (Act.put _ (some (26 : Nat)) (.bool res)) _
  simp only [Act.put, List.setIfInBounds_toArray, List.set_cons_zero, List.set_cons_succ]
  refine wpAnyH_take (i := 8) (v := (.bool res)) rfl (by kernel_rfl) (by kernel_rfl) (by kernel_rfl) (fun _ _ _ h => h) (Or.inl ⟨by kernel_rfl, fun w hSw => ?_⟩) (by assumption) ?_
  · (try dsimp only at hSw); go_simp <;> (try rfl)
  change wpAnyH _ _ _ _ _ _ _ (Act.put _ (some (27 : Nat)) (.bool res)) _
  simp only [Act.put, List.setIfInBounds_toArray, List.set_cons_zero, List.set_cons_succ]
  refine wpAnyH_take (i := 9) (v := (.bool res)) rfl (by kernel_rfl) (by kernel_rfl) (by kernel_rfl) (fun _ _ _ h => h) (Or.inl ⟨by kernel_rfl, fun w hSw => ?_⟩) (by assumption) ?_
  · (try dsimp only at hSw); go_simp <;> (try rfl)
  change wpAnyH _ _ _ _ _ _ _ (Act.put _ (some (10 : Nat)) (.bool res)) _
  simp only [Act.put, List.setIfInBounds_toArray, List.set_cons_zero, List.set_cons_succ]
  refine wpAnyH_done (by kernel_rfl) ?_ _
  go_wp2
  go_ret
  exact ⟨rfl, HXa.out⟩

set_option maxHeartbeats 8000000 in
set_option maxRecDepth 100000 in
theorem rcheck5_miss (Q : Nat → Prop) (g : Nat) (ds : List DK) (ts : List TK) (a b : Int) (t tg : List UInt8) (A : Option Addr) (n c : Nat) (w : World) (h : RB w g ds ts) (hby : By w Q A n t) (hl : ts.length < 100000000) (htg : tg.length = 32) (hx : (a, b, t) ∉ ts) :
    Calls Try.prog 10 #[.pointer (some ⟨g, 0, none⟩), .int .i64 a, .int .i64 b, .slice A n c, .agg (vs tg).toArray] w fun e w' => e = .returned (.bool false) ∧ Below w.heap.size w w' := by
  have hg := h.lt
  obtain ⟨s, hs⟩ : ∃ s : ByteArray, s = ⟨t.toArray⟩ := ⟨_, rfl⟩
  have hcv : ∀ o, (convert 33 9 (.slice A n c)).run Try.prog (w.alloc o) = .ok (.string s) (w.alloc o) := fun o => by rw [hs]; exact str_any Q c (hby.alloc o)
  have hkx : saidC (a, b, t) = [.int .i64 a, .int .i64 b, .string s] := by rw [hs]; rfl
  obtain ⟨q, hq⟩ : ∃ q, q = vs tg := ⟨_, rfl⟩
  have hql : q.length = 32 := by rw [hq, vs_length, htg]
  obtain ⟨p, hp⟩ : ∃ p : Int, p = place (a, b, t) ts := ⟨_, rfl⟩
  have hfind : ∀ W, RB W g ds ts → Calls Try.prog 22 #[.pointer (some ⟨g, 0, none⟩), .agg #[.int .i64 a, .int .i64 b, .string s]] W fun e w' => e = .returned (.int .i64 p) ∧ Below W.heap.size W w' := fun W h1 => by
    rw [hp]
    have h2 := rfind_any g ds ts (a, b, t) (by omega) W h1
    rw [hkx] at h2
    exact h2
  have hp1 : p = -1 := by rw [hp, place_not hx]
  have hpl : decide (0 ≤ p) = false := by simp; omega
  have hp2 : ¬ 0 ≤ p := by omega
  have HFind := Lib.hid hfind
  have HQl := Lib.hid hql
  have HRB := Lib.hid h
  rw [← hq]
  clear h hby hs hkx hq hql hp hfind hx htg hp1
  go_enter Try.func10, Try.ntmps10
  go_wp2_with (go_at_call 22; (with_reducible refine (HFind.out _ (HRB.out.through ((Below.refl _ w).alloc (Nat.le_refl _) _))).mono ?_); rintro e w1 ⟨rfl, hb1⟩; have HX1 : Hid (Below w.heap.size w w1) := Lib.hid (((Below.refl _ w).alloc (Nat.le_refl _) _).trans (hb1.mono (by simp))); have HB1 : Hid (Blk w1 w.heap.size 35 q) := Lib.hid ((Blk.fresh rfl rfl).through hb1); clear hb1)
  obtain ⟨b9, hb9⟩ : ∃ b9, b9 = w.heap.size := ⟨_, rfl⟩
  rw [← hb9] at HB1
  rw [← hb9]
  clear hb9
  try dsimp only [Act.put]
  refine wp_region_held_drew (S := fun _ => True) (by kernel_rfl) trivial (fun hHeld => ?_)
  change wpAnyH _ _ _ _ _ _ #[false, false, false, false, false, false, false, false, false, false] _ _
  refine wpAnyH_take (i := 0) (v := (.int .i64 p)) rfl (by kernel_rfl) (by kernel_rfl) (by kernel_rfl) (fun _ _ _ h => h) (Or.inl ⟨by kernel_rfl, fun w hSw => ?_⟩) (by assumption) ?_
  · (try dsimp only at hSw); go_simp <;> (try rfl)
  change wpAnyH _ _ _ _ _ _ _ (Act.put _ (some (19 : Nat)) (.int .i64 p)) _
  simp only [Act.put, List.setIfInBounds_toArray, List.set_cons_zero, List.set_cons_succ]
  refine wpAnyH_take (i := 1) (v := (.bool false)) rfl (by kernel_rfl) (by kernel_rfl) (by kernel_rfl) (fun _ _ _ h => h) (Or.inl ⟨by kernel_rfl, fun w hSw => ?_⟩) (by assumption) ?_
  · (try dsimp only at hSw); go_simp <;> (try rfl)
  change wpAnyH _ _ _ _ _ _ _ (Act.put _ (some (20 : Nat)) (.bool false)) _
  simp only [Act.put, List.setIfInBounds_toArray, List.set_cons_zero, List.set_cons_succ]
  refine wpAnyH_take (i := 2) (v := (.bool false)) rfl (by kernel_rfl) (by kernel_rfl) (by kernel_rfl) (fun _ _ _ h => h) (Or.inl ⟨by kernel_rfl, fun w hSw => ?_⟩) (by assumption) ?_
  · (try dsimp only at hSw); go_simp <;> (try rfl)
  change wpAnyH _ _ _ _ _ _ _ (Act.put _ (some (21 : Nat)) (.bool false)) _
  simp only [Act.put, List.setIfInBounds_toArray, List.set_cons_zero, List.set_cons_succ]
  refine wpAnyH_take (i := 3) (v := undef) rfl (by kernel_rfl) (by kernel_rfl) (by kernel_rfl) (fun _ _ _ h => h) (Or.inr ⟨by kernel_rfl, rfl⟩) (by assumption) ?_
  change wpAnyH _ _ _ _ _ _ _ (Act.put _ (some (22 : Nat)) undef) _
  simp only [Act.put, List.setIfInBounds_toArray, List.set_cons_zero, List.set_cons_succ]
  refine wpAnyH_take (i := 4) (v := undef) rfl (by kernel_rfl) (by kernel_rfl) (by kernel_rfl) (fun _ _ _ h => h) (Or.inr ⟨by kernel_rfl, rfl⟩) (by assumption) ?_
  change wpAnyH _ _ _ _ _ _ _ (Act.put _ (some (23 : Nat)) undef) _
  simp only [Act.put, List.setIfInBounds_toArray, List.set_cons_zero, List.set_cons_succ]
  refine wpAnyH_take (i := 5) (v := undef) rfl (by kernel_rfl) (by kernel_rfl) (by kernel_rfl) (fun _ _ _ h => h) (Or.inr ⟨by kernel_rfl, rfl⟩) (by assumption) ?_
  change wpAnyH _ _ _ _ _ _ _ (Act.put _ (some (24 : Nat)) undef) _
  simp only [Act.put, List.setIfInBounds_toArray, List.set_cons_zero, List.set_cons_succ]
  refine wpAnyH_take (i := 6) (v := undef) rfl (by kernel_rfl) (by kernel_rfl) (by kernel_rfl) (fun _ _ _ h => h) (Or.inr ⟨by kernel_rfl, rfl⟩) (by assumption) ?_
  change wpAnyH _ _ _ _ _ _ _ (Act.put _ (some (25 : Nat)) undef) _
  simp only [Act.put, List.setIfInBounds_toArray, List.set_cons_zero, List.set_cons_succ]
  refine wpAnyH_take (i := 7) (v := undef) rfl (by kernel_rfl) (by kernel_rfl) (by kernel_rfl) (fun _ _ _ h => h) (Or.inr ⟨by kernel_rfl, rfl⟩) (by assumption) ?_
  change wpAnyH _ _ _ _ _ _ _ (Act.put _ (some (26 : Nat)) undef) _
  simp only [Act.put, List.setIfInBounds_toArray, List.set_cons_zero, List.set_cons_succ]
  refine wpAnyH_take (i := 8) (v := (.bool false)) rfl (by kernel_rfl) (by kernel_rfl) (by kernel_rfl) (fun _ _ _ h => h) (Or.inl ⟨by kernel_rfl, fun w hSw => ?_⟩) (by assumption) ?_
  · (try dsimp only at hSw); go_simp <;> (try rfl)
  change wpAnyH _ _ _ _ _ _ _ (Act.put _ (some (27 : Nat)) (.bool false)) _
  simp only [Act.put, List.setIfInBounds_toArray, List.set_cons_zero, List.set_cons_succ]
  refine wpAnyH_take (i := 9) (v := (.bool false)) rfl (by kernel_rfl) (by kernel_rfl) (by kernel_rfl) (fun _ _ _ h => h) (Or.inl ⟨by kernel_rfl, fun w hSw => ?_⟩) (by assumption) ?_
  · (try dsimp only at hSw); go_simp <;> (try rfl)
  change wpAnyH _ _ _ _ _ _ _ (Act.put _ (some (10 : Nat)) (.bool false)) _
  simp only [Act.put, List.setIfInBounds_toArray, List.set_cons_zero, List.set_cons_succ]
  refine wpAnyH_done (by kernel_rfl) ?_ _
  go_wp2
  go_ret
  exact ⟨rfl, HX1.out.drew⟩

theorem rcheck5_any (Q : Nat → Prop) (g : Nat) (ds : List DK) (ts : List TK) (a b : Int) (t tg : List UInt8) (A : Option Addr) (n c : Nat) (w : World) (h : RB w g ds ts) (hby : By w Q A n t) (hl : ts.length < 100000000) (htg : tg.length = 32) :
    Calls Try.prog 10 #[.pointer (some ⟨g, 0, none⟩), .int .i64 a, .int .i64 b, .slice A n c, .agg (vs tg).toArray] w fun e w' => e = .returned (.bool (bookHolds ts (a, b, t) tg)) ∧ Below w.heap.size w w' := by
  unfold bookHolds
  by_cases hx : (a, b, t) ∈ ts
  · rw [decide_eq_true hx, Bool.true_and]
    exact rcheck5_hit Q g ds ts a b t tg A n c w h hby hl htg hx
  · rw [decide_eq_false hx, Bool.false_and]
    exact rcheck5_miss Q g ds ts a b t tg A n c w h hby hl htg hx
theorem rtag5_any (Q : Nat → Prop) (g : Nat) (ds : List DK) (ts : List TK) (a b : Int) (t : List UInt8) (A : Option Addr) (n c : Nat) (w : World) (h : RB w g ds ts) (hby : By w Q A n t) (hl : ts.length < 100000000) :
    Calls Try.prog 9 #[.pointer (some ⟨g, 0, none⟩), .int .i64 a, .int .i64 b, .slice A n c] w fun e w' => e = .returned (.agg (vs (numB 255 (ord (a, b, t) (also (a, b, t) ts)))).toArray) ∧ RB w' g ds (also (a, b, t) ts) ∧ RF g w w' := by
  by_cases hx : (a, b, t) ∈ ts
  · rw [also_mem hx]
    exact rtag5_hit Q g ds ts a b t A n c w h hby hl hx
  · rw [also_new hx]
    exact rtag5_new Q g ds ts a b t A n c w h hby hl hx

end Go.Proofs.Ytnncfhkgcaoomaa
