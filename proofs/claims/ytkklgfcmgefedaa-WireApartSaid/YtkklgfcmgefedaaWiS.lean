/-
  Messages in memory; the document's Same, walked.
-/
import Derived.Test.YtkklgfcmgefedaaWiP
import Derived.Test.YtkklgfcmgefedaaRqV
import Derived.Test.YtkklgfcmgefedaaOBy
import Derived.BigQuiet
namespace Go.Proofs.Ytkklgfcmgefedaa
open Go.RowKit

theorem Try.agg_ts (w : World) : (isAgg 23).run Try.prog w = .ok false w := by kernel_rfl
theorem below2_ (w : World) (A B : Obj) : Below w.heap.size w ((w.alloc A).alloc B) := (below1_ w A).alloc (below1_ w A).size B
theorem Blk.front {w : World} {g : Nat} {t : TypeId} {cs post : List Value} (h : Blk w g t (cs ++ post)) : w.rangeAt g 0 cs := Blk.range (pre := []) (post := post) (by simpa using h)
theorem take_next {α : Type} {xs ys : List α} {j : Nat} {x : α} (h : xs.take j = ys.take j) (hx : xs[j]? = some x) (hy : ys[j]? = some x) : xs.take (j + 1) = ys.take (j + 1) := by
  rw [List.take_add_one, List.take_add_one, h, hx, hy]
theorem ret_b {b c : Bool} (h : b = c) : Ending.returned (.bool b) = Ending.returned (.bool c) := by rw [h]
/-- a message in memory -/
def MsIn (w : World) (B : Option Addr) (nb : Nat) (A : Option Addr) (nt ct : Nat) (m : Ms) : Prop := By w (fun _ => True) B nb m.bd ∧ TsIn w (A, nt, ct) m.ts
theorem MsIn.through {w w' : World} {B A : Option Addr} {nb nt ct : Nat} {m : Ms} (h : MsIn w B nb A nt ct m) (hb : Below w.heap.size w w') : MsIn w' B nb A nt ct m := ⟨h.1.through hb, h.2.through hb⟩
theorem Ms.eqb_no {a b : Ms} (h : a ≠ b) : a.eqb b = false := by
  cases hb : a.eqb b
  · rfl
  · exact absurd (Ms.eqb_iff.1 hb) h

set_option maxHeartbeats 16000000 in
set_option maxRecDepth 100000 in
theorem rmsame_any (a b : Ms) (B : Option Addr) (nb cb : Nat) (A : Option Addr) (nt ct : Nat) (B' : Option Addr) (nb' cb' : Nat) (A' : Option Addr) (nt' ct' : Nat) (w : World) (h : MsIn w B nb A nt ct a) (h' : MsIn w B' nb' A' nt' ct' b) :
    Calls Try.prog 13 #[.agg #[.int .i64 a.kd, .int .i64 a.fr, .slice B nb cb, .slice A nt ct], .agg #[.int .i64 b.kd, .int .i64 b.fr, .slice B' nb' cb', .slice A' nt' ct']] w fun e w' => e = .returned (.bool (a.eqb b)) ∧ Below w.heap.size w w' := by
  obtain ⟨bb, hbb⟩ : ∃ bb, a.eqb b = bb := ⟨_, rfl⟩
  rw [hbb]
  have HBB := Lib.hid hbb
  have H1 : Hid (Blk ((w.alloc (.cells #[.int .i64 a.kd, .int .i64 a.fr, .slice B nb cb, .slice A nt ct] 25)).alloc (.cells #[.int .i64 b.kd, .int .i64 b.fr, .slice B' nb' cb', .slice A' nt' ct'] 25)) w.heap.size 25 [.int .i64 a.kd, .int .i64 a.fr, .slice B nb cb, .slice A nt ct]) := Lib.hid ((Blk.fresh rfl rfl).alloc _)
  have H2 : Hid (Blk ((w.alloc (.cells #[.int .i64 a.kd, .int .i64 a.fr, .slice B nb cb, .slice A nt ct] 25)).alloc (.cells #[.int .i64 b.kd, .int .i64 b.fr, .slice B' nb' cb', .slice A' nt' ct'] 25)) (w.heap.size + 1) 25 [.int .i64 b.kd, .int .i64 b.fr, .slice B' nb' cb', .slice A' nt' ct']) := Lib.hid (Blk.fresh (by simp) rfl)
  have HXe : Hid (Below w.heap.size w ((w.alloc (.cells #[.int .i64 a.kd, .int .i64 a.fr, .slice B nb cb, .slice A nt ct] 25)).alloc (.cells #[.int .i64 b.kd, .int .i64 b.fr, .slice B' nb' cb', .slice A' nt' ct'] 25))) := Lib.hid (below2_ w _ _)
  have HTa := Lib.hid h.2
  have HTb := Lib.hid h'.2
  have HL1 : Hid (a.ts.length = nt) := Lib.hid h.2.len
  have HL2 : Hid (b.ts.length = nt') := Lib.hid h'.2.len
  have HM : Hid (nt ≤ 9223372036854775807) := Lib.hid (by have h9 := h.2.2.2; simp only [maxLen] at h9; omega)
  have hv1 : (convert 22 9 (.slice B nb cb)).run Try.prog ((w.alloc (.cells #[.int .i64 a.kd, .int .i64 a.fr, .slice B nb cb, .slice A nt ct] 25)).alloc (.cells #[.int .i64 b.kd, .int .i64 b.fr, .slice B' nb' cb', .slice A' nt' ct'] 25)) = .ok (.string (ba a.bd)) ((w.alloc (.cells #[.int .i64 a.kd, .int .i64 a.fr, .slice B nb cb, .slice A nt ct] 25)).alloc (.cells #[.int .i64 b.kd, .int .i64 b.fr, .slice B' nb' cb', .slice A' nt' ct'] 25)) := run_string_by _ 22 9 5 Try.underlying22 Try.underlying5 Try.underlying9 _ _ _ _ _ (h.1.through HXe.out)
  have hv2 : (convert 22 9 (.slice B' nb' cb')).run Try.prog ((w.alloc (.cells #[.int .i64 a.kd, .int .i64 a.fr, .slice B nb cb, .slice A nt ct] 25)).alloc (.cells #[.int .i64 b.kd, .int .i64 b.fr, .slice B' nb' cb', .slice A' nt' ct'] 25)) = .ok (.string (ba b.bd)) ((w.alloc (.cells #[.int .i64 a.kd, .int .i64 a.fr, .slice B nb cb, .slice A nt ct] 25)).alloc (.cells #[.int .i64 b.kd, .int .i64 b.fr, .slice B' nb' cb', .slice A' nt' ct'] 25)) := run_string_by _ 22 9 5 Try.underlying22 Try.underlying5 Try.underlying9 _ _ _ _ _ (h'.1.through HXe.out)
  have k10 := H1.out.cellAt (i := 0) rfl
  have k11 := H1.out.cellAt (i := 1) rfl
  have k12 := H1.out.cellAt (i := 2) rfl
  have k13 := H1.out.cellAt (i := 3) rfl
  have k20 := H2.out.cellAt (i := 0) rfl
  have k21 := H2.out.cellAt (i := 1) rfl
  have k22 := H2.out.cellAt (i := 2) rfl
  have k23 := H2.out.cellAt (i := 3) rfl
  clear h h' hbb
  by_cases s0 : a.kd = b.kd
  case neg =>
    have b0 : (a.kd == b.kd) = false := by simpa using s0
    have b1 : (a.kd != b.kd) = true := by simpa using s0
    have HS := Lib.hid s0
    clear s0 hv1 hv2
    go_enter Try.func13, Try.ntmps13
    go_wp2_with (first | go_skip)
    go_ret
    exact ⟨ret_b (by rw [← HBB.out]; exact (Ms.eqb_no (fun h => HS.out (congrArg Ms.kd h))).symm), HXe.out⟩
  have b0 : (a.kd == b.kd) = true := by simpa using s0
  have b1 : (a.kd != b.kd) = false := by simpa using s0
  have HS0 := Lib.hid s0
  clear s0
  by_cases s1 : a.fr = b.fr
  case neg =>
    have b2 : (a.fr == b.fr) = false := by simpa using s1
    have b3 : (a.fr != b.fr) = true := by simpa using s1
    have HS := Lib.hid s1
    clear s1 hv1 hv2
    go_enter Try.func13, Try.ntmps13
    go_wp2_with (first | go_skip)
    go_ret
    exact ⟨ret_b (by rw [← HBB.out]; exact (Ms.eqb_no (fun h => HS.out (congrArg Ms.fr h))).symm), HXe.out⟩
  have b2 : (a.fr == b.fr) = true := by simpa using s1
  have b3 : (a.fr != b.fr) = false := by simpa using s1
  have HS1 := Lib.hid s1
  clear s1
  by_cases s2 : a.bd = b.bd
  case neg =>
    have b4 : ((ba a.bd).toList == (ba b.bd).toList) = false := by rw [eqb_ba]; simpa using s2
    have HS := Lib.hid s2
    clear s2
    go_enter Try.func13, Try.ntmps13
    go_wp2_with (first | go_skip)
    go_ret
    exact ⟨ret_b (by rw [← HBB.out]; exact (Ms.eqb_no (fun h => HS.out (congrArg Ms.bd h))).symm), HXe.out⟩
  have b4 : ((ba a.bd).toList == (ba b.bd).toList) = true := by rw [eqb_ba]; simpa using s2
  have HS2 := Lib.hid s2
  clear s2
  by_cases s3 : nt = nt'
  case neg =>
    have s3i : ¬ (nt : Int) = (nt' : Int) := by omega
    have b6 : ((nt : Int) == (nt' : Int)) = false := by simpa using s3i
    have b7 : ((nt : Int) != (nt' : Int)) = true := by simpa using s3i
    have b8 : (nt == nt') = false := by simpa using s3
    have b9 : (nt != nt') = true := by simpa using s3
    have HS := Lib.hid s3
    clear s3 s3i
    go_enter Try.func13, Try.ntmps13
    go_wp2_with (first | go_skip)
    go_ret
    exact ⟨ret_b (by rw [← HBB.out]; exact (Ms.eqb_no (fun h => HS.out (by rw [← HL1.out, ← HL2.out, h]))).symm), HXe.out⟩
  subst s3
  go_enter Try.func13, Try.ntmps13
  go_wp2_with (first | go_skip)
  clear hv1 hv2 b0 b1 b2 b3 b4 k10 k11 k12 k13 k20 k21 k22 k23
  go_loopw [39] (fun iv wr => ∃ i : Nat, i ≤ nt ∧ iv = .int .i64 i ∧ a.ts.take i = b.ts.take i ∧ Blk wr w.heap.size 25 [.int .i64 a.kd, .int .i64 a.fr, .slice B nb cb, .slice A nt ct] ∧ Blk wr (w.heap.size + 1) 25 [.int .i64 b.kd, .int .i64 b.fr, .slice B' nb' cb', .slice A' nt ct'] ∧ Below w.heap.size w wr) (fun iv _ => nt - (intOf iv).toNat)
  case atStart => exact ⟨0, Nat.zero_le _, rfl, rfl, H1.out, H2.out, HXe.out⟩
  case round =>
    obtain ⟨i, hi, rfl, hq, hk1, hk2, hx⟩ := hrel
    have HQ := Lib.hid hq
    have K1 := Lib.hid hk1
    have K2 := Lib.hid hk2
    have HX := Lib.hid hx
    have hmx := HM.out
    clear hq hk1 hk2 hx
    by_cases hlt : i < nt
    · obtain ⟨g, o, t, hA, hti, _, _, htl, hrt⟩ := (HTa.out.through HX.out).at hlt
      obtain ⟨g', o', t', hA', hti', _, _, htl', hrt'⟩ := (HTb.out.through HX.out).at hlt
      simp only at hA hA'
      subst hA hA'
      have HRt := Lib.hid hrt
      have HTl := Lib.hid htl
      have HRt2 := Lib.hid hrt'
      have HTl2 := Lib.hid htl'
      have HTi := Lib.hid hti
      have HTi2 := Lib.hid hti'
      have hixt := fun (W : World) => Try.ix_tg W g o nt ct i hlt
      have hixt' := fun (W : World) => Try.ix_tg W g' o' nt ct' i hlt
      have htn : ∀ W, (binOp .neq 40 (.agg (vs t).toArray) (.agg (vs t').toArray)).run Try.prog W = .ok (.bool (!(t == t'))) W := fun W => tag_ne t t' htl htl' W
      clear hti hti' htl htl' hrt hrt'
      by_cases ht : t = t'
      case neg =>
        have hb9 : (t == t') = false := by simpa using ht
        have HF : Hid (bb = false) := Lib.hid (by rw [← HBB.out]; exact Ms.eqb_no (fun h => ht (by have h3 := HTi.out; rw [h, HTi2.out] at h3; exact (Option.some.inj h3).symm)))
        rw [hb9] at htn
        clear ht hb9
        go_wp2
        try dsimp only [Act.put]
        refine wp_region_held_drew (S := fun W => Below wr.heap.size wr W) (by kernel_rfl) (Below.refl _ _).drew (fun hHeld => ?_)
        change wpAnyH _ _ _ _ _ _ #[false, false, false, false, false, false, false, false, false, false, false] _ _
        refine wpAnyH_take (i := 0) (v := (.pointer (some ⟨w.heap.size, 3, none⟩))) rfl (by kernel_rfl) (by kernel_rfl) (by kernel_rfl) (fun _ _ _ h => h) (Or.inl ⟨by kernel_rfl, fun w hSw => ?_⟩) (by assumption) ?_
        · (try dsimp only at hSw); go_simp <;> (try rfl)
        change wpAnyH _ _ _ _ _ _ _ (Act.put _ (some (42 : Nat)) (.pointer (some ⟨w.heap.size, 3, none⟩))) _
        simp only [Act.put, List.setIfInBounds_toArray, List.set_cons_zero, List.set_cons_succ]
        refine wpAnyH_take (i := 1) (v := (.slice (some ⟨g, o, none⟩) nt ct)) rfl (by kernel_rfl) (by kernel_rfl) (by kernel_rfl) (fun _ _ _ h => h) (yields_load_at (by kernel_rfl) 23 (.tmp 42) rfl (.pointer (some ⟨w.heap.size, 3, none⟩)) (by simp [Act.eval]) (.slice (some ⟨g, o, none⟩) nt ct) (fun W hW => load_one' (Try.agg_ts W) ((K1.out.through hW).cellAt (i := 3) rfl))) (by assumption) ?_
        change wpAnyH _ _ _ _ _ _ _ (Act.put _ (some (43 : Nat)) (.slice (some ⟨g, o, none⟩) nt ct)) _
        simp only [Act.put, List.setIfInBounds_toArray, List.set_cons_zero, List.set_cons_succ]
        refine wpAnyH_take (i := 2) (v := (.int .i64 (i : Int))) rfl (by kernel_rfl) (by kernel_rfl) (by kernel_rfl) (fun _ _ _ h => h) (Or.inl ⟨by kernel_rfl, fun w hSw => ?_⟩) (by assumption) ?_
        · (try dsimp only at hSw); go_simp <;> (try rfl)
        change wpAnyH _ _ _ _ _ _ _ (Act.put _ (some (44 : Nat)) (.int .i64 (i : Int))) _
        simp only [Act.put, List.setIfInBounds_toArray, List.set_cons_zero, List.set_cons_succ]
        refine wpAnyH_take (i := 3) (v := (.pointer (some ⟨g, o + i * 32, none⟩))) rfl (by kernel_rfl) (by kernel_rfl) (by kernel_rfl) (fun _ _ _ h => h) (Or.inl ⟨by kernel_rfl, fun w hSw => ?_⟩) (by assumption) ?_
        · (try dsimp only at hSw); go_simp <;> (try rfl)
        change wpAnyH _ _ _ _ _ _ _ (Act.put _ (some (45 : Nat)) (.pointer (some ⟨g, o + i * 32, none⟩))) _
        simp only [Act.put, List.setIfInBounds_toArray, List.set_cons_zero, List.set_cons_succ]
        refine wpAnyH_take (i := 4) (v := (.agg (vs t).toArray)) rfl (by kernel_rfl) (by kernel_rfl) (by kernel_rfl) (fun _ _ _ h => h) (yieldsIf_load_mid (by kernel_rfl) 40 (.tmp 45) rfl g (o + i * 32) (by simp [Act.eval]) (vs t) _ (fun W hW => rangeAt.through HRt.out hW) Try.underlying40 rfl (by rw [vs_length, HTl.out]; kernel_rfl)) (by assumption) ?_
        change wpAnyH _ _ _ _ _ _ _ (Act.put _ (some (46 : Nat)) (.agg (vs t).toArray)) _
        simp only [Act.put, List.setIfInBounds_toArray, List.set_cons_zero, List.set_cons_succ]
        refine wpAnyH_take (i := 5) (v := (.pointer (some ⟨w.heap.size + 1, 3, none⟩))) rfl (by kernel_rfl) (by kernel_rfl) (by kernel_rfl) (fun _ _ _ h => h) (Or.inl ⟨by kernel_rfl, fun w hSw => ?_⟩) (by assumption) ?_
        · (try dsimp only at hSw); go_simp <;> (try rfl)
        change wpAnyH _ _ _ _ _ _ _ (Act.put _ (some (47 : Nat)) (.pointer (some ⟨w.heap.size + 1, 3, none⟩))) _
        simp only [Act.put, List.setIfInBounds_toArray, List.set_cons_zero, List.set_cons_succ]
        refine wpAnyH_take (i := 6) (v := (.slice (some ⟨g', o', none⟩) nt ct')) rfl (by kernel_rfl) (by kernel_rfl) (by kernel_rfl) (fun _ _ _ h => h) (yields_load_at (by kernel_rfl) 23 (.tmp 47) rfl (.pointer (some ⟨w.heap.size + 1, 3, none⟩)) (by simp [Act.eval]) (.slice (some ⟨g', o', none⟩) nt ct') (fun W hW => load_one' (Try.agg_ts W) ((K2.out.through hW).cellAt (i := 3) rfl))) (by assumption) ?_
        change wpAnyH _ _ _ _ _ _ _ (Act.put _ (some (48 : Nat)) (.slice (some ⟨g', o', none⟩) nt ct')) _
        simp only [Act.put, List.setIfInBounds_toArray, List.set_cons_zero, List.set_cons_succ]
        refine wpAnyH_take (i := 7) (v := (.int .i64 (i : Int))) rfl (by kernel_rfl) (by kernel_rfl) (by kernel_rfl) (fun _ _ _ h => h) (Or.inl ⟨by kernel_rfl, fun w hSw => ?_⟩) (by assumption) ?_
        · (try dsimp only at hSw); go_simp <;> (try rfl)
        change wpAnyH _ _ _ _ _ _ _ (Act.put _ (some (49 : Nat)) (.int .i64 (i : Int))) _
        simp only [Act.put, List.setIfInBounds_toArray, List.set_cons_zero, List.set_cons_succ]
        refine wpAnyH_take (i := 8) (v := (.pointer (some ⟨g', o' + i * 32, none⟩))) rfl (by kernel_rfl) (by kernel_rfl) (by kernel_rfl) (fun _ _ _ h => h) (Or.inl ⟨by kernel_rfl, fun w hSw => ?_⟩) (by assumption) ?_
        · (try dsimp only at hSw); go_simp <;> (try rfl)
        change wpAnyH _ _ _ _ _ _ _ (Act.put _ (some (50 : Nat)) (.pointer (some ⟨g', o' + i * 32, none⟩))) _
        simp only [Act.put, List.setIfInBounds_toArray, List.set_cons_zero, List.set_cons_succ]
        refine wpAnyH_take (i := 9) (v := (.agg (vs t').toArray)) rfl (by kernel_rfl) (by kernel_rfl) (by kernel_rfl) (fun _ _ _ h => h) (yieldsIf_load_mid (by kernel_rfl) 40 (.tmp 50) rfl g' (o' + i * 32) (by simp [Act.eval]) (vs t') _ (fun W hW => rangeAt.through HRt2.out hW) Try.underlying40 rfl (by rw [vs_length, HTl2.out]; kernel_rfl)) (by assumption) ?_
        change wpAnyH _ _ _ _ _ _ _ (Act.put _ (some (51 : Nat)) (.agg (vs t').toArray)) _
        simp only [Act.put, List.setIfInBounds_toArray, List.set_cons_zero, List.set_cons_succ]
        refine wpAnyH_take (i := 10) (v := (.bool true)) rfl (by kernel_rfl) (by kernel_rfl) (by kernel_rfl) (fun _ _ _ h => h) (Or.inl ⟨by kernel_rfl, fun w hSw => ?_⟩) (by assumption) ?_
        · (try dsimp only at hSw); go_simp <;> (try rfl)
        change wpAnyH _ _ _ _ _ _ _ (Act.put _ (some (52 : Nat)) (.bool true)) _
        simp only [Act.put, List.setIfInBounds_toArray, List.set_cons_zero, List.set_cons_succ]
        refine wpAnyH_done (by kernel_rfl) ?_ _
        have HKz := Lib.hid hHeld
        clear hHeld
        go_wp2
        go_ret
        exact ⟨ret_b HF.out.symm, below_step HX.out HKz.out⟩
      have hb9 : (t == t') = true := by simpa using ht
      have HN : Hid (a.ts.take (i + 1) = b.ts.take (i + 1)) := Lib.hid (take_next HQ.out HTi.out (by rw [ht]; exact HTi2.out))
      have HLt := Lib.hid hlt
      rw [hb9] at htn
      clear ht hb9
      go_wp2
      try dsimp only [Act.put]
      refine wp_region_held_drew (S := fun W => Below wr.heap.size wr W) (by kernel_rfl) (Below.refl _ _).drew (fun hHeld => ?_)
      change wpAnyH _ _ _ _ _ _ #[false, false, false, false, false, false, false, false, false, false, false] _ _
      refine wpAnyH_take (i := 0) (v := (.pointer (some ⟨w.heap.size, 3, none⟩))) rfl (by kernel_rfl) (by kernel_rfl) (by kernel_rfl) (fun _ _ _ h => h) (Or.inl ⟨by kernel_rfl, fun w hSw => ?_⟩) (by assumption) ?_
      · (try dsimp only at hSw); go_simp <;> (try rfl)
      change wpAnyH _ _ _ _ _ _ _ (Act.put _ (some (42 : Nat)) (.pointer (some ⟨w.heap.size, 3, none⟩))) _
      simp only [Act.put, List.setIfInBounds_toArray, List.set_cons_zero, List.set_cons_succ]
      refine wpAnyH_take (i := 1) (v := (.slice (some ⟨g, o, none⟩) nt ct)) rfl (by kernel_rfl) (by kernel_rfl) (by kernel_rfl) (fun _ _ _ h => h) (yields_load_at (by kernel_rfl) 23 (.tmp 42) rfl (.pointer (some ⟨w.heap.size, 3, none⟩)) (by simp [Act.eval]) (.slice (some ⟨g, o, none⟩) nt ct) (fun W hW => load_one' (Try.agg_ts W) ((K1.out.through hW).cellAt (i := 3) rfl))) (by assumption) ?_
      change wpAnyH _ _ _ _ _ _ _ (Act.put _ (some (43 : Nat)) (.slice (some ⟨g, o, none⟩) nt ct)) _
      simp only [Act.put, List.setIfInBounds_toArray, List.set_cons_zero, List.set_cons_succ]
      refine wpAnyH_take (i := 2) (v := (.int .i64 (i : Int))) rfl (by kernel_rfl) (by kernel_rfl) (by kernel_rfl) (fun _ _ _ h => h) (Or.inl ⟨by kernel_rfl, fun w hSw => ?_⟩) (by assumption) ?_
      · (try dsimp only at hSw); go_simp <;> (try rfl)
      change wpAnyH _ _ _ _ _ _ _ (Act.put _ (some (44 : Nat)) (.int .i64 (i : Int))) _
      simp only [Act.put, List.setIfInBounds_toArray, List.set_cons_zero, List.set_cons_succ]
      refine wpAnyH_take (i := 3) (v := (.pointer (some ⟨g, o + i * 32, none⟩))) rfl (by kernel_rfl) (by kernel_rfl) (by kernel_rfl) (fun _ _ _ h => h) (Or.inl ⟨by kernel_rfl, fun w hSw => ?_⟩) (by assumption) ?_
      · (try dsimp only at hSw); go_simp <;> (try rfl)
      change wpAnyH _ _ _ _ _ _ _ (Act.put _ (some (45 : Nat)) (.pointer (some ⟨g, o + i * 32, none⟩))) _
      simp only [Act.put, List.setIfInBounds_toArray, List.set_cons_zero, List.set_cons_succ]
      refine wpAnyH_take (i := 4) (v := (.agg (vs t).toArray)) rfl (by kernel_rfl) (by kernel_rfl) (by kernel_rfl) (fun _ _ _ h => h) (yieldsIf_load_mid (by kernel_rfl) 40 (.tmp 45) rfl g (o + i * 32) (by simp [Act.eval]) (vs t) _ (fun W hW => rangeAt.through HRt.out hW) Try.underlying40 rfl (by rw [vs_length, HTl.out]; kernel_rfl)) (by assumption) ?_
      change wpAnyH _ _ _ _ _ _ _ (Act.put _ (some (46 : Nat)) (.agg (vs t).toArray)) _
      simp only [Act.put, List.setIfInBounds_toArray, List.set_cons_zero, List.set_cons_succ]
      refine wpAnyH_take (i := 5) (v := (.pointer (some ⟨w.heap.size + 1, 3, none⟩))) rfl (by kernel_rfl) (by kernel_rfl) (by kernel_rfl) (fun _ _ _ h => h) (Or.inl ⟨by kernel_rfl, fun w hSw => ?_⟩) (by assumption) ?_
      · (try dsimp only at hSw); go_simp <;> (try rfl)
      change wpAnyH _ _ _ _ _ _ _ (Act.put _ (some (47 : Nat)) (.pointer (some ⟨w.heap.size + 1, 3, none⟩))) _
      simp only [Act.put, List.setIfInBounds_toArray, List.set_cons_zero, List.set_cons_succ]
      refine wpAnyH_take (i := 6) (v := (.slice (some ⟨g', o', none⟩) nt ct')) rfl (by kernel_rfl) (by kernel_rfl) (by kernel_rfl) (fun _ _ _ h => h) (yields_load_at (by kernel_rfl) 23 (.tmp 47) rfl (.pointer (some ⟨w.heap.size + 1, 3, none⟩)) (by simp [Act.eval]) (.slice (some ⟨g', o', none⟩) nt ct') (fun W hW => load_one' (Try.agg_ts W) ((K2.out.through hW).cellAt (i := 3) rfl))) (by assumption) ?_
      change wpAnyH _ _ _ _ _ _ _ (Act.put _ (some (48 : Nat)) (.slice (some ⟨g', o', none⟩) nt ct')) _
      simp only [Act.put, List.setIfInBounds_toArray, List.set_cons_zero, List.set_cons_succ]
      refine wpAnyH_take (i := 7) (v := (.int .i64 (i : Int))) rfl (by kernel_rfl) (by kernel_rfl) (by kernel_rfl) (fun _ _ _ h => h) (Or.inl ⟨by kernel_rfl, fun w hSw => ?_⟩) (by assumption) ?_
      · (try dsimp only at hSw); go_simp <;> (try rfl)
      change wpAnyH _ _ _ _ _ _ _ (Act.put _ (some (49 : Nat)) (.int .i64 (i : Int))) _
      simp only [Act.put, List.setIfInBounds_toArray, List.set_cons_zero, List.set_cons_succ]
      refine wpAnyH_take (i := 8) (v := (.pointer (some ⟨g', o' + i * 32, none⟩))) rfl (by kernel_rfl) (by kernel_rfl) (by kernel_rfl) (fun _ _ _ h => h) (Or.inl ⟨by kernel_rfl, fun w hSw => ?_⟩) (by assumption) ?_
      · (try dsimp only at hSw); go_simp <;> (try rfl)
      change wpAnyH _ _ _ _ _ _ _ (Act.put _ (some (50 : Nat)) (.pointer (some ⟨g', o' + i * 32, none⟩))) _
      simp only [Act.put, List.setIfInBounds_toArray, List.set_cons_zero, List.set_cons_succ]
      refine wpAnyH_take (i := 9) (v := (.agg (vs t').toArray)) rfl (by kernel_rfl) (by kernel_rfl) (by kernel_rfl) (fun _ _ _ h => h) (yieldsIf_load_mid (by kernel_rfl) 40 (.tmp 50) rfl g' (o' + i * 32) (by simp [Act.eval]) (vs t') _ (fun W hW => rangeAt.through HRt2.out hW) Try.underlying40 rfl (by rw [vs_length, HTl2.out]; kernel_rfl)) (by assumption) ?_
      change wpAnyH _ _ _ _ _ _ _ (Act.put _ (some (51 : Nat)) (.agg (vs t').toArray)) _
      simp only [Act.put, List.setIfInBounds_toArray, List.set_cons_zero, List.set_cons_succ]
      refine wpAnyH_take (i := 10) (v := (.bool false)) rfl (by kernel_rfl) (by kernel_rfl) (by kernel_rfl) (fun _ _ _ h => h) (Or.inl ⟨by kernel_rfl, fun w hSw => ?_⟩) (by assumption) ?_
      · (try dsimp only at hSw); go_simp <;> (try rfl)
      change wpAnyH _ _ _ _ _ _ _ (Act.put _ (some (52 : Nat)) (.bool false)) _
      simp only [Act.put, List.setIfInBounds_toArray, List.set_cons_zero, List.set_cons_succ]
      refine wpAnyH_done (by kernel_rfl) ?_ _
      have HKz := Lib.hid hHeld
      clear hHeld
      have hlt9 := HLt.out
      go_wp2
      go_roundw
      case rel => exact ⟨i + 1, by omega, by go_num, HN.out, K1.out.through HKz.out, K2.out.through HKz.out, below_step HX.out HKz.out⟩
      case measure => simp [intOf]; omega
    have HF : Hid (bb = true) := Lib.hid (by rw [← HBB.out, Ms.eqb_iff]; have h1 := HQ.out; rw [List.take_of_length_le (by have := HL1.out; omega), List.take_of_length_le (by have := HL2.out; omega)] at h1; obtain ⟨x1, x2, x3, x4⟩ := a; obtain ⟨y1, y2, y3, y4⟩ := b; obtain rfl := HS0.out; obtain rfl := HS1.out; obtain rfl := HS2.out; simp only at h1; rw [h1])
    go_wp2
    go_ret
    exact ⟨ret_b HF.out.symm, HX.out⟩

end Go.Proofs.Ytkklgfcmgefedaa
