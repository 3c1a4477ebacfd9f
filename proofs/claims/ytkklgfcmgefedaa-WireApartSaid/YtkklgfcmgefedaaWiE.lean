/-
  The program's Same of messages, with what it calls.
-/
import Derived.Test.YtkklgfcmgefedaaWiS
namespace Go.Proofs.Ytkklgfcmgefedaa
open Go.RowKit

set_option maxHeartbeats 4000000 in
theorem beq_any (xs ys : List UInt8) (A : Option Addr) (n c : Nat) (B : Option Addr) (m d : Nat) (w : World) (h : By w (fun _ => True) A n xs) (h' : By w (fun _ => True) B m ys) :
    Calls Try.prog 21 #[.slice A n c, .slice B m d] w fun e w' => e = .returned (.bool (xs == ys)) ∧ w' = w := by
  have hv1 : (convert 22 9 (.slice A n c)).run Try.prog w = .ok (.string (ba xs)) w := run_string_by _ 22 9 5 Try.underlying22 Try.underlying5 Try.underlying9 _ _ _ _ _ h
  have hv2 : (convert 22 9 (.slice B m d)).run Try.prog w = .ok (.string (ba ys)) w := run_string_by _ 22 9 5 Try.underlying22 Try.underlying5 Try.underlying9 _ _ _ _ _ h'
  obtain ⟨bb, hbb⟩ : ∃ bb, (xs == ys) = bb := ⟨_, rfl⟩
  have b4 : ((ba xs).toList == (ba ys).toList) = bb := by rw [eqb_ba]; exact hbb
  rw [hbb]
  clear h h' hbb
  go_enter Try.func21, Try.ntmps21
  go_wp2
  go_ret
  exact ⟨rfl, rfl⟩

set_option maxHeartbeats 16000000 in
set_option maxRecDepth 100000 in
theorem eqtags_any (ts us : List (List UInt8)) (A : Option Addr) (nt ct : Nat) (A' : Option Addr) (nt' ct' : Nat) (w : World) (h : TsIn w (A, nt, ct) ts) (h' : TsIn w (A', nt', ct') us) :
    Calls Try.prog 22 #[.slice A nt ct, .slice A' nt' ct'] w fun e w' => e = .returned (.bool (ts == us)) ∧ Below w.heap.size w w' := by
  obtain ⟨bb, hbb⟩ : ∃ bb, (ts == us) = bb := ⟨_, rfl⟩
  rw [hbb]
  have HBB := Lib.hid hbb
  have HTa := Lib.hid h
  have HTb := Lib.hid h'
  have HL1 : Hid (ts.length = nt) := Lib.hid h.len
  have HL2 : Hid (us.length = nt') := Lib.hid h'.len
  have HM : Hid (nt ≤ 9223372036854775807) := Lib.hid (by have h9 := h.2.2; simp only [maxLen] at h9; omega)
  clear h h' hbb
  by_cases s3 : nt = nt'
  case neg =>
    have s3i : ¬ (nt : Int) = (nt' : Int) := by omega
    have b6 : ((nt : Int) == (nt' : Int)) = false := by simpa using s3i
    have b7 : ((nt : Int) != (nt' : Int)) = true := by simpa using s3i
    have b8 : (nt == nt') = false := by simpa using s3
    have b9 : (nt != nt') = true := by simpa using s3
    have HS := Lib.hid s3
    clear s3 s3i
    go_enter Try.func22, Try.ntmps22
    go_wp2
    go_ret
    exact ⟨ret_b (by rw [← HBB.out]; symm; rw [beq_eq_false_iff_ne]; exact fun h => HS.out (by rw [← HL1.out, ← HL2.out, h])), Below.refl _ _⟩
  subst s3
  go_enter Try.func22, Try.ntmps22
  go_wp2
  go_loopw [13] (fun iv wr => ∃ i : Nat, i ≤ nt ∧ iv = .int .i64 i ∧ ts.take i = us.take i ∧ Below w.heap.size w wr) (fun iv _ => nt - (intOf iv).toNat)
  case atStart => exact ⟨0, Nat.zero_le _, rfl, rfl, Below.refl _ _⟩
  case round =>
    obtain ⟨i, hi, rfl, hq, hx⟩ := hrel
    have HQ := Lib.hid hq
    have HX := Lib.hid hx
    have hmx := HM.out
    clear hq hx
    by_cases hlt : i < nt
    · obtain ⟨g, o, t, hA, hti, _, _, htl, hrt⟩ := (HTa.out.through HX.out).at hlt
      obtain ⟨g', o', t', hA', hti', _, _, htl', hrt'⟩ := (HTb.out.through HX.out).at hlt
      simp only at hA hA'
      subst hA hA'
      have HRt := Lib.hid hrt
      have HTl := Lib.hid htl
      have HRt2 := Lib.hid hrt'
      have HTl2 := Lib.hid htl'
      have HTi := Lib.hid hti
      have HTi2 := Lib.hid hti'
      have hixt := fun (W : World) => Try.ix_tg W g o nt ct i hlt
      have hixt' := fun (W : World) => Try.ix_tg W g' o' nt ct' i hlt
      have htn : ∀ W, (binOp .neq 40 (.agg (vs t).toArray) (.agg (vs t').toArray)).run Try.prog W = .ok (.bool (!(t == t'))) W := fun W => tag_ne t t' htl htl' W
      clear hti hti' htl htl' hrt hrt'
      by_cases ht : t = t'
      case neg =>
        have hb9 : (t == t') = false := by simpa using ht
        have HF : Hid (bb = false) := Lib.hid (by rw [← HBB.out, beq_eq_false_iff_ne]; exact (fun h => ht (by have h3 := HTi.out; rw [h, HTi2.out] at h3; exact (Option.some.inj h3).symm)))
        rw [hb9] at htn
        clear ht hb9
        go_wp2
        try dsimp only [Act.put]
        refine wp_region_held_drew (S := fun W => Below wr.heap.size wr W) (by kernel_rfl) (Below.refl _ _).drew (fun hHeld => ?_)
        change wpAnyH _ _ _ _ _ _ #[false, false, false, false, false, false, false, false, false] _ _
        refine wpAnyH_take (i := 0) (v := (.slice (some ⟨g, o, none⟩) nt ct)) rfl (by kernel_rfl) (by kernel_rfl) (by kernel_rfl) (fun _ _ _ h => h) (Or.inl ⟨by kernel_rfl, fun w hSw => ?_⟩) (by assumption) ?_
        · (try dsimp only at hSw); go_simp <;> (try rfl)
        change wpAnyH _ _ _ _ _ _ _ (Act.put _ (some (16 : Nat)) (.slice (some ⟨g, o, none⟩) nt ct)) _
        simp only [Act.put, List.setIfInBounds_toArray, List.set_cons_zero, List.set_cons_succ]
        refine wpAnyH_take (i := 1) (v := (.int .i64 (i : Int))) rfl (by kernel_rfl) (by kernel_rfl) (by kernel_rfl) (fun _ _ _ h => h) (Or.inl ⟨by kernel_rfl, fun w hSw => ?_⟩) (by assumption) ?_
        · (try dsimp only at hSw); go_simp <;> (try rfl)
        change wpAnyH _ _ _ _ _ _ _ (Act.put _ (some (17 : Nat)) (.int .i64 (i : Int))) _
        simp only [Act.put, List.setIfInBounds_toArray, List.set_cons_zero, List.set_cons_succ]
        refine wpAnyH_take (i := 2) (v := (.pointer (some ⟨g, o + i * 32, none⟩))) rfl (by kernel_rfl) (by kernel_rfl) (by kernel_rfl) (fun _ _ _ h => h) (Or.inl ⟨by kernel_rfl, fun w hSw => ?_⟩) (by assumption) ?_
        · (try dsimp only at hSw); go_simp <;> (try rfl)
        change wpAnyH _ _ _ _ _ _ _ (Act.put _ (some (18 : Nat)) (.pointer (some ⟨g, o + i * 32, none⟩))) _
        simp only [Act.put, List.setIfInBounds_toArray, List.set_cons_zero, List.set_cons_succ]
        refine wpAnyH_take (i := 3) (v := (.agg (vs t).toArray)) rfl (by kernel_rfl) (by kernel_rfl) (by kernel_rfl) (fun _ _ _ h => h) (yieldsIf_load_mid (by kernel_rfl) 40 (.tmp 18) rfl g (o + i * 32) (by simp [Act.eval]) (vs t) _ (fun W hW => rangeAt.through HRt.out hW) Try.underlying40 rfl (by rw [vs_length, HTl.out]; kernel_rfl)) (by assumption) ?_
        change wpAnyH _ _ _ _ _ _ _ (Act.put _ (some (19 : Nat)) (.agg (vs t).toArray)) _
        simp only [Act.put, List.setIfInBounds_toArray, List.set_cons_zero, List.set_cons_succ]
        refine wpAnyH_take (i := 4) (v := (.slice (some ⟨g', o', none⟩) nt ct')) rfl (by kernel_rfl) (by kernel_rfl) (by kernel_rfl) (fun _ _ _ h => h) (Or.inl ⟨by kernel_rfl, fun w hSw => ?_⟩) (by assumption) ?_
        · (try dsimp only at hSw); go_simp <;> (try rfl)
        change wpAnyH _ _ _ _ _ _ _ (Act.put _ (some (20 : Nat)) (.slice (some ⟨g', o', none⟩) nt ct')) _
        simp only [Act.put, List.setIfInBounds_toArray, List.set_cons_zero, List.set_cons_succ]
        refine wpAnyH_take (i := 5) (v := (.int .i64 (i : Int))) rfl (by kernel_rfl) (by kernel_rfl) (by kernel_rfl) (fun _ _ _ h => h) (Or.inl ⟨by kernel_rfl, fun w hSw => ?_⟩) (by assumption) ?_
        · (try dsimp only at hSw); go_simp <;> (try rfl)
        change wpAnyH _ _ _ _ _ _ _ (Act.put _ (some (21 : Nat)) (.int .i64 (i : Int))) _
        simp only [Act.put, List.setIfInBounds_toArray, List.set_cons_zero, List.set_cons_succ]
        refine wpAnyH_take (i := 6) (v := (.pointer (some ⟨g', o' + i * 32, none⟩))) rfl (by kernel_rfl) (by kernel_rfl) (by kernel_rfl) (fun _ _ _ h => h) (Or.inl ⟨by kernel_rfl, fun w hSw => ?_⟩) (by assumption) ?_
        · (try dsimp only at hSw); go_simp <;> (try rfl)
        change wpAnyH _ _ _ _ _ _ _ (Act.put _ (some (22 : Nat)) (.pointer (some ⟨g', o' + i * 32, none⟩))) _
        simp only [Act.put, List.setIfInBounds_toArray, List.set_cons_zero, List.set_cons_succ]
        refine wpAnyH_take (i := 7) (v := (.agg (vs t').toArray)) rfl (by kernel_rfl) (by kernel_rfl) (by kernel_rfl) (fun _ _ _ h => h) (yieldsIf_load_mid (by kernel_rfl) 40 (.tmp 22) rfl g' (o' + i * 32) (by simp [Act.eval]) (vs t') _ (fun W hW => rangeAt.through HRt2.out hW) Try.underlying40 rfl (by rw [vs_length, HTl2.out]; kernel_rfl)) (by assumption) ?_
        change wpAnyH _ _ _ _ _ _ _ (Act.put _ (some (23 : Nat)) (.agg (vs t').toArray)) _
        simp only [Act.put, List.setIfInBounds_toArray, List.set_cons_zero, List.set_cons_succ]
        refine wpAnyH_take (i := 8) (v := (.bool true)) rfl (by kernel_rfl) (by kernel_rfl) (by kernel_rfl) (fun _ _ _ h => h) (Or.inl ⟨by kernel_rfl, fun w hSw => ?_⟩) (by assumption) ?_
        · (try dsimp only at hSw); go_simp <;> (try rfl)
        change wpAnyH _ _ _ _ _ _ _ (Act.put _ (some (24 : Nat)) (.bool true)) _
        simp only [Act.put, List.setIfInBounds_toArray, List.set_cons_zero, List.set_cons_succ]
        refine wpAnyH_done (by kernel_rfl) ?_ _
        have HKz := Lib.hid hHeld
        clear hHeld
        go_wp2
        go_ret
        exact ⟨ret_b HF.out.symm, below_step HX.out HKz.out⟩
      have hb9 : (t == t') = true := by simpa using ht
      have HN : Hid (ts.take (i + 1) = us.take (i + 1)) := Lib.hid (take_next HQ.out HTi.out (by rw [ht]; exact HTi2.out))
      have HLt := Lib.hid hlt
      rw [hb9] at htn
      clear ht hb9
      go_wp2
      try dsimp only [Act.put]
      refine wp_region_held_drew (S := fun W => Below wr.heap.size wr W) (by kernel_rfl) (Below.refl _ _).drew (fun hHeld => ?_)
      change wpAnyH _ _ _ _ _ _ #[false, false, false, false, false, false, false, false, false] _ _
      refine wpAnyH_take (i := 0) (v := (.slice (some ⟨g, o, none⟩) nt ct)) rfl (by kernel_rfl) (by kernel_rfl) (by kernel_rfl) (fun _ _ _ h => h) (Or.inl ⟨by kernel_rfl, fun w hSw => ?_⟩) (by assumption) ?_
      · (try dsimp only at hSw); go_simp <;> (try rfl)
      change wpAnyH _ _ _ _ _ _ _ (Act.put _ (some (16 : Nat)) (.slice (some ⟨g, o, none⟩) nt ct)) _
      simp only [Act.put, List.setIfInBounds_toArray, List.set_cons_zero, List.set_cons_succ]
      refine wpAnyH_take (i := 1) (v := (.int .i64 (i : Int))) rfl (by kernel_rfl) (by kernel_rfl) (by kernel_rfl) (fun _ _ _ h => h) (Or.inl ⟨by kernel_rfl, fun w hSw => ?_⟩) (by assumption) ?_
      · (try dsimp only at hSw); go_simp <;> (try rfl)
      change wpAnyH _ _ _ _ _ _ _ (Act.put _ (some (17 : Nat)) (.int .i64 (i : Int))) _
      simp only [Act.put, List.setIfInBounds_toArray, List.set_cons_zero, List.set_cons_succ]
      refine wpAnyH_take (i := 2) (v := (.pointer (some ⟨g, o + i * 32, none⟩))) rfl (by kernel_rfl) (by kernel_rfl) (by kernel_rfl) (fun _ _ _ h => h) (Or.inl ⟨by kernel_rfl, fun w hSw => ?_⟩) (by assumption) ?_
      · (try dsimp only at hSw); go_simp <;> (try rfl)
      change wpAnyH _ _ _ _ _ _ _ (Act.put _ (some (18 : Nat)) (.pointer (some ⟨g, o + i * 32, none⟩))) _
      simp only [Act.put, List.setIfInBounds_toArray, List.set_cons_zero, List.set_cons_succ]
      refine wpAnyH_take (i := 3) (v := (.agg (vs t).toArray)) rfl (by kernel_rfl) (by kernel_rfl) (by kernel_rfl) (fun _ _ _ h => h) (yieldsIf_load_mid (by kernel_rfl) 40 (.tmp 18) rfl g (o + i * 32) (by simp [Act.eval]) (vs t) _ (fun W hW => rangeAt.through HRt.out hW) Try.underlying40 rfl (by rw [vs_length, HTl.out]; kernel_rfl)) (by assumption) ?_
      change wpAnyH _ _ _ _ _ _ _ (Act.put _ (some (19 : Nat)) (.agg (vs t).toArray)) _
      simp only [Act.put, List.setIfInBounds_toArray, List.set_cons_zero, List.set_cons_succ]
      refine wpAnyH_take (i := 4) (v := (.slice (some ⟨g', o', none⟩) nt ct')) rfl (by kernel_rfl) (by kernel_rfl) (by kernel_rfl) (fun _ _ _ h => h) (Or.inl ⟨by kernel_rfl, fun w hSw => ?_⟩) (by assumption) ?_
      · (try dsimp only at hSw); go_simp <;> (try rfl)
      change wpAnyH _ _ _ _ _ _ _ (Act.put _ (some (20 : Nat)) (.slice (some ⟨g', o', none⟩) nt ct')) _
      simp only [Act.put, List.setIfInBounds_toArray, List.set_cons_zero, List.set_cons_succ]
      refine wpAnyH_take (i := 5) (v := (.int .i64 (i : Int))) rfl (by kernel_rfl) (by kernel_rfl) (by kernel_rfl) (fun _ _ _ h => h) (Or.inl ⟨by kernel_rfl, fun w hSw => ?_⟩) (by assumption) ?_
      · (try dsimp only at hSw); go_simp <;> (try rfl)
      change wpAnyH _ _ _ _ _ _ _ (Act.put _ (some (21 : Nat)) (.int .i64 (i : Int))) _
      simp only [Act.put, List.setIfInBounds_toArray, List.set_cons_zero, List.set_cons_succ]
      refine wpAnyH_take (i := 6) (v := (.pointer (some ⟨g', o' + i * 32, none⟩))) rfl (by kernel_rfl) (by kernel_rfl) (by kernel_rfl) (fun _ _ _ h => h) (Or.inl ⟨by kernel_rfl, fun w hSw => ?_⟩) (by assumption) ?_
      · (try dsimp only at hSw); go_simp <;> (try rfl)
      change wpAnyH _ _ _ _ _ _ _ (Act.put _ (some (22 : Nat)) (.pointer (some ⟨g', o' + i * 32, none⟩))) _
      simp only [Act.put, List.setIfInBounds_toArray, List.set_cons_zero, List.set_cons_succ]
      refine wpAnyH_take (i := 7) (v := (.agg (vs t').toArray)) rfl (by kernel_rfl) (by kernel_rfl) (by kernel_rfl) (fun _ _ _ h => h) (yieldsIf_load_mid (by kernel_rfl) 40 (.tmp 22) rfl g' (o' + i * 32) (by simp [Act.eval]) (vs t') _ (fun W hW => rangeAt.through HRt2.out hW) Try.underlying40 rfl (by rw [vs_length, HTl2.out]; kernel_rfl)) (by assumption) ?_
      change wpAnyH _ _ _ _ _ _ _ (Act.put _ (some (23 : Nat)) (.agg (vs t').toArray)) _
      simp only [Act.put, List.setIfInBounds_toArray, List.set_cons_zero, List.set_cons_succ]
      refine wpAnyH_take (i := 8) (v := (.bool false)) rfl (by kernel_rfl) (by kernel_rfl) (by kernel_rfl) (fun _ _ _ h => h) (Or.inl ⟨by kernel_rfl, fun w hSw => ?_⟩) (by assumption) ?_
      · (try dsimp only at hSw); go_simp <;> (try rfl)
      change wpAnyH _ _ _ _ _ _ _ (Act.put _ (some (24 : Nat)) (.bool false)) _
      simp only [Act.put, List.setIfInBounds_toArray, List.set_cons_zero, List.set_cons_succ]
      refine wpAnyH_done (by kernel_rfl) ?_ _
      have HKz := Lib.hid hHeld
      clear hHeld
      have hlt9 := HLt.out
      go_wp2
      go_roundw
      case rel => exact ⟨i + 1, by omega, by go_num, HN.out, below_step HX.out HKz.out⟩
      case measure => simp [intOf]; omega
    have HF : Hid (bb = true) := Lib.hid (by rw [← HBB.out, beq_iff_eq]; have h1 := HQ.out; rw [List.take_of_length_le (by have := HL1.out; omega), List.take_of_length_le (by have := HL2.out; omega)] at h1; exact h1)
    go_wp2
    go_ret
    exact ⟨ret_b HF.out.symm, HX.out⟩

set_option maxHeartbeats 16000000 in
set_option maxRecDepth 100000 in
theorem same_any (a b : Ms) (B : Option Addr) (nb cb : Nat) (A : Option Addr) (nt ct : Nat) (B' : Option Addr) (nb' cb' : Nat) (A' : Option Addr) (nt' ct' : Nat) (w : World) (h : MsIn w B nb A nt ct a) (h' : MsIn w B' nb' A' nt' ct' b) :
    Calls Try.prog 12 #[.agg #[.int .i64 a.kd, .int .i64 a.fr, .slice B nb cb, .slice A nt ct], .agg #[.int .i64 b.kd, .int .i64 b.fr, .slice B' nb' cb', .slice A' nt' ct']] w fun e w' => e = .returned (.bool (a.eqb b)) ∧ Below w.heap.size w w' := by
  obtain ⟨bb, hbb⟩ : ∃ bb, a.eqb b = bb := ⟨_, rfl⟩
  rw [hbb]
  have HBB := Lib.hid hbb
  have H1 : Hid (Blk ((w.alloc (.cells #[.int .i64 a.kd, .int .i64 a.fr, .slice B nb cb, .slice A nt ct] 25)).alloc (.cells #[.int .i64 b.kd, .int .i64 b.fr, .slice B' nb' cb', .slice A' nt' ct'] 25)) w.heap.size 25 [.int .i64 a.kd, .int .i64 a.fr, .slice B nb cb, .slice A nt ct]) := Lib.hid ((Blk.fresh rfl rfl).alloc _)
  have H2 : Hid (Blk ((w.alloc (.cells #[.int .i64 a.kd, .int .i64 a.fr, .slice B nb cb, .slice A nt ct] 25)).alloc (.cells #[.int .i64 b.kd, .int .i64 b.fr, .slice B' nb' cb', .slice A' nt' ct'] 25)) (w.heap.size + 1) 25 [.int .i64 b.kd, .int .i64 b.fr, .slice B' nb' cb', .slice A' nt' ct']) := Lib.hid (Blk.fresh (by simp) rfl)
  have HXe : Hid (Below w.heap.size w ((w.alloc (.cells #[.int .i64 a.kd, .int .i64 a.fr, .slice B nb cb, .slice A nt ct] 25)).alloc (.cells #[.int .i64 b.kd, .int .i64 b.fr, .slice B' nb' cb', .slice A' nt' ct'] 25))) := Lib.hid (below2_ w _ _)
  obtain ⟨be, hbe⟩ : ∃ be, (a.bd == b.bd) = be := ⟨_, rfl⟩
  obtain ⟨te, hte⟩ : ∃ te, (a.ts == b.ts) = te := ⟨_, rfl⟩
  have HBe : Hid (Calls Try.prog 21 #[.slice B nb cb, .slice B' nb' cb'] ((w.alloc (.cells #[.int .i64 a.kd, .int .i64 a.fr, .slice B nb cb, .slice A nt ct] 25)).alloc (.cells #[.int .i64 b.kd, .int .i64 b.fr, .slice B' nb' cb', .slice A' nt' ct'] 25)) fun e w' => e = .returned (.bool be) ∧ w' = ((w.alloc (.cells #[.int .i64 a.kd, .int .i64 a.fr, .slice B nb cb, .slice A nt ct] 25)).alloc (.cells #[.int .i64 b.kd, .int .i64 b.fr, .slice B' nb' cb', .slice A' nt' ct'] 25))) := Lib.hid (hbe ▸ beq_any a.bd b.bd B nb cb B' nb' cb' ((w.alloc (.cells #[.int .i64 a.kd, .int .i64 a.fr, .slice B nb cb, .slice A nt ct] 25)).alloc (.cells #[.int .i64 b.kd, .int .i64 b.fr, .slice B' nb' cb', .slice A' nt' ct'] 25)) (h.1.through HXe.out) (h'.1.through HXe.out))
  have HTe : Hid (Calls Try.prog 22 #[.slice A nt ct, .slice A' nt' ct'] ((w.alloc (.cells #[.int .i64 a.kd, .int .i64 a.fr, .slice B nb cb, .slice A nt ct] 25)).alloc (.cells #[.int .i64 b.kd, .int .i64 b.fr, .slice B' nb' cb', .slice A' nt' ct'] 25)) fun e w' => e = .returned (.bool te) ∧ Below ((w.alloc (.cells #[.int .i64 a.kd, .int .i64 a.fr, .slice B nb cb, .slice A nt ct] 25)).alloc (.cells #[.int .i64 b.kd, .int .i64 b.fr, .slice B' nb' cb', .slice A' nt' ct'] 25)).heap.size ((w.alloc (.cells #[.int .i64 a.kd, .int .i64 a.fr, .slice B nb cb, .slice A nt ct] 25)).alloc (.cells #[.int .i64 b.kd, .int .i64 b.fr, .slice B' nb' cb', .slice A' nt' ct'] 25)) w') := Lib.hid (hte ▸ eqtags_any a.ts b.ts A nt ct A' nt' ct' ((w.alloc (.cells #[.int .i64 a.kd, .int .i64 a.fr, .slice B nb cb, .slice A nt ct] 25)).alloc (.cells #[.int .i64 b.kd, .int .i64 b.fr, .slice B' nb' cb', .slice A' nt' ct'] 25)) (h.2.through HXe.out) (h'.2.through HXe.out))
  have k10 := H1.out.cellAt (i := 0) rfl
  have k11 := H1.out.cellAt (i := 1) rfl
  have k12 := H1.out.cellAt (i := 2) rfl
  have k13 := H1.out.cellAt (i := 3) rfl
  have k20 := H2.out.cellAt (i := 0) rfl
  have k21 := H2.out.cellAt (i := 1) rfl
  have k22 := H2.out.cellAt (i := 2) rfl
  have k23 := H2.out.cellAt (i := 3) rfl
  have HQ : Hid (bb = ((a.kd == b.kd) && (a.fr == b.fr) && be && te)) := Lib.hid (by rw [← hbb, ← hbe, ← hte]; rfl)
  clear h h' hbb hbe hte
  by_cases s0 : a.kd = b.kd
  case neg =>
    have b0 : (a.kd == b.kd) = false := by simpa using s0
    have HF : Hid (bb = false) := Lib.hid (by rw [HQ.out, b0]; rfl)
    clear s0
    go_enter Try.func12, Try.ntmps12
    go_wp2_with (first
      | go_skip)
    go_ret
    exact ⟨ret_b (HF.out.symm), HXe.out⟩
  have b0 : (a.kd == b.kd) = true := by simpa using s0
  by_cases s1 : a.fr = b.fr
  case neg =>
    have b2 : (a.fr == b.fr) = false := by simpa using s1
    have HF : Hid (bb = false) := Lib.hid (by rw [HQ.out, b0, b2]; rfl)
    clear s0 s1
    go_enter Try.func12, Try.ntmps12
    go_wp2_with (first
      | go_skip)
    go_ret
    exact ⟨ret_b (HF.out.symm), HXe.out⟩
  have b2 : (a.fr == b.fr) = true := by simpa using s1
  have HF : Hid (bb = (be && te)) := Lib.hid (by rw [HQ.out, b0, b2]; rfl)
  clear s0 s1
  cases be with
  | false =>
    go_enter Try.func12, Try.ntmps12
    go_wp2_with (first
      | go_skip
      | (go_at_call 21; (with_reducible refine (HBe.out).mono ?_); rintro e w1 ⟨rfl, rfl⟩))
    go_ret
    exact ⟨ret_b (HF.out.symm), HXe.out⟩
  | true =>
    go_enter Try.func12, Try.ntmps12
    go_wp2_with (first
      | go_skip
      | (go_at_call 21; (with_reducible refine (HBe.out).mono ?_); rintro e w1 ⟨rfl, rfl⟩)
      | (go_at_call 22; (with_reducible refine (HTe.out).mono ?_); rintro e w2 ⟨rfl, hb2⟩; have HX2 := Lib.hid (below_step HXe.out hb2); clear hb2))
    go_ret
    exact ⟨ret_b (HF.out.symm), HX2.out⟩

end Go.Proofs.Ytkklgfcmgefedaa
