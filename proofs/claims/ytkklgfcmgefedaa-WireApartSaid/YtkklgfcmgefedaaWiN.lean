/-
  The law WireApart, walked.
-/
import Derived.Test.YtkklgfcmgefedaaWiI
import Derived.Test.YtkklgfcmgefedaaEl2
namespace Go.Proofs.Ytkklgfcmgefedaa
open Go.RowKit

set_option maxHeartbeats 64000000 in
set_option maxRecDepth 100000 in
theorem wireapart_any (a b : Ms) (xs : List UInt8) (B : Option Addr) (nb cb : Nat) (A : Option Addr) (nt ct : Nat) (B' : Option Addr) (nb' cb' : Nat) (A' : Option Addr) (nt' ct' : Nat) (C : Option Addr) (nm cm : Nat) (w : World) (h : MsIn w B nb A nt ct a) (h' : MsIn w B' nb' A' nt' ct' b) (hm : By w (fun _ => True) C nm xs) :
    Calls Try.prog 6 #[.agg #[.int .i64 a.kd, .int .i64 a.fr, .slice B nb cb, .slice A nt ct], .agg #[.int .i64 b.kd, .int .i64 b.fr, .slice B' nb' cb', .slice A' nt' ct'], .slice C nm cm] w fun e w' => e = .returned (.bool true) ∧ Below w.heap.size w w' := by
  obtain ⟨i0, hi, hz0, hz1, hz2⟩ := info_parts Try.info_u8
  have HFx : Hid (∀ w : World, Calls Try.prog 7 #[] w fun e w' => e = .returned (.bool true) ∧ Below w.heap.size w w') := Lib.hid fixedw
  have HA := Lib.hid h
  have HB := Lib.hid h'
  have HM := Lib.hid hm
  have K10 : Hid (Blk ((w.alloc (.cells #[.int .i64 a.kd, .int .i64 a.fr, .slice B nb cb, .slice A nt ct] 25)).alloc (.cells #[.int .i64 b.kd, .int .i64 b.fr, .slice B' nb' cb', .slice A' nt' ct'] 25)) w.heap.size 25 [.int .i64 a.kd, .int .i64 a.fr, .slice B nb cb, .slice A nt ct]) := Lib.hid ((Blk.fresh rfl rfl).alloc _)
  have K20 : Hid (Blk ((w.alloc (.cells #[.int .i64 a.kd, .int .i64 a.fr, .slice B nb cb, .slice A nt ct] 25)).alloc (.cells #[.int .i64 b.kd, .int .i64 b.fr, .slice B' nb' cb', .slice A' nt' ct'] 25)) (w.heap.size + 1) 25 [.int .i64 b.kd, .int .i64 b.fr, .slice B' nb' cb', .slice A' nt' ct']) := Lib.hid (Blk.fresh (by simp) rfl)
  have HX0 : Hid (Below w.heap.size w ((w.alloc (.cells #[.int .i64 a.kd, .int .i64 a.fr, .slice B nb cb, .slice A nt ct] 25)).alloc (.cells #[.int .i64 b.kd, .int .i64 b.fr, .slice B' nb' cb', .slice A' nt' ct'] 25))) := Lib.hid (below2_ w _ _)
  clear h h' hm
  by_cases s1 : 500 < nb
  · have s1d : decide ((500 : Int) < (nb : Int)) = true := by simp; omega
    clear s1
    go_enter Try.func6, Try.ntmps6
    go_wp2_with (first
      | go_skip
      | (go_at_call 7; (with_reducible refine (HFx.out _).mono ?_); rintro e w1 ⟨rfl, hb1⟩; have HX1 := Lib.hid (below_step HX0.out hb1); have K1 := Lib.hid (K10.out.through hb1); have K2 := Lib.hid (K20.out.through hb1); have k12 := K1.out.cellAt (i := 2) rfl; have k13 := K1.out.cellAt (i := 3) rfl; have k22 := K2.out.cellAt (i := 2) rfl; have k23 := K2.out.cellAt (i := 3) rfl; have HA1 := Lib.hid (HA.out.through HX1.out); have HB1 := Lib.hid (HB.out.through HX1.out); clear hb1))
    go_ret
    exact ⟨rfl, HX1.out⟩
  have s1d : decide ((500 : Int) < (nb : Int)) = false := by simp; omega
  by_cases s2 : 20 < nt
  · have s2d : decide ((20 : Int) < (nt : Int)) = true := by simp; omega
    clear s1 s2
    go_enter Try.func6, Try.ntmps6
    go_wp2_with (first
      | go_skip
      | (go_at_call 7; (with_reducible refine (HFx.out _).mono ?_); rintro e w1 ⟨rfl, hb1⟩; have HX1 := Lib.hid (below_step HX0.out hb1); have K1 := Lib.hid (K10.out.through hb1); have K2 := Lib.hid (K20.out.through hb1); have k12 := K1.out.cellAt (i := 2) rfl; have k13 := K1.out.cellAt (i := 3) rfl; have k22 := K2.out.cellAt (i := 2) rfl; have k23 := K2.out.cellAt (i := 3) rfl; have HA1 := Lib.hid (HA.out.through HX1.out); have HB1 := Lib.hid (HB.out.through HX1.out); clear hb1))
    go_ret
    exact ⟨rfl, HX1.out⟩
  have s2d : decide ((20 : Int) < (nt : Int)) = false := by simp; omega
  by_cases s3 : 500 < nb'
  · have s3d : decide ((500 : Int) < (nb' : Int)) = true := by simp; omega
    clear s1 s2 s3
    go_enter Try.func6, Try.ntmps6
    go_wp2_with (first
      | go_skip
      | (go_at_call 7; (with_reducible refine (HFx.out _).mono ?_); rintro e w1 ⟨rfl, hb1⟩; have HX1 := Lib.hid (below_step HX0.out hb1); have K1 := Lib.hid (K10.out.through hb1); have K2 := Lib.hid (K20.out.through hb1); have k12 := K1.out.cellAt (i := 2) rfl; have k13 := K1.out.cellAt (i := 3) rfl; have k22 := K2.out.cellAt (i := 2) rfl; have k23 := K2.out.cellAt (i := 3) rfl; have HA1 := Lib.hid (HA.out.through HX1.out); have HB1 := Lib.hid (HB.out.through HX1.out); clear hb1))
    go_ret
    exact ⟨rfl, HX1.out⟩
  have s3d : decide ((500 : Int) < (nb' : Int)) = false := by simp; omega
  by_cases s4 : 20 < nt'
  · have s4d : decide ((20 : Int) < (nt' : Int)) = true := by simp; omega
    clear s1 s2 s3 s4
    go_enter Try.func6, Try.ntmps6
    go_wp2_with (first
      | go_skip
      | (go_at_call 7; (with_reducible refine (HFx.out _).mono ?_); rintro e w1 ⟨rfl, hb1⟩; have HX1 := Lib.hid (below_step HX0.out hb1); have K1 := Lib.hid (K10.out.through hb1); have K2 := Lib.hid (K20.out.through hb1); have k12 := K1.out.cellAt (i := 2) rfl; have k13 := K1.out.cellAt (i := 3) rfl; have k22 := K2.out.cellAt (i := 2) rfl; have k23 := K2.out.cellAt (i := 3) rfl; have HA1 := Lib.hid (HA.out.through HX1.out); have HB1 := Lib.hid (HB.out.through HX1.out); clear hb1))
    go_ret
    exact ⟨rfl, HX1.out⟩
  have s4d : decide ((20 : Int) < (nt' : Int)) = false := by simp; omega
  by_cases s5 : 100 < nm
  · have s5d : decide ((100 : Int) < (nm : Int)) = true := by simp; omega
    clear s1 s2 s3 s4 s5
    go_enter Try.func6, Try.ntmps6
    go_wp2_with (first
      | go_skip
      | (go_at_call 7; (with_reducible refine (HFx.out _).mono ?_); rintro e w1 ⟨rfl, hb1⟩; have HX1 := Lib.hid (below_step HX0.out hb1); have K1 := Lib.hid (K10.out.through hb1); have K2 := Lib.hid (K20.out.through hb1); have k12 := K1.out.cellAt (i := 2) rfl; have k13 := K1.out.cellAt (i := 3) rfl; have k22 := K2.out.cellAt (i := 2) rfl; have k23 := K2.out.cellAt (i := 3) rfl; have HA1 := Lib.hid (HA.out.through HX1.out); have HB1 := Lib.hid (HB.out.through HX1.out); clear hb1))
    go_ret
    exact ⟨rfl, HX1.out⟩
  have s5d : decide ((100 : Int) < (nm : Int)) = false := by simp; omega
  have hla := HA.out.enc_len
  have hlb := HB.out.enc_len
  have HLA : Hid ((encM a).length ≤ 1000000) := Lib.hid (by omega)
  have HLM : Hid (nm ≤ 100) := Lib.hid (by omega)
  obtain ⟨ea, hea⟩ : ∃ ea, chkM a = ea := ⟨_, rfl⟩
  obtain ⟨eb, heb⟩ : ∃ eb, chkM b = eb := ⟨_, rfl⟩
  have HCa : Hid (∀ W : World, MsIn W B nb A nt ct a → Calls Try.prog 10 #[.agg #[.int .i64 a.kd, .int .i64 a.fr, .slice B nb cb, .slice A nt ct]] W fun e w' => e = .returned (.int .i64 ea) ∧ Below W.heap.size W w') := Lib.hid (fun W h9 => hea ▸ rmcheck_any a B nb cb A nt ct W h9 (by omega) (by omega))
  have HCb : Hid (∀ W : World, MsIn W B' nb' A' nt' ct' b → Calls Try.prog 10 #[.agg #[.int .i64 b.kd, .int .i64 b.fr, .slice B' nb' cb', .slice A' nt' ct']] W fun e w' => e = .returned (.int .i64 eb) ∧ Below W.heap.size W w') := Lib.hid (fun W h9 => heb ▸ rmcheck_any b B' nb' cb' A' nt' ct' W h9 (by omega) (by omega))
  by_cases s6 : ea = 0
  case neg =>
    have s6b : (ea == 0) = false := by simpa using s6
    have s6c : (ea != 0) = true := by simpa using s6
    clear s1 s2 s3 s4 s5 s6 hla hlb hea heb
    go_enter Try.func6, Try.ntmps6
    go_wp2_with (first
      | go_skip
      | (go_at_call 7; (with_reducible refine (HFx.out _).mono ?_); rintro e w1 ⟨rfl, hb1⟩; have HX1 := Lib.hid (below_step HX0.out hb1); have K1 := Lib.hid (K10.out.through hb1); have K2 := Lib.hid (K20.out.through hb1); have k12 := K1.out.cellAt (i := 2) rfl; have k13 := K1.out.cellAt (i := 3) rfl; have k22 := K2.out.cellAt (i := 2) rfl; have k23 := K2.out.cellAt (i := 3) rfl; have HA1 := Lib.hid (HA.out.through HX1.out); have HB1 := Lib.hid (HB.out.through HX1.out); clear hb1)
      | (refine wpList_load_blk_g 25 (.tmp 3) rfl (by kernel_rfl) w.heap.size rfl 25 [.int .i64 a.kd, .int .i64 a.fr, .slice B nb cb, .slice A nt ct] _ K1.out Try.underlying25 rfl (by kernel_rfl) ?_)
      | (go_at_call 10; (with_reducible refine (HCa.out _ HA1.out).mono ?_); rintro e w2 ⟨rfl, hb2⟩; have HX2 := Lib.hid (below_step HX1.out hb2); have K1b := Lib.hid (K1.out.through hb2); have K2b := Lib.hid (K2.out.through hb2); have HB2 := Lib.hid (HB1.out.through hb2); clear hb2 k12 k13 k22 k23))
    go_ret
    exact ⟨rfl, HX2.out⟩
  by_cases s7 : eb = 0
  case neg =>
    have s7b : (eb == 0) = false := by simpa using s7
    have s7c : (eb != 0) = true := by simpa using s7
    subst s6
    clear s1 s2 s3 s4 s5 s7 hla hlb hea heb
    go_enter Try.func6, Try.ntmps6
    go_wp2_with (first
      | go_skip
      | (go_at_call 7; (with_reducible refine (HFx.out _).mono ?_); rintro e w1 ⟨rfl, hb1⟩; have HX1 := Lib.hid (below_step HX0.out hb1); have K1 := Lib.hid (K10.out.through hb1); have K2 := Lib.hid (K20.out.through hb1); have k12 := K1.out.cellAt (i := 2) rfl; have k13 := K1.out.cellAt (i := 3) rfl; have k22 := K2.out.cellAt (i := 2) rfl; have k23 := K2.out.cellAt (i := 3) rfl; have HA1 := Lib.hid (HA.out.through HX1.out); have HB1 := Lib.hid (HB.out.through HX1.out); clear hb1)
      | (refine wpList_load_blk_g 25 (.tmp 3) rfl (by kernel_rfl) w.heap.size rfl 25 [.int .i64 a.kd, .int .i64 a.fr, .slice B nb cb, .slice A nt ct] _ K1.out Try.underlying25 rfl (by kernel_rfl) ?_)
      | (go_at_call 10; (with_reducible refine (HCa.out _ HA1.out).mono ?_); rintro e w2 ⟨rfl, hb2⟩; have HX2 := Lib.hid (below_step HX1.out hb2); have K1b := Lib.hid (K1.out.through hb2); have K2b := Lib.hid (K2.out.through hb2); have HB2 := Lib.hid (HB1.out.through hb2); clear hb2 k12 k13 k22 k23)
      | (refine wpList_load_blk_g 25 (.tmp 4) rfl (by kernel_rfl) (w.heap.size + 1) rfl 25 [.int .i64 b.kd, .int .i64 b.fr, .slice B' nb' cb', .slice A' nt' ct'] _ K2b.out Try.underlying25 rfl (by kernel_rfl) ?_)
      | (go_at_call 10; (with_reducible refine (HCb.out _ HB2.out).mono ?_); rintro e w3 ⟨rfl, hb3⟩; have HX3 := Lib.hid (below_step HX2.out hb3); have K1c := Lib.hid (K1b.out.through hb3); have K2c := Lib.hid (K2b.out.through hb3); clear hb3))
    go_ret
    exact ⟨rfl, HX3.out⟩
  subst s6 s7
  obtain ⟨bb, hbb⟩ : ∃ bb, a.eqb b = bb := ⟨_, rfl⟩
  obtain ⟨EA, hEA⟩ : ∃ EA, encM a = EA := ⟨_, rfl⟩
  obtain ⟨EB, hEB⟩ : ∃ EB, encM b = EB := ⟨_, rfl⟩
  have hstr : ((ba EA).toList == (ba EB).toList) = bb := by
    rw [eqb_ba, ← hEA, ← hEB, ← hbb, Bool.eq_iff_iff, beq_iff_eq, Ms.eqb_iff]
    exact encM_inj hea HA.out.2.2.1 heb HB.out.2.2.1
  have HBa0 : Hid (∀ W : World, MsIn W B nb A nt ct a → Calls Try.prog 8 #[.agg #[.int .i64 a.kd, .int .i64 a.fr, .slice B nb cb, .slice A nt ct]] W (Byt W EA)) := Lib.hid (fun W h9 => hEA ▸ bytesw a B nb cb A nt ct W h9 (by omega) (by omega))
  have HBb0 : Hid (∀ W : World, MsIn W B' nb' A' nt' ct' b → Calls Try.prog 8 #[.agg #[.int .i64 b.kd, .int .i64 b.fr, .slice B' nb' cb', .slice A' nt' ct']] W (Byt W EB)) := Lib.hid (fun W h9 => hEB ▸ bytesw b B' nb' cb' A' nt' ct' W h9 (by omega) (by omega))
  have HSr : Hid (∀ W : World, MsIn W B nb A nt ct a → MsIn W B' nb' A' nt' ct' b → Calls Try.prog 13 #[.agg #[.int .i64 a.kd, .int .i64 a.fr, .slice B nb cb, .slice A nt ct], .agg #[.int .i64 b.kd, .int .i64 b.fr, .slice B' nb' cb', .slice A' nt' ct']] W fun e w' => e = .returned (.bool bb) ∧ Below W.heap.size W w') := Lib.hid (fun W h8 h9 => hbb ▸ rmsame_any a b B nb cb A nt ct B' nb' cb' A' nt' ct' W h8 h9)
  have HStr : Hid (∀ (ys : List UInt8) (A : Option Addr) (n c : Nat) (W : World), By W (fun _ => True) A n ys → (convert 22 9 (.slice A n c)).run Try.prog W = .ok (.string (ba ys)) W) := Lib.hid (fun ys A n c W h => run_string_by _ 22 9 5 Try.underlying22 Try.underlying5 Try.underlying9 _ _ _ _ _ h)
  obtain ⟨P, hP⟩ : ∃ P, (parseM (EA ++ xs)).1 = P := ⟨_, rfl⟩
  obtain ⟨pe, hpe⟩ : ∃ pe, (parseM (EA ++ xs)).2 = pe := ⟨_, rfl⟩
  have HPa : Hid (∀ (A : Option Addr) (n c : Nat) (W : World), By W (fun _ => True) A n (EA ++ xs) → Calls Try.prog 14 #[.slice A n c] W (MsOut W P pe)) := Lib.hid (fun A n c W h => by
    have h9 := parse_any (EA ++ xs) A n c W h
    rw [hP, hpe] at h9
    exact h9)
  obtain ⟨lb, hlb9⟩ : ∃ lb, ((nm : Int) == 0) = lb := ⟨_, rfl⟩
  have hpe9 : (pe == 0) = lb := by
    rw [← hlb9, ← hpe, ← hEA, Bool.eq_iff_iff, beq_iff_eq, beq_iff_eq, parseM_ok hea HA.out.2.2.1]
    have := HM.out.len
    refine ⟨fun e => by subst e; simp at this; omega, fun e => List.eq_nil_of_length_eq_zero (by omega)⟩
  rw [hEA] at HLA
  clear s1 s2 s3 s4 s5 hla hlb hea heb hbb hP hpe hEA hEB
  go_enter Try.func6, Try.ntmps6
  go_wp2_with (first
    | go_skip
    | (go_at_call 7; (with_reducible refine (HFx.out _).mono ?_); rintro e w1 ⟨rfl, hb1⟩; have HX1 := Lib.hid (below_step HX0.out hb1); have K1 := Lib.hid (K10.out.through hb1); have K2 := Lib.hid (K20.out.through hb1); have k12 := K1.out.cellAt (i := 2) rfl; have k13 := K1.out.cellAt (i := 3) rfl; have k22 := K2.out.cellAt (i := 2) rfl; have k23 := K2.out.cellAt (i := 3) rfl; have HA1 := Lib.hid (HA.out.through HX1.out); have HB1 := Lib.hid (HB.out.through HX1.out); clear hb1)
    | (refine wpList_load_blk_g 25 (.tmp 3) rfl (by kernel_rfl) w.heap.size rfl 25 [.int .i64 a.kd, .int .i64 a.fr, .slice B nb cb, .slice A nt ct] _ K1.out Try.underlying25 rfl (by kernel_rfl) ?_)
    | (go_at_call 10; (with_reducible refine (HCa.out _ HA1.out).mono ?_); rintro e w2 ⟨rfl, hb2⟩; have HX2 := Lib.hid (below_step HX1.out hb2); have K1b := Lib.hid (K1.out.through hb2); have K2b := Lib.hid (K2.out.through hb2); have HB2 := Lib.hid (HB1.out.through hb2); clear hb2 k12 k13 k22 k23)
    | (refine wpList_load_blk_g 25 (.tmp 4) rfl (by kernel_rfl) (w.heap.size + 1) rfl 25 [.int .i64 b.kd, .int .i64 b.fr, .slice B' nb' cb', .slice A' nt' ct'] _ K2b.out Try.underlying25 rfl (by kernel_rfl) ?_)
    | (go_at_call 10; (with_reducible refine (HCb.out _ HB2.out).mono ?_); rintro e w3 ⟨rfl, hb3⟩; have HX3 := Lib.hid (below_step HX2.out hb3); have K1c := Lib.hid (K1b.out.through hb3); have K2c := Lib.hid (K2b.out.through hb3); clear hb3))
  try dsimp only [Act.put]
  have HBa : Hid (∀ W : World, Below w3.heap.size w3 W → Calls Try.prog 8 #[.agg #[.int .i64 a.kd, .int .i64 a.fr, .slice B nb cb, .slice A nt ct]] W (Byt W EA)) := Lib.hid (fun W hW => HBa0.out W (HA.out.through (below_step HX3.out hW)))
  have HBb : Hid (∀ W : World, Below w3.heap.size w3 W → Calls Try.prog 8 #[.agg #[.int .i64 b.kd, .int .i64 b.fr, .slice B' nb' cb', .slice A' nt' ct']] W (Byt W EB)) := Lib.hid (fun W hW => HBb0.out W (HB.out.through (below_step HX3.out hW)))
  refine wp_region_held_drew (S := fun W => Below w3.heap.size w3 W) (by kernel_rfl) (Below.refl _ _).drew (fun hHeld => ?_)
  change wpAnyH _ _ _ _ _ _ #[false, false, false, false, false, false] _ _
  refine wpAnyH_take (i := 0) (v := (.agg #[.int .i64 a.kd, .int .i64 a.fr, .slice B nb cb, .slice A nt ct])) rfl (by kernel_rfl) (by kernel_rfl) (by kernel_rfl) (fun _ _ _ h => h) (yieldsIf_load_mid (by kernel_rfl) 25 (.tmp 3) rfl w.heap.size 0 (by simp [Act.eval]) [.int .i64 a.kd, .int .i64 a.fr, .slice B nb cb, .slice A nt ct] _ (fun W hW => rangeAt.through (Blk.front (post := []) K1c.out) hW) Try.underlying25 rfl (by kernel_rfl)) (by assumption) ?_
  change wpAnyH _ _ _ _ _ _ _ (Act.put _ (some (50 : Nat)) (.agg #[.int .i64 a.kd, .int .i64 a.fr, .slice B nb cb, .slice A nt ct])) _
  simp only [Act.put, List.setIfInBounds_toArray, List.set_cons_zero, List.set_cons_succ]
  refine wpAnyH_take (i := 2) (v := (.agg #[.int .i64 b.kd, .int .i64 b.fr, .slice B' nb' cb', .slice A' nt' ct'])) rfl (by kernel_rfl) (by kernel_rfl) (by kernel_rfl) (fun _ _ _ h => h) (yieldsIf_load_mid (by kernel_rfl) 25 (.tmp 4) rfl (w.heap.size + 1) 0 (by simp [Act.eval]) [.int .i64 b.kd, .int .i64 b.fr, .slice B' nb' cb', .slice A' nt' ct'] _ (fun W hW => rangeAt.through (Blk.front (post := []) K2c.out) hW) Try.underlying25 rfl (by kernel_rfl)) (by assumption) ?_
  change wpAnyH _ _ _ _ _ _ _ (Act.put _ (some (52 : Nat)) (.agg #[.int .i64 b.kd, .int .i64 b.fr, .slice B' nb' cb', .slice A' nt' ct'])) _
  simp only [Act.put, List.setIfInBounds_toArray, List.set_cons_zero, List.set_cons_succ]
  refine wpAnyH_ready (rs := [1]) (by kernel_rfl) (by simp) ?_
  refine AllReadyH.cons rfl (fun K hK => ?_) AllReadyH.nil
  go_simp
  refine (HBa.out _ hHeld).mono ?_
  rintro e wf ⟨A4, n4, d4, rfl, hy4, _, _, hb4⟩; have HY4 := Lib.hid hy4; have HK4 := Lib.hid (below_step hHeld hb4); clear hy4 hb4
  go_wp2_with fail
  refine hK.out _ _ HK4.out (fun hHeld1 => ?_)
  clear hHeld hK K
  have hHeld := hHeld1
  clear hHeld1
  refine wpAnyH_ready (rs := [3]) (by kernel_rfl) (by simp) ?_
  refine AllReadyH.cons rfl (fun K hK => ?_) AllReadyH.nil
  go_simp
  refine (HBb.out _ hHeld).mono ?_
  rintro e wl ⟨A5, n5, d5, rfl, hy5, _, _, hb5⟩; have HY5 := Lib.hid hy5; have HY4 := Lib.hid (HY4.out.through hb5); have HK5 := Lib.hid (below_step hHeld hb5); clear hy5 hb5
  go_wp2_with fail
  refine hK.out _ _ HK5.out (fun hHeld1 => ?_)
  clear hHeld hK K
  have hHeld := hHeld1
  clear hHeld1
  refine wpAnyH_take (i := 4) (v := (.slice A4 n4 d4)) rfl (by kernel_rfl) (by kernel_rfl) (by kernel_rfl) (fun _ _ _ h => h) (Or.inl ⟨by kernel_rfl, fun w hSw => ?_⟩) (by assumption) ?_
  · (try dsimp only at hSw); go_simp <;> (try rfl)
  change wpAnyH _ _ _ _ _ _ _ (Act.put _ (some (7 : Nat)) (.slice A4 n4 d4)) _
  simp only [Act.put, List.setIfInBounds_toArray, List.set_cons_zero, List.set_cons_succ]
  refine wpAnyH_take (i := 5) (v := (.slice A5 n5 d5)) rfl (by kernel_rfl) (by kernel_rfl) (by kernel_rfl) (fun _ _ _ h => h) (Or.inl ⟨by kernel_rfl, fun w hSw => ?_⟩) (by assumption) ?_
  · (try dsimp only at hSw); go_simp <;> (try rfl)
  change wpAnyH _ _ _ _ _ _ _ (Act.put _ (some (8 : Nat)) (.slice A5 n5 d5)) _
  simp only [Act.put, List.setIfInBounds_toArray, List.set_cons_zero, List.set_cons_succ]
  refine wpAnyH_done (by kernel_rfl) ?_ _
  have HXl : Hid (Below w.heap.size w wl) := Lib.hid (below_step HX3.out hHeld)
  have K1l := Lib.hid (K1c.out.through hHeld)
  have K2l := Lib.hid (K2c.out.through hHeld)
  have HAl := Lib.hid (HA.out.through HXl.out)
  have HBl := Lib.hid (HB.out.through HXl.out)
  clear hHeld
  go_wp2_with fail
  try dsimp only [Act.put]
  refine wp_region_held_drew (S := fun W => Below wl.heap.size wl W) (by kernel_rfl) (Below.refl _ _).drew (fun hHeld => ?_)
  change wpAnyH _ _ _ _ _ _ #[false, false, false, false, false, false, false, false, false] _ _
  refine wpAnyH_take (i := 0) (v := (.slice A4 n4 d4)) rfl (by kernel_rfl) (by kernel_rfl) (by kernel_rfl) (fun _ _ _ h => h) (Or.inl ⟨by kernel_rfl, fun w hSw => ?_⟩) (by assumption) ?_
  · (try dsimp only at hSw); go_simp <;> (try rfl)
  change wpAnyH _ _ _ _ _ _ _ (Act.put _ (some (54 : Nat)) (.slice A4 n4 d4)) _
  simp only [Act.put, List.setIfInBounds_toArray, List.set_cons_zero, List.set_cons_succ]
  refine wpAnyH_take (i := 1) (v := (.string (ba EA))) rfl (by kernel_rfl) (by kernel_rfl) (by kernel_rfl) (fun _ _ _ h => h) (yields_conv (by kernel_rfl) 22 9 (.tmp 54) rfl (.slice A4 n4 d4) (by simp [Act.eval]) (.string (ba EA)) (fun W hW => HStr.out _ _ _ _ W (HY4.out.through hW))) (by assumption) ?_
  change wpAnyH _ _ _ _ _ _ _ (Act.put _ (some (55 : Nat)) (.string (ba EA))) _
  simp only [Act.put, List.setIfInBounds_toArray, List.set_cons_zero, List.set_cons_succ]
  refine wpAnyH_take (i := 2) (v := (.slice A5 n5 d5)) rfl (by kernel_rfl) (by kernel_rfl) (by kernel_rfl) (fun _ _ _ h => h) (Or.inl ⟨by kernel_rfl, fun w hSw => ?_⟩) (by assumption) ?_
  · (try dsimp only at hSw); go_simp <;> (try rfl)
  change wpAnyH _ _ _ _ _ _ _ (Act.put _ (some (56 : Nat)) (.slice A5 n5 d5)) _
  simp only [Act.put, List.setIfInBounds_toArray, List.set_cons_zero, List.set_cons_succ]
  refine wpAnyH_take (i := 3) (v := (.string (ba EB))) rfl (by kernel_rfl) (by kernel_rfl) (by kernel_rfl) (fun _ _ _ h => h) (yields_conv (by kernel_rfl) 22 9 (.tmp 56) rfl (.slice A5 n5 d5) (by simp [Act.eval]) (.string (ba EB)) (fun W hW => HStr.out _ _ _ _ W (HY5.out.through hW))) (by assumption) ?_
  change wpAnyH _ _ _ _ _ _ _ (Act.put _ (some (57 : Nat)) (.string (ba EB))) _
  simp only [Act.put, List.setIfInBounds_toArray, List.set_cons_zero, List.set_cons_succ]
  refine wpAnyH_take (i := 4) (v := (.bool bb)) rfl (by kernel_rfl) (by kernel_rfl) (by kernel_rfl) (fun _ _ _ h => h) (Or.inl ⟨by kernel_rfl, fun w hSw => ?_⟩) (by assumption) ?_
  · (try dsimp only at hSw); go_simp <;> (try rfl)
  change wpAnyH _ _ _ _ _ _ _ (Act.put _ (some (58 : Nat)) (.bool bb)) _
  simp only [Act.put, List.setIfInBounds_toArray, List.set_cons_zero, List.set_cons_succ]
  refine wpAnyH_take (i := 5) (v := (.agg #[.int .i64 a.kd, .int .i64 a.fr, .slice B nb cb, .slice A nt ct])) rfl (by kernel_rfl) (by kernel_rfl) (by kernel_rfl) (fun _ _ _ h => h) (yieldsIf_load_mid (by kernel_rfl) 25 (.tmp 3) rfl w.heap.size 0 (by simp [Act.eval]) [.int .i64 a.kd, .int .i64 a.fr, .slice B nb cb, .slice A nt ct] _ (fun W hW => rangeAt.through (Blk.front (post := []) K1l.out) hW) Try.underlying25 rfl (by kernel_rfl)) (by assumption) ?_
  change wpAnyH _ _ _ _ _ _ _ (Act.put _ (some (59 : Nat)) (.agg #[.int .i64 a.kd, .int .i64 a.fr, .slice B nb cb, .slice A nt ct])) _
  simp only [Act.put, List.setIfInBounds_toArray, List.set_cons_zero, List.set_cons_succ]
  refine wpAnyH_take (i := 6) (v := (.agg #[.int .i64 b.kd, .int .i64 b.fr, .slice B' nb' cb', .slice A' nt' ct'])) rfl (by kernel_rfl) (by kernel_rfl) (by kernel_rfl) (fun _ _ _ h => h) (yieldsIf_load_mid (by kernel_rfl) 25 (.tmp 4) rfl (w.heap.size + 1) 0 (by simp [Act.eval]) [.int .i64 b.kd, .int .i64 b.fr, .slice B' nb' cb', .slice A' nt' ct'] _ (fun W hW => rangeAt.through (Blk.front (post := []) K2l.out) hW) Try.underlying25 rfl (by kernel_rfl)) (by assumption) ?_
  change wpAnyH _ _ _ _ _ _ _ (Act.put _ (some (60 : Nat)) (.agg #[.int .i64 b.kd, .int .i64 b.fr, .slice B' nb' cb', .slice A' nt' ct'])) _
  simp only [Act.put, List.setIfInBounds_toArray, List.set_cons_zero, List.set_cons_succ]
  refine wpAnyH_ready (rs := [7]) (by kernel_rfl) (by simp) ?_
  refine AllReadyH.cons rfl (fun K hK => ?_) AllReadyH.nil
  go_simp
  refine (HSr.out _ (HAl.out.through hHeld) (HBl.out.through hHeld)).mono ?_
  rintro e wz ⟨rfl, hbz⟩; have HKz := Lib.hid (below_step hHeld hbz); clear hbz
  go_wp2_with fail
  refine hK.out _ _ HKz.out (fun hHeld1 => ?_)
  clear hHeld hK K
  have hHeld := hHeld1
  clear hHeld1
  refine wpAnyH_take (i := 8) (v := (.bool false)) rfl (by kernel_rfl) (by kernel_rfl) (by kernel_rfl) (fun _ _ _ h => h) (Or.inl ⟨by kernel_rfl, fun w hSw => ?_⟩) (by assumption) ?_
  · (try dsimp only at hSw); go_simp <;> (try rfl)
  change wpAnyH _ _ _ _ _ _ _ (Act.put _ (some (62 : Nat)) (.bool false)) _
  simp only [Act.put, List.setIfInBounds_toArray, List.set_cons_zero, List.set_cons_succ]
  refine wpAnyH_done (by kernel_rfl) ?_ _
  have HXz : Hid (Below w.heap.size w wz) := Lib.hid (below_step HXl.out hHeld)
  have HY4 := Lib.hid (HY4.out.through hHeld)
  clear hHeld
  go_wp2_with (first
    | (at_builtin; refine wpList_append_by _ rfl (.tmp 64) (.tmp 65) 22 rfl wz.heap.size i0 Try.underlying22 hi hz0 hz1 hz2 (.slice (some ⟨wz.heap.size, 0, none⟩) 0 0) 0 [] rfl (World.ownsRow_made wz #[] 0 (Nat.le_refl _) (Nat.zero_le _) rfl) (fun _ => True) A4 n4 d4 EA rfl (HY4.out.alloc _) (by have := HY4.out.len; have := HLA.out; omega) (by simp) ?_; intro v6 w6 hown6 hgrow6 _; have HX6 : Hid (Below w.heap.size w w6) := Lib.hid ((HXz.out.alloc HXz.out.size (.cells #[] 5)).grown hgrow6 (Nat.le_trans HXz.out.size (below1_ wz _).size) (fun k hk => by simp [Value.ownBlock] at hk; have := HXz.out.size; omega)); have HO6 : Hid (w6.ownsRow wz.heap.size 5 1 v6 EA.length (vs EA)) := Lib.hid (by rw [Nat.zero_add, List.nil_append, ← HY4.out.len] at hown6; exact hown6); have HG6 : Hid (wz.heap.size ≤ w6.heap.size) := Lib.hid (Nat.le_trans (below1_ wz (.cells #[] 5)).size hgrow6.size); clear hown6 hgrow6)
    | (at_builtin; refine wpList_append_by _ rfl (.tmp 66) (.tmp 67) 22 rfl wz.heap.size i0 Try.underlying22 hi hz0 hz1 hz2 v6 EA.length (vs EA) rfl HO6.out (fun _ => True) C nm cm xs rfl (HM.out.through HX6.out) (by have := HLA.out; have := HLM.out; omega) HG6.out ?_; intro v7 w7 hown7 hgrow7 _; have HX7 : Hid (Below w.heap.size w w7) := Lib.hid (HX6.out.grown hgrow7 HX6.out.size (fun k hk => Nat.le_trans HXz.out.size (HO6.out.lt k hk).1)); have HO7 : Hid (w7.ownsRow wz.heap.size 5 1 v7 (EA ++ xs).length (vs (EA ++ xs))) := Lib.hid (by rw [List.length_append, HM.out.len, ← vs_append]; exact hown7); obtain ⟨A7, c7, rfl, _, _, _⟩ := own_form HO7.out; have HY7 : Hid (By w7 (fun _ => True) A7 (EA.length + xs.length) (EA ++ xs)) := Lib.hid (by rw [← List.length_append]; exact (By.of_own HO7.out).weak (Q' := fun _ => True) fun _ _ => trivial); clear hown7 hgrow7)
    | (go_at_call 14; (with_reducible refine (HPa.out _ _ _ _ HY7.out).mono ?_); rintro e w8 ⟨B8, n8, c8, A8, t8, d8, rfl, _, hb8⟩; have HX8 : Hid (Below w.heap.size w (w8.alloc (.cells #[.int .i64 P.kd, .int .i64 P.fr, .slice B8 n8 c8, .slice A8 t8 d8] 25))) := Lib.hid ((below_step HX7.out hb8).alloc (below_step HX7.out hb8).size (.cells #[.int .i64 P.kd, .int .i64 P.fr, .slice B8 n8 c8, .slice A8 t8 d8] 25)); clear hb8))
  go_ret
  exact ⟨rfl, HX8.out⟩

end Go.Proofs.Ytkklgfcmgefedaa
