/-
  ChR
-/
import Derived.BigQuiet
import Derived.BigGuard
import Derived.Test.YtheecifgbkdecaaSM20
import Derived.Test.YtheecifgbkdecaaSMT
namespace Go.Proofs.Ytheecifgbkdecaa
open Go.RowKit

theorem one3q (a b : Int) (A : Option Addr) (n c : Nat) : ([.int .i64 a, .int .i64 b, .slice A n c] : List Value).toArray.all (·.oneCell') = true := by simp [Value.oneCell']

set_option maxHeartbeats 64000000 in
set_option maxRecDepth 100000 in
theorem rright_any (c : Ch) (P Q R : Pl) (n : Int) (w : World) (h : ChIn w P Q R c) (hl1 : ∀ p ∈ c.pp, ∀ y ∈ p.es, y.co.lt.length ≤ 1000000) (hl2 : ∀ p ∈ c.pd, ∀ y ∈ p.es, y.co.lt.length ≤ 1000000) :
  Calls Try.prog 20 #[.agg (Ch.cells c P Q R).toArray, .int .i64 n] w fun e w' => e = .returned (.bool (rightB c n)) ∧ Below w.heap.size w w' := by
 obtain ⟨bb, hbb⟩ : ∃ bb, rightB c n = bb := ⟨_, rfl⟩
 rw [hbb]
 have HK : Hid (Blk (w.alloc (.cells (Ch.cells c P Q R).toArray 25)) w.heap.size 25 (Ch.cells c P Q R)) := Lib.hid (Blk.fresh rfl rfl)
 have HX0 : Hid (Below w.heap.size w (w.alloc (.cells (Ch.cells c P Q R).toArray 25))) := Lib.hid (below1_ w _)
 have HP := Lib.hid h.1.1
 have HQ := Lib.hid h.2.1.1
 have HR := Lib.hid h.2.2.1
 have HLp := Lib.hid h.1.1.len
 have HLq := Lib.hid h.2.1.1.len
 have HLr := Lib.hid h.2.2.1.len
 have HLlQ := Lib.hid hl1
 have HLlR := Lib.hid hl2
 have hpm : P.2.1 ≤ 9223372036854775807 := by have h9 := h.1.2; simp only [maxLen] at h9; omega
 have hqm : Q.2.1 ≤ 9223372036854775807 := by have h9 := h.2.1.2; simp only [maxLen] at h9; omega
 have hrm : R.2.1 ≤ 9223372036854775807 := by have h9 := h.2.2.2; simp only [maxLen] at h9; omega
 have k0 := HK.out.cellAt (i := 0) rfl
 have k1 := HK.out.cellAt (i := 1) rfl
 have k2 := HK.out.cellAt (i := 2) rfl
 have k3 := HK.out.cellAt (i := 3) rfl
 have k4 := HK.out.cellAt (i := 4) rfl
 obtain ⟨q0, hq0⟩ : ∃ b, isW c.vw = b := ⟨_, rfl⟩
 have HVw : Hid (∀ W : World, Calls Try.prog 64 #[.int .i64 c.vw] W fun e w' => e = .returned (.bool q0) ∧ w' = W) := Lib.hid (fun W => hq0 ▸ rview_any c.vw W)
 have HMk : Hid (∀ (s : Int) (W : World), Calls Try.prog 65 #[.int .i64 s] W fun e w' => e = .returned (.bool (markB s)) ∧ w' = W) := Lib.hid rmark_any
 have HBB := Lib.hid hbb
 clear h hl1 hl2 hbb
 by_cases s1 : c.vw < 1
 ·have d1 : decide (c.vw < 1) = true := by simpa using s1
  have HF : Hid (bb = false) := Lib.hid (by rw [← HBB.out]; have h9 : decide (1 ≤ c.vw) = false := (by simpa using s1); simp [rightB, headB, h9])
  clear s1 hq0
  go_enter Try.func20, Try.ntmps20
  go_wp2
  go_quiet ((first | (go_at_call 64; exact Calls.quiet_of_same (HVw.out _)) | (go_at_call 65; exact Calls.quiet_of_same (HMk.out _ _))))
  go_wp2
  go_ret
  exact ⟨ret_bo HF.out.symm, below_drewN HX0.out _⟩
 have d1 : decide (c.vw < 1) = false := by simpa using s1
 have e1 : decide (1 ≤ c.vw) = true := by simp; omega
 cases q0 with
 | false =>
  have HF : Hid (bb = false) := Lib.hid (by rw [← HBB.out]; simp [rightB, headB, hq0])
  clear s1 hq0 e1
  go_enter Try.func20, Try.ntmps20
  go_wp2
  go_quiet ((first | (go_at_call 64; exact Calls.quiet_of_same (HVw.out _)) | (go_at_call 65; exact Calls.quiet_of_same (HMk.out _ _))))
  go_wp2
  go_ret
  exact ⟨ret_bo HF.out.symm, below_drewN HX0.out _⟩
 | true =>
 cases hm : markB c.lw with
 | false =>
  have HF : Hid (bb = false) := Lib.hid (by rw [← HBB.out]; simp [rightB, headB, hm])
  clear s1 hq0 e1
  go_enter Try.func20, Try.ntmps20
  go_wp2
  go_quiet ((first | (go_at_call 64; exact Calls.quiet_of_same (HVw.out _)) | (go_at_call 65; exact Calls.quiet_of_same (HMk.out _ _))))
  go_wp2
  go_ret
  exact ⟨ret_bo HF.out.symm, below_drewN HX0.out _⟩
 | true =>
 have HLw : Hid (isW c.lw = true) := Lib.hid (by unfold markB at hm; simp only [Bool.and_eq_true] at hm; exact hm.1)
 by_cases s4 : P.2.1 < 1
 ·have d4 : decide ((P.2.1 : Int) < 1) = true := by simp; omega
  have HF : Hid (bb = false) := Lib.hid (by rw [← HBB.out]; have h9 : decide (1 ≤ c.po.length) = false := (by rw [HLp.out]; simpa using s4); simp [rightB, headB, h9])
  clear s1 hq0 e1 s4
  go_enter Try.func20, Try.ntmps20
  go_wp2
  go_quiet ((first | (go_at_call 64; exact Calls.quiet_of_same (HVw.out _)) | (go_at_call 65; exact Calls.quiet_of_same (HMk.out _ _))))
  go_wp2
  go_ret
  exact ⟨ret_bo HF.out.symm, below_drewN HX0.out _⟩
 have d4 : decide ((P.2.1 : Int) < 1) = false := by simp; omega
 by_cases s5 : 4 < P.2.1
 ·have d5 : decide ((4 : Int) < (P.2.1 : Int)) = true := by simp; omega
  have HF : Hid (bb = false) := Lib.hid (by rw [← HBB.out]; have h9 : decide (c.po.length ≤ 4) = false := (by rw [HLp.out]; simpa using s5); simp [rightB, headB, h9])
  clear s1 hq0 e1 s4 s5
  go_enter Try.func20, Try.ntmps20
  go_wp2
  go_quiet ((first | (go_at_call 64; exact Calls.quiet_of_same (HVw.out _)) | (go_at_call 65; exact Calls.quiet_of_same (HMk.out _ _))))
  go_wp2
  go_ret
  exact ⟨ret_bo HF.out.symm, below_drewN HX0.out _⟩
 have d5 : decide ((4 : Int) < (P.2.1 : Int)) = false := by simp; omega
 obtain ⟨g0, o0, p0, hP0, _, _, hd0, _, hr0⟩ := (HP.out.through HX0.out).at (show 0 < P.2.1 by omega)
 have hpo : c.po = p0 :: c.po.drop 1 := by simpa using hd0
 have hix0 : ∀ W, (Instr.indexAt 22 (.slice P.1 P.2.1 P.2.2) (.int .i64 0)).run Try.prog W = .ok (.pointer (some ⟨g0, o0, none⟩)) W := fun W => by
  have h9 := Try.ix_po W g0 o0 P.2.1 P.2.2 0 (by omega)
  rw [hP0]
  simpa using h9
 have pc0 : (w.alloc (.cells (Ch.cells c P Q R).toArray 25)).cell? ⟨g0, o0, none⟩ = some (.int .i64 p0.sq) := by have h9 := hr0 0 _ rfl; simpa using h9
 clear hd0 hr0 hP0
 by_cases s6 : p0.sq = c.lw
 case neg =>
  have d6 : (p0.sq == c.lw) = false := by simpa using s6
  have d6b : (p0.sq != c.lw) = true := by simpa using s6
  have HF : Hid (bb = false) := Lib.hid (by rw [← HBB.out]; unfold rightB headB; rw [hpo]; simp [s6])
  clear s1 hq0 e1 s4 s5 s6 hpo
  go_enter Try.func20, Try.ntmps20
  go_wp2
  go_quiet ((first | (go_at_call 64; exact Calls.quiet_of_same (HVw.out _)) | (go_at_call 65; exact Calls.quiet_of_same (HMk.out _ _))))
  go_wp2
  go_ret
  exact ⟨ret_bo HF.out.symm, below_drewN HX0.out _⟩
 have d6 : (p0.sq == c.lw) = true := by simpa using s6
 have d6b : (p0.sq != c.lw) = false := by simpa using s6
 by_cases s7 : 8 < Q.2.1
 ·have d7 : decide ((8 : Int) < (Q.2.1 : Int)) = true := by simp; omega
  have HF : Hid (bb = false) := Lib.hid (by rw [← HBB.out]; have h9 : decide (c.pp.length ≤ 8) = false := (by rw [HLq.out]; simpa using s7); simp [rightB, headB, h9])
  clear s1 hq0 e1 s4 s5 s6 s7 hpo
  go_enter Try.func20, Try.ntmps20
  go_wp2
  go_quiet ((first | (go_at_call 64; exact Calls.quiet_of_same (HVw.out _)) | (go_at_call 65; exact Calls.quiet_of_same (HMk.out _ _))))
  go_wp2
  go_ret
  exact ⟨ret_bo HF.out.symm, below_drewN HX0.out _⟩
 have d7 : decide ((8 : Int) < (Q.2.1 : Int)) = false := by simp; omega
 by_cases s8 : 64 < R.2.1
 ·have d8 : decide ((64 : Int) < (R.2.1 : Int)) = true := by simp; omega
  have HF : Hid (bb = false) := Lib.hid (by rw [← HBB.out]; have h9 : decide (c.pd.length ≤ 64) = false := (by rw [HLr.out]; simpa using s8); simp [rightB, headB, h9])
  clear s1 hq0 e1 s4 s5 s6 s7 s8 hpo
  go_enter Try.func20, Try.ntmps20
  go_wp2
  go_quiet ((first | (go_at_call 64; exact Calls.quiet_of_same (HVw.out _)) | (go_at_call 65; exact Calls.quiet_of_same (HMk.out _ _))))
  go_wp2
  go_ret
  exact ⟨ret_bo HF.out.symm, below_drewN HX0.out _⟩
 have d8 : decide ((64 : Int) < (R.2.1 : Int)) = false := by simp; omega
 have hhd : headB c = true := by
  unfold headB
  have x4 : decide (1 ≤ c.po.length) = true := by rw [HLp.out]; simp; omega
  have x5 : decide (c.po.length ≤ 4) = true := by rw [HLp.out]; simp; omega
  have x7 : decide (c.pp.length ≤ 8) = true := by rw [HLq.out]; simp; omega
  have x8 : decide (c.pd.length ≤ 64) = true := by rw [HLr.out]; simp; omega
  rw [e1, hq0, hm, x4, x5, x7, x8, hpo]
  simp [s6]
 have HB1 : Hid (bb = (poB none c.po && ppB c.vw c.lw n none c.pp && pdB c.vw c.lw n none c.pd)) := Lib.hid (by rw [← HBB.out]; unfold rightB; rw [hhd]; rfl)
 clear s1 s4 s5 s6 s7 s8 hpo hhd e1 hq0 HBB
 go_enter Try.func20, Try.ntmps20
 go_wp2
 go_quiet ((first | (go_at_call 64; exact Calls.quiet_of_same (HVw.out _)) | (go_at_call 65; exact Calls.quiet_of_same (HMk.out _ _))))
 go_wp2
 clear hm k0 k1 k2 k3 k4 d1 d4 d5 d6 d6b d7 d8 pc0 hix0
 go_loopw [64] (fun iv wr => ∃ i : Nat, i ≤ P.2.1 ∧ iv = .int .i64 i ∧ bb = (poB (if i = 0 then none else (c.po[i - 1]?).map (·.sq)) (c.po.drop i) && ppB c.vw c.lw n none c.pp && pdB c.vw c.lw n none c.pd) ∧ Blk wr w.heap.size 25 (Ch.cells c P Q R) ∧ Below w.heap.size w wr) (fun iv _ => P.2.1 - (intOf iv).toNat)
 case atStart => exact ⟨0, Nat.zero_le _, rfl, HB1.out, HK.out.drewN _, below_drewN HX0.out _⟩
 case round =>
  obtain ⟨i, hi, rfl, hq, hkk, hx⟩ := hrel
  have HKr := Lib.hid hkk
  have HXv := Lib.hid hx
  clear hkk hx
  by_cases hlt : i < P.2.1
  ·obtain ⟨g, o, p, hP1, hpi, _, hd, hpl, hrx⟩ := (HP.out.through HXv.out).at hlt
   rw [hd] at hq
   have HRx := Lib.hid hrx
   have HPL : Hid ((Po.cells p).length = 33) := Lib.hid (Po.cells_len p hpl)
   have hix : ∀ W, (Instr.indexAt 22 (.slice P.1 P.2.1 P.2.2) (.int .i64 (i : Int))).run Try.prog W = .ok (.pointer (some ⟨g, o + i * 33, none⟩)) W := fun W => by rw [hP1]; exact Try.ix_po W g o P.2.1 P.2.2 i hlt
   cases hmp : markB p.sq with
   | false =>
    have HF : Hid (bb = false) := Lib.hid (by rw [hq]; simp [poB, hmp])
    clear hq hd hpl hrx
    go_wp2_with (first
     | (refine wpList_load_mid rfl 52 (.tmp 67) rfl g (o + i * 33) rfl (Po.cells p) _ HRx.out Try.underlying52 rfl (by rw [HPL.out]; kernel_rfl) ?_)
     | (refine wpList_store_blk rfl 52 (.tmp 6) (.tmp 68) rfl wr.heap.size (Po.cells p) rfl rfl 52 (Po.cells ⟨0, List.replicate 32 0⟩) (Blk.fresh rfl rfl) (by rw [HPL.out]; kernel_rfl) (by rw [HPL.out]; rfl) (Po.one p) ?_; simp only [Act.put]; intro wv hbv hgv; have HBx := Lib.hid hbv; have HXx : Hid (Below w.heap.size w wv) := Lib.hid (below_step HXv.out (below_new hgv)); have HKv := Lib.hid (HKr.out.through (below_new hgv)); have b0 := HBx.out.cellAt (i := 0) rfl; have kk2 := HKv.out.cellAt (i := 2) rfl;  clear hbv hgv))
    go_quiet ((first | (go_at_call 64; exact Calls.quiet_of_same (HVw.out _)) | (go_at_call 65; exact Calls.quiet_of_same (HMk.out _ _))))
    go_wp2
    go_ret
    exact ⟨ret_bo HF.out.symm, below_drewN HXx.out _⟩
   | true =>
    by_cases h0 : i = 0
    case pos =>
     have hdz : decide ((0 : Int) < (i : Int)) = false := decide_eq_false (by omega)
     have hdz2 : decide (0 < i) = false := decide_eq_false (by omega)
     have hpz : c.po[i + 1 - 1]? = some p := by simpa using hpi
     have HN : Hid (bb = (poB (if i + 1 = 0 then none else (c.po[i + 1 - 1]?).map (·.sq)) (c.po.drop (i + 1)) && ppB c.vw c.lw n none c.pp && pdB c.vw c.lw n none c.pd)) := Lib.hid (by rw [hq, if_pos h0, if_neg (by omega), hpz]; simp [poB, hmp])
     clear hq hd hpl hrx hpi hpz h0 hP1
     go_wp2_with (first
      | (refine wpList_load_mid rfl 52 (.tmp 67) rfl g (o + i * 33) rfl (Po.cells p) _ HRx.out Try.underlying52 rfl (by rw [HPL.out]; kernel_rfl) ?_)
      | (refine wpList_store_blk rfl 52 (.tmp 6) (.tmp 68) rfl wr.heap.size (Po.cells p) rfl rfl 52 (Po.cells ⟨0, List.replicate 32 0⟩) (Blk.fresh rfl rfl) (by rw [HPL.out]; kernel_rfl) (by rw [HPL.out]; rfl) (Po.one p) ?_; simp only [Act.put]; intro wv hbv hgv; have HBx := Lib.hid hbv; have HXx : Hid (Below w.heap.size w wv) := Lib.hid (below_step HXv.out (below_new hgv)); have HKv := Lib.hid (HKr.out.through (below_new hgv)); have b0 := HBx.out.cellAt (i := 0) rfl; have kk2 := HKv.out.cellAt (i := 2) rfl;  clear hbv hgv))
     go_quiet ((first | (go_at_call 64; exact Calls.quiet_of_same (HVw.out _)) | (go_at_call 65; exact Calls.quiet_of_same (HMk.out _ _))))
     go_wp2
     go_roundw
     case rel => exact ⟨i + 1, by omega, by go_num, HN.out, HKv.out.drewN _, below_drewN HXx.out _⟩
     case measure => simp [intOf]; omega
    case neg =>
     obtain ⟨j, rfl⟩ : ∃ j, i = j + 1 := ⟨i - 1, by omega⟩
     obtain ⟨g2, o2, pr, hP2, hpj, _, _, _, hrj⟩ := (HP.out.through HXv.out).at (show j < P.2.1 by omega)
     rw [hP1] at hP2
     obtain ⟨rfl, rfl⟩ : g = g2 ∧ o = o2 := by injection hP2 with e; injection e with e1 e2; exact ⟨e1, e2⟩
     have HRj := Lib.hid hrj
     have hij : ∀ W, (Instr.indexAt 22 (.slice P.1 P.2.1 P.2.2) (.int .i64 (j : Int))).run Try.prog W = .ok (.pointer (some ⟨g, o + j * 33, none⟩)) W := fun W => by rw [hP1]; exact Try.ix_po W g o P.2.1 P.2.2 j (by omega)
     have hwj : IntKind.i64.wrap ((j : Int) + 1 - 1) = (j : Int) := by rw [IntWalk.i64_in _ (by omega)]; omega
     have hwj2 : IntKind.i64.wrap (j : Int) = (j : Int) := IntWalk.i64_in _ (by omega)
     have hsj : (j : Int) + 1 - 1 = (j : Int) := by omega
     have hdj : decide ((0 : Int) < (j : Int) + 1) = true := decide_eq_true (by omega)
     have hixs : ∀ W, (Instr.indexAt 22 (.slice P.1 P.2.1 P.2.2) (.int .i64 ((j : Int) + 1))).run Try.prog W = .ok (.pointer (some ⟨g, o + (j + 1) * 33, none⟩)) W := fun W => by
      have h9 := hix W
      rw [show (((j + 1 : Nat)) : Int) = (j : Int) + 1 by omega] at h9
      exact h9
     clear hix
     by_cases hle : p.sq ≤ pr.sq
     ·have dle : decide (p.sq ≤ pr.sq) = true := by simpa using hle
      have HF : Hid (bb = false) := Lib.hid (by rw [hq]; have h9 : decide (pr.sq < p.sq) = false := (by simpa using hle); simp [poB, hmp, hpj, h9])
      clear hq hd hpl hrx hrj hle hpi hpj hP1 hP2
      go_wp2_with (first
       | (refine wpList_load_mid rfl 52 (.tmp 67) rfl g (o + (j + 1) * 33) rfl (Po.cells p) _ HRx.out Try.underlying52 rfl (by rw [HPL.out]; kernel_rfl) ?_)
       | (refine wpList_store_blk rfl 52 (.tmp 6) (.tmp 68) rfl wr.heap.size (Po.cells p) rfl rfl 52 (Po.cells ⟨0, List.replicate 32 0⟩) (Blk.fresh rfl rfl) (by rw [HPL.out]; kernel_rfl) (by rw [HPL.out]; rfl) (Po.one p) ?_; simp only [Act.put]; intro wv hbv hgv; have HBx := Lib.hid hbv; have HXx : Hid (Below w.heap.size w wv) := Lib.hid (below_step HXv.out (below_new hgv)); have HKv := Lib.hid (HKr.out.through (below_new hgv)); have b0 := HBx.out.cellAt (i := 0) rfl; have kk2 := HKv.out.cellAt (i := 2) rfl; have pc : wv.cell? ⟨g, o + j * 33, none⟩ = some (.int .i64 pr.sq) := rangeAt.through HRj.out (below_new hgv) 0 _ rfl; clear hbv hgv))
      go_quiet ((first | (go_at_call 64; exact Calls.quiet_of_same (HVw.out _)) | (go_at_call 65; exact Calls.quiet_of_same (HMk.out _ _))))
      go_wp2
      go_ret
      exact ⟨ret_bo HF.out.symm, below_drewN HXx.out _⟩
     ·have dle : decide (p.sq ≤ pr.sq) = false := by simpa using hle
      have HN : Hid (bb = (poB (if j + 1 + 1 = 0 then none else (c.po[j + 1 + 1 - 1]?).map (·.sq)) (c.po.drop (j + 1 + 1)) && ppB c.vw c.lw n none c.pp && pdB c.vw c.lw n none c.pd)) := Lib.hid (by rw [hq]; have h9 : decide (pr.sq < p.sq) = true := (by simp; omega); simp [poB, hmp, hpj, hpi, h9])
      clear hq hd hpl hrx hrj hle hpi hpj hP1 hP2
      go_wp2_with (first
       | (refine wpList_load_mid rfl 52 (.tmp 67) rfl g (o + (j + 1) * 33) rfl (Po.cells p) _ HRx.out Try.underlying52 rfl (by rw [HPL.out]; kernel_rfl) ?_)
       | (refine wpList_store_blk rfl 52 (.tmp 6) (.tmp 68) rfl wr.heap.size (Po.cells p) rfl rfl 52 (Po.cells ⟨0, List.replicate 32 0⟩) (Blk.fresh rfl rfl) (by rw [HPL.out]; kernel_rfl) (by rw [HPL.out]; rfl) (Po.one p) ?_; simp only [Act.put]; intro wv hbv hgv; have HBx := Lib.hid hbv; have HXx : Hid (Below w.heap.size w wv) := Lib.hid (below_step HXv.out (below_new hgv)); have HKv := Lib.hid (HKr.out.through (below_new hgv)); have b0 := HBx.out.cellAt (i := 0) rfl; have kk2 := HKv.out.cellAt (i := 2) rfl; have pc : wv.cell? ⟨g, o + j * 33, none⟩ = some (.int .i64 pr.sq) := rangeAt.through HRj.out (below_new hgv) 0 _ rfl; clear hbv hgv))
      go_quiet ((first | (go_at_call 64; exact Calls.quiet_of_same (HVw.out _)) | (go_at_call 65; exact Calls.quiet_of_same (HMk.out _ _))))
      go_wp2
      go_roundw
      case rel => exact ⟨j + 1 + 1, by omega, by go_num, HN.out, HKv.out.drewN _, below_drewN HXx.out _⟩
      case measure => simp [intOf]; omega
  ·have e9 : c.po.drop i = [] := List.drop_of_length_le (by have := HLp.out; omega)
   rw [e9] at hq
   have HB2 : Hid (bb = (ppB c.vw c.lw n none c.pp && pdB c.vw c.lw n none c.pd)) := Lib.hid (by rw [hq]; cases (if i = 0 then none else (c.po[i - 1]?).map (·.sq) : Option Int) <;> simp [poB])
   have kk3 := HKr.out.cellAt (i := 3) rfl
   clear hq e9
   go_wp2
   clear kk3
   go_loopw [93] (fun iv wr => ∃ ii : Nat, ii ≤ Q.2.1 ∧ iv = .int .i64 ii ∧ bb = (ppB c.vw c.lw n (if ii = 0 then none else (c.pp[ii - 1]?).map (·.sq)) (c.pp.drop ii) && pdB c.vw c.lw n none c.pd) ∧ Blk wr w.heap.size 25 (Ch.cells c P Q R) ∧ Below w.heap.size w wr) (fun iv _ => Q.2.1 - (intOf iv).toNat)
   case atStart => exact ⟨0, Nat.zero_le _, rfl, HB2.out, HKr.out, HXv.out⟩
   case round =>
    obtain ⟨ii, hi, rfl, hq, hkk, hx⟩ := hrel
    have HKr := Lib.hid hkk
    have HXv := Lib.hid hx
    clear hkk hx
    by_cases hlt : ii < Q.2.1
    ·obtain ⟨g, o, p, B, m, dd, hS1, hpi, hmem, hd, hrx, hex, _, _⟩ := (HQ.out.through HXv.out).at hlt
     rw [hd] at hq
     have HRx := Lib.hid hrx
     have hix : ∀ W, (Instr.indexAt 23 (.slice Q.1 Q.2.1 Q.2.2) (.int .i64 (ii : Int))).run Try.prog W = .ok (.pointer (some ⟨g, o + ii * 3, none⟩)) W := fun W => by rw [hS1]; exact Try.ix_pf W g o Q.2.1 Q.2.2 ii hlt
     have HBx : Hid (Blk (wr.alloc (.cells #[.int .i64 p.sq, .int .i64 p.vw, .slice B m dd] 55)) wr.heap.size 55 [.int .i64 p.sq, .int .i64 p.vw, .slice B m dd]) := Lib.hid (Blk.fresh rfl rfl)
     have HXx : Hid (Below w.heap.size w (wr.alloc (.cells #[.int .i64 p.sq, .int .i64 p.vw, .slice B m dd] 55))) := Lib.hid (HXv.out.alloc HXv.out.size _)
     have HKv : Hid (Blk (wr.alloc (.cells #[.int .i64 p.sq, .int .i64 p.vw, .slice B m dd] 55)) w.heap.size 25 (Ch.cells c P Q R)) := Lib.hid (HKr.out.alloc _)
     obtain ⟨pb, hpb⟩ : ∃ b, prfB c.vw c.lw n p = b := ⟨_, rfl⟩
     have HPr : Hid (∀ W : World, Below (wr.alloc (.cells #[.int .i64 p.sq, .int .i64 p.vw, .slice B m dd] 55)).heap.size (wr.alloc (.cells #[.int .i64 p.sq, .int .i64 p.vw, .slice B m dd] 55)) W → Calls Try.prog 66 #[.agg #[.int .i64 p.sq, .int .i64 p.vw, .slice B m dd], .agg (Ch.cells c P Q R).toArray, .int .i64 n] W fun e w' => e = .returned (.bool pb) ∧ Below W.heap.size W w') := Lib.hid (fun W hW => hpb ▸ rproof_any p B m dd c P Q R n W ((hex.through (below1_ wr _)).through hW) HLw.out (HLlQ.out p hmem))
     have HLt := Lib.hid hlt
     cases pb with
     | false =>
      have HF : Hid (bb = false) := Lib.hid (by rw [hq]; simp [ppB, hpb])
      clear hq hpb hd hmem hrx hex hS1 hpi
      go_wp2_with (first
       | (refine wpList_load_mid rfl 55 (.tmp 96) rfl g (o + ii * 3) rfl [.int .i64 p.sq, .int .i64 p.vw, .slice B m dd] _ HRx.out Try.underlying55 rfl (by kernel_rfl) ?_))
      try dsimp only [Act.put]
      refine wp_region_held_drew (S := fun W => Below (wr.alloc (.cells #[.int .i64 p.sq, .int .i64 p.vw, .slice B m dd] 55)).heap.size (wr.alloc (.cells #[.int .i64 p.sq, .int .i64 p.vw, .slice B m dd] 55)) W) (by kernel_rfl) (Below.refl _ _).drew (fun hHeld => ?_)
      change wpAnyH _ _ _ _ _ _ #[false, false, false, false, false, false, false, false, false, false, false, false, false, false, false, false, false, false, false, false, false] _ _
      refine tkq (i := 0) (d := 98) (v := (.agg #[.int .i64 p.sq, .int .i64 p.vw, .slice B m dd])) rfl rfl (yieldsIf_load_mid (by kernel_rfl) 55 (.tmp 8) rfl wr.heap.size 0 (by simp [Act.eval]) [.int .i64 p.sq, .int .i64 p.vw, .slice B m dd] _ (fun W hW => rangeAt.through (Blk.whole HBx.out) hW) Try.underlying55 rfl (by kernel_rfl)) (by assumption) ?_
      simp only [Act.put, sq1, sq2, sq3]
      refine tkq (i := 1) (d := 99) (v := (.agg (Ch.cells c P Q R).toArray)) rfl rfl (yieldsIf_load_mid (by kernel_rfl) 25 (.tmp 2) rfl w.heap.size 0 (by simp [Act.eval]) (Ch.cells c P Q R) _ (fun W hW => rangeAt.through (Blk.whole HKv.out) hW) Try.underlying25 rfl (by kernel_rfl)) (by assumption) ?_
      simp only [Act.put, sq1, sq2, sq3]
      refine tkq (i := 2) (d := 100) (v := (.int .i64 n)) rfl rfl (Or.inl ⟨by kernel_rfl, fun w hSw => ?_⟩) (by assumption) ?_
      ·(try dsimp only at hSw); go_simp <;> (try rfl)
      simp only [Act.put, sq1, sq2, sq3]
      refine wpAnyH_ready (rs := [3]) (by kernel_rfl) (by simp) ?_
      refine AllReadyH.cons rfl (fun K hK => ?_) AllReadyH.nil
      go_simp
      refine (HPr.out _ hHeld).mono ?_
      rintro e9 wz ⟨rfl, hbz⟩; have HKz := Lib.hid (below_step hHeld hbz); clear hbz
      go_wp2_with fail
      refine hK.out _ _ HKz.out (fun hHeld1 => ?_)
      clear hHeld hK K
      have hHeld := hHeld1
      clear hHeld1
      refine tkq (i := 4) (d := 102) (v := (.bool true)) rfl rfl (Or.inl ⟨by kernel_rfl, fun w hSw => ?_⟩) (by assumption) ?_
      ·(try dsimp only at hSw); go_simp <;> (try rfl)
      simp only [Act.put, sq1, sq2, sq3]
      refine tkq (i := 5) (d := 103) (v := (.bool true)) rfl rfl (Or.inl ⟨by kernel_rfl, fun w hSw => ?_⟩) (by assumption) ?_
      ·(try dsimp only at hSw); go_simp <;> (try rfl)
      simp only [Act.put, sq1, sq2, sq3]
      refine tkv (i := 6) (d := 104) rfl rfl (by assumption) ?_
      simp only [Act.put, sq1, sq2, sq3]
      refine tkv (i := 7) (d := 105) rfl rfl (by assumption) ?_
      simp only [Act.put, sq1, sq2, sq3]
      refine tkv (i := 8) (d := 106) rfl rfl (by assumption) ?_
      simp only [Act.put, sq1, sq2, sq3]
      refine tkv (i := 9) (d := 107) rfl rfl (by assumption) ?_
      simp only [Act.put, sq1, sq2, sq3]
      refine tkv (i := 10) (d := 108) rfl rfl (by assumption) ?_
      simp only [Act.put, sq1, sq2, sq3]
      refine tkv (i := 11) (d := 109) rfl rfl (by assumption) ?_
      simp only [Act.put, sq1, sq2, sq3]
      refine tkv (i := 12) (d := 110) rfl rfl (by assumption) ?_
      simp only [Act.put, sq1, sq2, sq3]
      refine tkv (i := 13) (d := 111) rfl rfl (by assumption) ?_
      simp only [Act.put, sq1, sq2, sq3]
      refine tkv (i := 14) (d := 112) rfl rfl (by assumption) ?_
      simp only [Act.put, sq1, sq2, sq3]
      refine tkv (i := 15) (d := 113) rfl rfl (by assumption) ?_
      simp only [Act.put, sq1, sq2, sq3]
      refine tkv (i := 16) (d := 114) rfl rfl (by assumption) ?_
      simp only [Act.put, sq1, sq2, sq3]
      refine tkv (i := 17) (d := 115) rfl rfl (by assumption) ?_
      simp only [Act.put, sq1, sq2, sq3]
      refine tkv (i := 18) (d := 116) rfl rfl (by assumption) ?_
      simp only [Act.put, sq1, sq2, sq3]
      refine tkv (i := 19) (d := 117) rfl rfl (by assumption) ?_
      simp only [Act.put, sq1, sq2, sq3]
      refine tkq (i := 20) (d := 118) (v := (.bool true)) rfl rfl (Or.inl ⟨by kernel_rfl, fun w hSw => ?_⟩) (by assumption) ?_
      ·(try dsimp only at hSw); go_simp <;> (try rfl)
      simp only [Act.put, sq1, sq2, sq3]
      refine wpAnyH_done (by kernel_rfl) ?_ _
      have HKk := Lib.hid hHeld
      clear hHeld
      go_wp2
      go_ret
      exact ⟨ret_bo HF.out.symm, below_step HXx.out HKk.out⟩
     | true =>
      by_cases h0 : ii = 0
      case pos =>
       have hdz : decide ((0 : Int) < (ii : Int)) = false := decide_eq_false (by omega)
       have hdz2 : decide (0 < ii) = false := decide_eq_false (by omega)
       have hpz : c.pp[ii + 1 - 1]? = some p := by simpa using hpi
       have HN : Hid (bb = (ppB c.vw c.lw n (if ii + 1 = 0 then none else (c.pp[ii + 1 - 1]?).map (·.sq)) (c.pp.drop (ii + 1)) && pdB c.vw c.lw n none c.pd)) := Lib.hid (by rw [hq, if_pos h0, if_neg (by omega), hpz]; simp [ppB, hpb])
       clear hq hpb hd hmem hrx hex hS1 hpi hpz h0
       go_wp2_with (first
        | (refine wpList_load_mid rfl 55 (.tmp 96) rfl g (o + ii * 3) rfl [.int .i64 p.sq, .int .i64 p.vw, .slice B m dd] _ HRx.out Try.underlying55 rfl (by kernel_rfl) ?_))
       try dsimp only [Act.put]
       refine wp_region_held_drew (S := fun W => Below (wr.alloc (.cells #[.int .i64 p.sq, .int .i64 p.vw, .slice B m dd] 55)).heap.size (wr.alloc (.cells #[.int .i64 p.sq, .int .i64 p.vw, .slice B m dd] 55)) W) (by kernel_rfl) (Below.refl _ _).drew (fun hHeld => ?_)
       change wpAnyH _ _ _ _ _ _ #[false, false, false, false, false, false, false, false, false, false, false, false, false, false, false, false, false, false, false, false, false] _ _
       refine tkq (i := 0) (d := 98) (v := (.agg #[.int .i64 p.sq, .int .i64 p.vw, .slice B m dd])) rfl rfl (yieldsIf_load_mid (by kernel_rfl) 55 (.tmp 8) rfl wr.heap.size 0 (by simp [Act.eval]) [.int .i64 p.sq, .int .i64 p.vw, .slice B m dd] _ (fun W hW => rangeAt.through (Blk.whole HBx.out) hW) Try.underlying55 rfl (by kernel_rfl)) (by assumption) ?_
       simp only [Act.put, sq1, sq2, sq3]
       refine tkq (i := 1) (d := 99) (v := (.agg (Ch.cells c P Q R).toArray)) rfl rfl (yieldsIf_load_mid (by kernel_rfl) 25 (.tmp 2) rfl w.heap.size 0 (by simp [Act.eval]) (Ch.cells c P Q R) _ (fun W hW => rangeAt.through (Blk.whole HKv.out) hW) Try.underlying25 rfl (by kernel_rfl)) (by assumption) ?_
       simp only [Act.put, sq1, sq2, sq3]
       refine tkq (i := 2) (d := 100) (v := (.int .i64 n)) rfl rfl (Or.inl ⟨by kernel_rfl, fun w hSw => ?_⟩) (by assumption) ?_
       ·(try dsimp only at hSw); go_simp <;> (try rfl)
       simp only [Act.put, sq1, sq2, sq3]
       refine wpAnyH_ready (rs := [3]) (by kernel_rfl) (by simp) ?_
       refine AllReadyH.cons rfl (fun K hK => ?_) AllReadyH.nil
       go_simp
       refine (HPr.out _ hHeld).mono ?_
       rintro e9 wz ⟨rfl, hbz⟩; have HKz := Lib.hid (below_step hHeld hbz); clear hbz
       go_wp2_with fail
       refine hK.out _ _ HKz.out (fun hHeld1 => ?_)
       clear hHeld hK K
       have hHeld := hHeld1
       clear hHeld1
       refine tkq (i := 4) (d := 102) (v := (.bool false)) rfl rfl (Or.inl ⟨by kernel_rfl, fun w hSw => ?_⟩) (by assumption) ?_
       ·(try dsimp only at hSw); go_simp <;> (try rfl)
       simp only [Act.put, sq1, sq2, sq3]
       refine tkq (i := 5) (d := 103) (v := (.bool false)) rfl rfl (Or.inl ⟨by kernel_rfl, fun w hSw => ?_⟩) (by assumption) ?_
       ·(try dsimp only at hSw); go_simp <;> (try rfl)
       simp only [Act.put, sq1, sq2, sq3]
       refine tkq (i := 6) (d := 104) (v := (.int .i64 (ii : Int))) rfl rfl (Or.inl ⟨by kernel_rfl, fun w hSw => ?_⟩) (by assumption) ?_
       ·(try dsimp only at hSw); go_simp <;> (try rfl)
       simp only [Act.put, sq1, sq2, sq3]
       refine tkq (i := 7) (d := 105) (v := (.bool false)) rfl rfl (Or.inl ⟨by kernel_rfl, fun w hSw => ?_⟩) (by assumption) ?_
       ·(try dsimp only at hSw); go_simp <;> (try rfl)
       simp only [Act.put, sq1, sq2, sq3]
       refine tkq (i := 8) (d := 106) (v := (.bool false)) rfl rfl (Or.inl ⟨by kernel_rfl, fun w hSw => ?_⟩) (by assumption) ?_
       ·(try dsimp only at hSw); go_simp <;> (try rfl)
       simp only [Act.put, sq1, sq2, sq3]
       refine tkv (i := 9) (d := 107) rfl rfl (by assumption) ?_
       simp only [Act.put, sq1, sq2, sq3]
       refine tkv (i := 10) (d := 108) rfl rfl (by assumption) ?_
       simp only [Act.put, sq1, sq2, sq3]
       refine tkv (i := 11) (d := 109) rfl rfl (by assumption) ?_
       simp only [Act.put, sq1, sq2, sq3]
       refine tkv (i := 12) (d := 110) rfl rfl (by assumption) ?_
       simp only [Act.put, sq1, sq2, sq3]
       refine tkv (i := 13) (d := 111) rfl rfl (by assumption) ?_
       simp only [Act.put, sq1, sq2, sq3]
       refine tkv (i := 14) (d := 112) rfl rfl (by assumption) ?_
       simp only [Act.put, sq1, sq2, sq3]
       refine tkv (i := 15) (d := 113) rfl rfl (by assumption) ?_
       simp only [Act.put, sq1, sq2, sq3]
       refine tkv (i := 16) (d := 114) rfl rfl (by assumption) ?_
       simp only [Act.put, sq1, sq2, sq3]
       refine tkv (i := 17) (d := 115) rfl rfl (by assumption) ?_
       simp only [Act.put, sq1, sq2, sq3]
       refine tkv (i := 18) (d := 116) rfl rfl (by assumption) ?_
       simp only [Act.put, sq1, sq2, sq3]
       refine tkq (i := 19) (d := 117) (v := (.bool false)) rfl rfl (Or.inl ⟨by kernel_rfl, fun w hSw => ?_⟩) (by assumption) ?_
       ·(try dsimp only at hSw); go_simp <;> (try rfl)
       simp only [Act.put, sq1, sq2, sq3]
       refine tkq (i := 20) (d := 118) (v := (.bool false)) rfl rfl (Or.inl ⟨by kernel_rfl, fun w hSw => ?_⟩) (by assumption) ?_
       ·(try dsimp only at hSw); go_simp <;> (try rfl)
       simp only [Act.put, sq1, sq2, sq3]
       refine wpAnyH_done (by kernel_rfl) ?_ _
       have HKk := Lib.hid hHeld
       clear hHeld
       go_wp2
       go_roundw
       case rel => exact ⟨ii + 1, by omega, by go_num, HN.out, HKv.out.through HKk.out, below_step HXx.out HKk.out⟩
       case measure => simp [intOf]; omega
      case neg =>
       obtain ⟨j, rfl⟩ : ∃ j, ii = j + 1 := ⟨ii - 1, by omega⟩
       obtain ⟨g2, o2, pr, Bj, mj, ej, hS2, hpj, _, _, hrj, _, _, _⟩ := (HQ.out.through HXv.out).at (show j < Q.2.1 by omega)
       rw [hS1] at hS2
       obtain ⟨rfl, rfl⟩ : g = g2 ∧ o = o2 := by injection hS2 with e; injection e with e1 e2; exact ⟨e1, e2⟩
       have HRj := Lib.hid (rangeAt.through hrj (below1_ wr (.cells #[.int .i64 p.sq, .int .i64 p.vw, .slice B m dd] 55)))
       have hij : ∀ W, (Instr.indexAt 23 (.slice Q.1 Q.2.1 Q.2.2) (.int .i64 (j : Int))).run Try.prog W = .ok (.pointer (some ⟨g, o + j * 3, none⟩)) W := fun W => by rw [hS1]; exact Try.ix_pf W g o Q.2.1 Q.2.2 j (by omega)
       have hwj : IntKind.i64.wrap ((j : Int) + 1 - 1) = (j : Int) := by rw [IntWalk.i64_in _ (by omega)]; omega
       have hwj2 : IntKind.i64.wrap (j : Int) = (j : Int) := IntWalk.i64_in _ (by omega)
       have hsj : (j : Int) + 1 - 1 = (j : Int) := by omega
       have hdj : decide ((0 : Int) < (j : Int) + 1) = true := decide_eq_true (by omega)
       have hixs : ∀ W, (Instr.indexAt 23 (.slice Q.1 Q.2.1 Q.2.2) (.int .i64 ((j : Int) + 1))).run Try.prog W = .ok (.pointer (some ⟨g, o + (j + 1) * 3, none⟩)) W := fun W => by
        have h9 := hix W
        rw [show (((j + 1 : Nat)) : Int) = (j : Int) + 1 by omega] at h9
        exact h9
       clear hix
       have hpz : c.pp[j + 1 + 1 - 1]? = some p := by simpa using hpi
       have hpy : c.pp[j + 1 - 1]? = some pr := by simpa using hpj
       by_cases hle : p.sq ≤ pr.sq
       ·have dle : decide (p.sq ≤ pr.sq) = true := by simpa using hle
        have HF : Hid (bb = false) := Lib.hid (by rw [hq, if_neg (by omega), hpy]; have h9 : decide (pr.sq < p.sq) = false := (by simpa using hle); simp [ppB, hpb, h9])
        clear hq hpb hd hmem hrx hex hS1 hpi hpz hpy hpj hrj hS2 hle h0
        go_wp2_with (first
         | (refine wpList_load_mid rfl 55 (.tmp 96) rfl g (o + (j + 1) * 3) rfl [.int .i64 p.sq, .int .i64 p.vw, .slice B m dd] _ HRx.out Try.underlying55 rfl (by kernel_rfl) ?_))
        try dsimp only [Act.put]
        refine wp_region_held_drew (S := fun W => Below (wr.alloc (.cells #[.int .i64 p.sq, .int .i64 p.vw, .slice B m dd] 55)).heap.size (wr.alloc (.cells #[.int .i64 p.sq, .int .i64 p.vw, .slice B m dd] 55)) W) (by kernel_rfl) (Below.refl _ _).drew (fun hHeld => ?_)
        change wpAnyH _ _ _ _ _ _ #[false, false, false, false, false, false, false, false, false, false, false, false, false, false, false, false, false, false, false, false, false] _ _
        refine tkq (i := 0) (d := 98) (v := (.agg #[.int .i64 p.sq, .int .i64 p.vw, .slice B m dd])) rfl rfl (yieldsIf_load_mid (by kernel_rfl) 55 (.tmp 8) rfl wr.heap.size 0 (by simp [Act.eval]) [.int .i64 p.sq, .int .i64 p.vw, .slice B m dd] _ (fun W hW => rangeAt.through (Blk.whole HBx.out) hW) Try.underlying55 rfl (by kernel_rfl)) (by assumption) ?_
        simp only [Act.put, sq1, sq2, sq3]
        refine tkq (i := 1) (d := 99) (v := (.agg (Ch.cells c P Q R).toArray)) rfl rfl (yieldsIf_load_mid (by kernel_rfl) 25 (.tmp 2) rfl w.heap.size 0 (by simp [Act.eval]) (Ch.cells c P Q R) _ (fun W hW => rangeAt.through (Blk.whole HKv.out) hW) Try.underlying25 rfl (by kernel_rfl)) (by assumption) ?_
        simp only [Act.put, sq1, sq2, sq3]
        refine tkq (i := 2) (d := 100) (v := (.int .i64 n)) rfl rfl (Or.inl ⟨by kernel_rfl, fun w hSw => ?_⟩) (by assumption) ?_
        ·(try dsimp only at hSw); go_simp <;> (try rfl)
        simp only [Act.put, sq1, sq2, sq3]
        refine wpAnyH_ready (rs := [3]) (by kernel_rfl) (by simp) ?_
        refine AllReadyH.cons rfl (fun K hK => ?_) AllReadyH.nil
        go_simp
        refine (HPr.out _ hHeld).mono ?_
        rintro e9 wz ⟨rfl, hbz⟩; have HKz := Lib.hid (below_step hHeld hbz); clear hbz
        go_wp2_with fail
        refine hK.out _ _ HKz.out (fun hHeld1 => ?_)
        clear hHeld hK K
        have hHeld := hHeld1
        clear hHeld1
        refine tkq (i := 4) (d := 102) (v := (.bool false)) rfl rfl (Or.inl ⟨by kernel_rfl, fun w hSw => ?_⟩) (by assumption) ?_
        ·(try dsimp only at hSw); go_simp <;> (try rfl)
        simp only [Act.put, sq1, sq2, sq3]
        refine tkq (i := 5) (d := 103) (v := (.bool false)) rfl rfl (Or.inl ⟨by kernel_rfl, fun w hSw => ?_⟩) (by assumption) ?_
        ·(try dsimp only at hSw); go_simp <;> (try rfl)
        simp only [Act.put, sq1, sq2, sq3]
        refine tkq (i := 6) (d := 104) (v := (.int .i64 ((j : Int) + 1))) rfl rfl (Or.inl ⟨by kernel_rfl, fun w hSw => ?_⟩) (by assumption) ?_
        ·(try dsimp only at hSw); go_simp <;> (try rfl)
        simp only [Act.put, sq1, sq2, sq3]
        refine tkq (i := 7) (d := 105) (v := (.bool true)) rfl rfl (Or.inl ⟨by kernel_rfl, fun w hSw => ?_⟩) (by assumption) ?_
        ·(try dsimp only at hSw); go_simp <;> (try rfl)
        simp only [Act.put, sq1, sq2, sq3]
        refine tkq (i := 8) (d := 106) (v := (.bool true)) rfl rfl (Or.inl ⟨by kernel_rfl, fun w hSw => ?_⟩) (by assumption) ?_
        ·(try dsimp only at hSw); go_simp <;> (try rfl)
        simp only [Act.put, sq1, sq2, sq3]
        refine tkq (i := 9) (d := 107) (v := (.pointer (some ⟨w.heap.size, 3, none⟩))) rfl rfl (Or.inl ⟨by kernel_rfl, fun w hSw => ?_⟩) (by assumption) ?_
        ·(try dsimp only at hSw); go_simp <;> (try rfl)
        simp only [Act.put, sq1, sq2, sq3]
        refine tkq (i := 10) (d := 108) (v := (.slice Q.1 Q.2.1 Q.2.2)) rfl rfl (yields_load_at (by kernel_rfl) 23 (.tmp 107) rfl (.pointer (some ⟨w.heap.size, 3, none⟩)) (by simp [Act.eval]) (.slice Q.1 Q.2.1 Q.2.2) (fun W hW => load_one' (Try.agg_pfs W) ((HKv.out.through hW).cellAt (i := 3) rfl))) (by assumption) ?_
        simp only [Act.put, sq1, sq2, sq3]
        refine tkq (i := 11) (d := 109) (v := (.int .i64 ((j : Int) + 1))) rfl rfl (Or.inl ⟨by kernel_rfl, fun w hSw => ?_⟩) (by assumption) ?_
        ·(try dsimp only at hSw); go_simp <;> (try rfl)
        simp only [Act.put, sq1, sq2, sq3]
        refine tkq (i := 12) (d := 110) (v := (.int .i64 (j : Int))) rfl rfl (Or.inl ⟨by kernel_rfl, fun w hSw => ?_⟩) (by assumption) ?_
        ·(try dsimp only at hSw); go_simp <;> (try rfl)
        simp only [Act.put, sq1, sq2, sq3]
        refine tkq (i := 13) (d := 111) (v := (.pointer (some ⟨g, o + j * 3, none⟩))) rfl rfl (Or.inl ⟨by kernel_rfl, fun w hSw => ?_⟩) (by assumption) ?_
        ·(try dsimp only at hSw); go_simp <;> (try rfl)
        simp only [Act.put, sq1, sq2, sq3]
        refine tkq (i := 14) (d := 112) (v := (.pointer (some ⟨g, o + j * 3, none⟩))) rfl rfl (Or.inl ⟨by kernel_rfl, fun w hSw => ?_⟩) (by assumption) ?_
        ·(try dsimp only at hSw); go_simp <;> (try rfl)
        simp only [Act.put, sq1, sq2, sq3]
        refine tkq (i := 15) (d := 113) (v := (.int .i64 pr.sq)) rfl rfl (yields_load_at (by kernel_rfl) 2 (.tmp 112) rfl (.pointer (some ⟨g, o + j * 3, none⟩)) (by simp [Act.eval]) (.int .i64 pr.sq) (fun W hW => load_one' (Try.agg_i64 W) (rangeAt.through HRj.out hW 0 _ rfl))) (by assumption) ?_
        simp only [Act.put, sq1, sq2, sq3]
        refine tkq (i := 16) (d := 114) (v := (.pointer (some ⟨wr.heap.size, 0, none⟩))) rfl rfl (Or.inl ⟨by kernel_rfl, fun w hSw => ?_⟩) (by assumption) ?_
        ·(try dsimp only at hSw); go_simp <;> (try rfl)
        simp only [Act.put, sq1, sq2, sq3]
        refine tkq (i := 17) (d := 115) (v := (.int .i64 p.sq)) rfl rfl (yields_load_at (by kernel_rfl) 2 (.tmp 114) rfl (.pointer (some ⟨wr.heap.size, 0, none⟩)) (by simp [Act.eval]) (.int .i64 p.sq) (fun W hW => load_one' (Try.agg_i64 W) ((HBx.out.through hW).cellAt (i := 0) rfl))) (by assumption) ?_
        simp only [Act.put, sq1, sq2, sq3]
        refine tkq (i := 18) (d := 116) (v := (.bool true)) rfl rfl (Or.inl ⟨by kernel_rfl, fun w hSw => ?_⟩) (by assumption) ?_
        ·(try dsimp only at hSw); go_simp <;> (try rfl)
        simp only [Act.put, sq1, sq2, sq3]
        refine tkq (i := 19) (d := 117) (v := (.bool true)) rfl rfl (Or.inl ⟨by kernel_rfl, fun w hSw => ?_⟩) (by assumption) ?_
        ·(try dsimp only at hSw); go_simp <;> (try rfl)
        simp only [Act.put, sq1, sq2, sq3]
        refine tkq (i := 20) (d := 118) (v := (.bool true)) rfl rfl (Or.inl ⟨by kernel_rfl, fun w hSw => ?_⟩) (by assumption) ?_
        ·(try dsimp only at hSw); go_simp <;> (try rfl)
        simp only [Act.put, sq1, sq2, sq3]
        refine wpAnyH_done (by kernel_rfl) ?_ _
        have HKk := Lib.hid hHeld
        clear hHeld
        go_wp2
        go_ret
        exact ⟨ret_bo HF.out.symm, below_step HXx.out HKk.out⟩
       ·have dle : decide (p.sq ≤ pr.sq) = false := by simpa using hle
        have HN : Hid (bb = (ppB c.vw c.lw n (if j + 1 + 1 = 0 then none else (c.pp[j + 1 + 1 - 1]?).map (·.sq)) (c.pp.drop (j + 1 + 1)) && pdB c.vw c.lw n none c.pd)) := Lib.hid (by rw [hq, if_neg (by omega), if_neg (by omega), hpy, hpz]; have h9 : decide (pr.sq < p.sq) = true := (by simp; omega); simp [ppB, hpb, h9])
        clear hq hpb hd hmem hrx hex hS1 hpi hpz hpy hpj hrj hS2 hle h0
        go_wp2_with (first
         | (refine wpList_load_mid rfl 55 (.tmp 96) rfl g (o + (j + 1) * 3) rfl [.int .i64 p.sq, .int .i64 p.vw, .slice B m dd] _ HRx.out Try.underlying55 rfl (by kernel_rfl) ?_))
        try dsimp only [Act.put]
        refine wp_region_held_drew (S := fun W => Below (wr.alloc (.cells #[.int .i64 p.sq, .int .i64 p.vw, .slice B m dd] 55)).heap.size (wr.alloc (.cells #[.int .i64 p.sq, .int .i64 p.vw, .slice B m dd] 55)) W) (by kernel_rfl) (Below.refl _ _).drew (fun hHeld => ?_)
        change wpAnyH _ _ _ _ _ _ #[false, false, false, false, false, false, false, false, false, false, false, false, false, false, false, false, false, false, false, false, false] _ _
        refine tkq (i := 0) (d := 98) (v := (.agg #[.int .i64 p.sq, .int .i64 p.vw, .slice B m dd])) rfl rfl (yieldsIf_load_mid (by kernel_rfl) 55 (.tmp 8) rfl wr.heap.size 0 (by simp [Act.eval]) [.int .i64 p.sq, .int .i64 p.vw, .slice B m dd] _ (fun W hW => rangeAt.through (Blk.whole HBx.out) hW) Try.underlying55 rfl (by kernel_rfl)) (by assumption) ?_
        simp only [Act.put, sq1, sq2, sq3]
        refine tkq (i := 1) (d := 99) (v := (.agg (Ch.cells c P Q R).toArray)) rfl rfl (yieldsIf_load_mid (by kernel_rfl) 25 (.tmp 2) rfl w.heap.size 0 (by simp [Act.eval]) (Ch.cells c P Q R) _ (fun W hW => rangeAt.through (Blk.whole HKv.out) hW) Try.underlying25 rfl (by kernel_rfl)) (by assumption) ?_
        simp only [Act.put, sq1, sq2, sq3]
        refine tkq (i := 2) (d := 100) (v := (.int .i64 n)) rfl rfl (Or.inl ⟨by kernel_rfl, fun w hSw => ?_⟩) (by assumption) ?_
        ·(try dsimp only at hSw); go_simp <;> (try rfl)
        simp only [Act.put, sq1, sq2, sq3]
        refine wpAnyH_ready (rs := [3]) (by kernel_rfl) (by simp) ?_
        refine AllReadyH.cons rfl (fun K hK => ?_) AllReadyH.nil
        go_simp
        refine (HPr.out _ hHeld).mono ?_
        rintro e9 wz ⟨rfl, hbz⟩; have HKz := Lib.hid (below_step hHeld hbz); clear hbz
        go_wp2_with fail
        refine hK.out _ _ HKz.out (fun hHeld1 => ?_)
        clear hHeld hK K
        have hHeld := hHeld1
        clear hHeld1
        refine tkq (i := 4) (d := 102) (v := (.bool false)) rfl rfl (Or.inl ⟨by kernel_rfl, fun w hSw => ?_⟩) (by assumption) ?_
        ·(try dsimp only at hSw); go_simp <;> (try rfl)
        simp only [Act.put, sq1, sq2, sq3]
        refine tkq (i := 5) (d := 103) (v := (.bool false)) rfl rfl (Or.inl ⟨by kernel_rfl, fun w hSw => ?_⟩) (by assumption) ?_
        ·(try dsimp only at hSw); go_simp <;> (try rfl)
        simp only [Act.put, sq1, sq2, sq3]
        refine tkq (i := 6) (d := 104) (v := (.int .i64 ((j : Int) + 1))) rfl rfl (Or.inl ⟨by kernel_rfl, fun w hSw => ?_⟩) (by assumption) ?_
        ·(try dsimp only at hSw); go_simp <;> (try rfl)
        simp only [Act.put, sq1, sq2, sq3]
        refine tkq (i := 7) (d := 105) (v := (.bool true)) rfl rfl (Or.inl ⟨by kernel_rfl, fun w hSw => ?_⟩) (by assumption) ?_
        ·(try dsimp only at hSw); go_simp <;> (try rfl)
        simp only [Act.put, sq1, sq2, sq3]
        refine tkq (i := 8) (d := 106) (v := (.bool true)) rfl rfl (Or.inl ⟨by kernel_rfl, fun w hSw => ?_⟩) (by assumption) ?_
        ·(try dsimp only at hSw); go_simp <;> (try rfl)
        simp only [Act.put, sq1, sq2, sq3]
        refine tkq (i := 9) (d := 107) (v := (.pointer (some ⟨w.heap.size, 3, none⟩))) rfl rfl (Or.inl ⟨by kernel_rfl, fun w hSw => ?_⟩) (by assumption) ?_
        ·(try dsimp only at hSw); go_simp <;> (try rfl)
        simp only [Act.put, sq1, sq2, sq3]
        refine tkq (i := 10) (d := 108) (v := (.slice Q.1 Q.2.1 Q.2.2)) rfl rfl (yields_load_at (by kernel_rfl) 23 (.tmp 107) rfl (.pointer (some ⟨w.heap.size, 3, none⟩)) (by simp [Act.eval]) (.slice Q.1 Q.2.1 Q.2.2) (fun W hW => load_one' (Try.agg_pfs W) ((HKv.out.through hW).cellAt (i := 3) rfl))) (by assumption) ?_
        simp only [Act.put, sq1, sq2, sq3]
        refine tkq (i := 11) (d := 109) (v := (.int .i64 ((j : Int) + 1))) rfl rfl (Or.inl ⟨by kernel_rfl, fun w hSw => ?_⟩) (by assumption) ?_
        ·(try dsimp only at hSw); go_simp <;> (try rfl)
        simp only [Act.put, sq1, sq2, sq3]
        refine tkq (i := 12) (d := 110) (v := (.int .i64 (j : Int))) rfl rfl (Or.inl ⟨by kernel_rfl, fun w hSw => ?_⟩) (by assumption) ?_
        ·(try dsimp only at hSw); go_simp <;> (try rfl)
        simp only [Act.put, sq1, sq2, sq3]
        refine tkq (i := 13) (d := 111) (v := (.pointer (some ⟨g, o + j * 3, none⟩))) rfl rfl (Or.inl ⟨by kernel_rfl, fun w hSw => ?_⟩) (by assumption) ?_
        ·(try dsimp only at hSw); go_simp <;> (try rfl)
        simp only [Act.put, sq1, sq2, sq3]
        refine tkq (i := 14) (d := 112) (v := (.pointer (some ⟨g, o + j * 3, none⟩))) rfl rfl (Or.inl ⟨by kernel_rfl, fun w hSw => ?_⟩) (by assumption) ?_
        ·(try dsimp only at hSw); go_simp <;> (try rfl)
        simp only [Act.put, sq1, sq2, sq3]
        refine tkq (i := 15) (d := 113) (v := (.int .i64 pr.sq)) rfl rfl (yields_load_at (by kernel_rfl) 2 (.tmp 112) rfl (.pointer (some ⟨g, o + j * 3, none⟩)) (by simp [Act.eval]) (.int .i64 pr.sq) (fun W hW => load_one' (Try.agg_i64 W) (rangeAt.through HRj.out hW 0 _ rfl))) (by assumption) ?_
        simp only [Act.put, sq1, sq2, sq3]
        refine tkq (i := 16) (d := 114) (v := (.pointer (some ⟨wr.heap.size, 0, none⟩))) rfl rfl (Or.inl ⟨by kernel_rfl, fun w hSw => ?_⟩) (by assumption) ?_
        ·(try dsimp only at hSw); go_simp <;> (try rfl)
        simp only [Act.put, sq1, sq2, sq3]
        refine tkq (i := 17) (d := 115) (v := (.int .i64 p.sq)) rfl rfl (yields_load_at (by kernel_rfl) 2 (.tmp 114) rfl (.pointer (some ⟨wr.heap.size, 0, none⟩)) (by simp [Act.eval]) (.int .i64 p.sq) (fun W hW => load_one' (Try.agg_i64 W) ((HBx.out.through hW).cellAt (i := 0) rfl))) (by assumption) ?_
        simp only [Act.put, sq1, sq2, sq3]
        refine tkq (i := 18) (d := 116) (v := (.bool false)) rfl rfl (Or.inl ⟨by kernel_rfl, fun w hSw => ?_⟩) (by assumption) ?_
        ·(try dsimp only at hSw); go_simp <;> (try rfl)
        simp only [Act.put, sq1, sq2, sq3]
        refine tkq (i := 19) (d := 117) (v := (.bool false)) rfl rfl (Or.inl ⟨by kernel_rfl, fun w hSw => ?_⟩) (by assumption) ?_
        ·(try dsimp only at hSw); go_simp <;> (try rfl)
        simp only [Act.put, sq1, sq2, sq3]
        refine tkq (i := 20) (d := 118) (v := (.bool false)) rfl rfl (Or.inl ⟨by kernel_rfl, fun w hSw => ?_⟩) (by assumption) ?_
        ·(try dsimp only at hSw); go_simp <;> (try rfl)
        simp only [Act.put, sq1, sq2, sq3]
        refine wpAnyH_done (by kernel_rfl) ?_ _
        have HKk := Lib.hid hHeld
        clear hHeld
        go_wp2
        go_roundw
        case rel => exact ⟨j + 1 + 1, by omega, by go_num, HN.out, HKv.out.through HKk.out, below_step HXx.out HKk.out⟩
        case measure => simp [intOf]; omega
    ·have e9 : c.pp.drop ii = [] := List.drop_of_length_le (by have := HLq.out; omega)
     rw [e9] at hq
     have HB3 : Hid (bb = pdB c.vw c.lw n none c.pd) := Lib.hid (by rw [hq]; cases (if ii = 0 then none else (c.pp[ii - 1]?).map (·.sq) : Option Int) <;> simp [ppB])
     have kk4 := HKr.out.cellAt (i := 4) rfl
     clear hq e9
     go_wp2
     clear kk4
     go_loopw [123] (fun iv wr => ∃ ii : Nat, ii ≤ R.2.1 ∧ iv = .int .i64 ii ∧ bb = pdB c.vw c.lw n (if ii = 0 then none else (c.pd[ii - 1]?).map (fun x => (x.sq, x.vw))) (c.pd.drop ii) ∧ Blk wr w.heap.size 25 (Ch.cells c P Q R) ∧ Below w.heap.size w wr) (fun iv _ => R.2.1 - (intOf iv).toNat)
     case atStart => exact ⟨0, Nat.zero_le _, rfl, HB3.out, HKr.out, HXv.out⟩
     case round =>
      obtain ⟨ii, hi, rfl, hq, hkk, hx⟩ := hrel
      have HKr := Lib.hid hkk
      have HXv := Lib.hid hx
      clear hkk hx
      by_cases hlt : ii < R.2.1
      ·obtain ⟨g, o, p, B, m, dd, hS1, hpi, hmem, hd, hrx, hex, _, _⟩ := (HR.out.through HXv.out).at hlt
       rw [hd] at hq
       have HRx := Lib.hid hrx
       have hix : ∀ W, (Instr.indexAt 23 (.slice R.1 R.2.1 R.2.2) (.int .i64 (ii : Int))).run Try.prog W = .ok (.pointer (some ⟨g, o + ii * 3, none⟩)) W := fun W => by rw [hS1]; exact Try.ix_pf W g o R.2.1 R.2.2 ii hlt
       have HBx : Hid (Blk (wr.alloc (.cells #[.int .i64 p.sq, .int .i64 p.vw, .slice B m dd] 55)) wr.heap.size 55 [.int .i64 p.sq, .int .i64 p.vw, .slice B m dd]) := Lib.hid (Blk.fresh rfl rfl)
       have HXx : Hid (Below w.heap.size w (wr.alloc (.cells #[.int .i64 p.sq, .int .i64 p.vw, .slice B m dd] 55))) := Lib.hid (HXv.out.alloc HXv.out.size _)
       have HKv : Hid (Blk (wr.alloc (.cells #[.int .i64 p.sq, .int .i64 p.vw, .slice B m dd] 55)) w.heap.size 25 (Ch.cells c P Q R)) := Lib.hid (HKr.out.alloc _)
       obtain ⟨pb, hpb⟩ : ∃ b, prfB c.vw c.lw n p = b := ⟨_, rfl⟩
       have HPr : Hid (∀ W : World, Below (wr.alloc (.cells #[.int .i64 p.sq, .int .i64 p.vw, .slice B m dd] 55)).heap.size (wr.alloc (.cells #[.int .i64 p.sq, .int .i64 p.vw, .slice B m dd] 55)) W → Calls Try.prog 66 #[.agg #[.int .i64 p.sq, .int .i64 p.vw, .slice B m dd], .agg (Ch.cells c P Q R).toArray, .int .i64 n] W fun e w' => e = .returned (.bool pb) ∧ Below W.heap.size W w') := Lib.hid (fun W hW => hpb ▸ rproof_any p B m dd c P Q R n W ((hex.through (below1_ wr _)).through hW) HLw.out (HLlR.out p hmem))
       have HLt := Lib.hid hlt
       cases pb with
       | false =>
        have HF : Hid (bb = false) := Lib.hid (by rw [hq]; simp [pdB, hpb])
        clear hq hpb hd hmem hrx hex hS1 hpi
        go_wp2_with (first
         | (refine wpList_load_mid rfl 55 (.tmp 126) rfl g (o + ii * 3) rfl [.int .i64 p.sq, .int .i64 p.vw, .slice B m dd] _ HRx.out Try.underlying55 rfl (by kernel_rfl) ?_)
         | (refine wpList_load_blk rfl 55 (.tmp 10) rfl wr.heap.size rfl 55 [.int .i64 p.sq, .int .i64 p.vw, .slice B m dd] _ HBx.out Try.underlying55 rfl (by kernel_rfl) ?_)
         | (refine wpList_load_blk rfl 25 (.tmp 2) rfl w.heap.size rfl 25 (Ch.cells c P Q R) _ HKv.out Try.underlying25 rfl (by kernel_rfl) ?_)
         | (go_at_call 66; (with_reducible refine (HPr.out _ (Below.refl _ _)).mono ?_); rintro e9 wz ⟨rfl, hbz⟩; have HJz := Lib.hid hbz; have HKz := Lib.hid (HKv.out.through hbz); have HXz := Lib.hid (below_step HXx.out hbz); clear hbz))
        go_ret
        exact ⟨ret_bo HF.out.symm, HXz.out⟩
       | true =>
        by_cases h0 : ii = 0
        case pos =>
         have hdz : decide ((0 : Int) < (ii : Int)) = false := decide_eq_false (by omega)
         have hdz2 : decide (0 < ii) = false := decide_eq_false (by omega)
         have hpz : c.pd[ii + 1 - 1]? = some p := by simpa using hpi
         have HN : Hid (bb = pdB c.vw c.lw n (if ii + 1 = 0 then none else (c.pd[ii + 1 - 1]?).map (fun x => (x.sq, x.vw))) (c.pd.drop (ii + 1))) := Lib.hid (by rw [hq, if_pos h0, if_neg (by omega), hpz]; simp [pdB, hpb])
         clear hq hpb hd hmem hrx hex hS1 hpi hpz h0
         go_wp2_with (first
          | (refine wpList_load_mid rfl 55 (.tmp 126) rfl g (o + ii * 3) rfl [.int .i64 p.sq, .int .i64 p.vw, .slice B m dd] _ HRx.out Try.underlying55 rfl (by kernel_rfl) ?_)
          | (refine wpList_load_blk rfl 55 (.tmp 10) rfl wr.heap.size rfl 55 [.int .i64 p.sq, .int .i64 p.vw, .slice B m dd] _ HBx.out Try.underlying55 rfl (by kernel_rfl) ?_)
          | (refine wpList_load_blk rfl 25 (.tmp 2) rfl w.heap.size rfl 25 (Ch.cells c P Q R) _ HKv.out Try.underlying25 rfl (by kernel_rfl) ?_)
          | (go_at_call 66; (with_reducible refine (HPr.out _ (Below.refl _ _)).mono ?_); rintro e9 wz ⟨rfl, hbz⟩; have HJz := Lib.hid hbz; have HKz := Lib.hid (HKv.out.through hbz); have HXz := Lib.hid (below_step HXx.out hbz); clear hbz))
         go_roundw
         case rel => exact ⟨ii + 1, by omega, by go_num, HN.out, HKz.out, HXz.out⟩
         case measure => simp [intOf]; omega
        case neg =>
         obtain ⟨j, rfl⟩ : ∃ j, ii = j + 1 := ⟨ii - 1, by omega⟩
         obtain ⟨g2, o2, pr, Bj, mj, ej, hS2, hpj, _, _, hrj, _, _, _⟩ := (HR.out.through HXv.out).at (show j < R.2.1 by omega)
         rw [hS1] at hS2
         obtain ⟨rfl, rfl⟩ : g = g2 ∧ o = o2 := by injection hS2 with e; injection e with e1 e2; exact ⟨e1, e2⟩
         have HRj := Lib.hid (rangeAt.through hrj (below1_ wr (.cells #[.int .i64 p.sq, .int .i64 p.vw, .slice B m dd] 55)))
         have hij : ∀ W, (Instr.indexAt 23 (.slice R.1 R.2.1 R.2.2) (.int .i64 (j : Int))).run Try.prog W = .ok (.pointer (some ⟨g, o + j * 3, none⟩)) W := fun W => by rw [hS1]; exact Try.ix_pf W g o R.2.1 R.2.2 j (by omega)
         have hwj : IntKind.i64.wrap ((j : Int) + 1 - 1) = (j : Int) := by rw [IntWalk.i64_in _ (by omega)]; omega
         have hwj2 : IntKind.i64.wrap (j : Int) = (j : Int) := IntWalk.i64_in _ (by omega)
         have hsj : (j : Int) + 1 - 1 = (j : Int) := by omega
         have hdj : decide ((0 : Int) < (j : Int) + 1) = true := decide_eq_true (by omega)
         have hixs : ∀ W, (Instr.indexAt 23 (.slice R.1 R.2.1 R.2.2) (.int .i64 ((j : Int) + 1))).run Try.prog W = .ok (.pointer (some ⟨g, o + (j + 1) * 3, none⟩)) W := fun W => by
          have h9 := hix W
          rw [show (((j + 1 : Nat)) : Int) = (j : Int) + 1 by omega] at h9
          exact h9
         clear hix
         have hpz : c.pd[j + 1 + 1 - 1]? = some p := by simpa using hpi
         have hpy : c.pd[j + 1 - 1]? = some pr := by simpa using hpj
         rw [if_neg (by omega), hpy] at hq
         by_cases hlt2 : p.sq < pr.sq
         case pos =>
          have dlt : decide (p.sq < pr.sq) = true := by simpa using hlt2
          have HF : Hid (bb = false) := Lib.hid (by rw [hq]; have h9 : decide (pr.sq < p.sq) = false := (by simp; omega); have h8 : decide (pr.sq = p.sq) = false := (by simp; omega); simp [pdB, hpb, h9, h8])
          clear hq hpb hd hmem hrx hex hS1 hpi hpz hpy hpj hrj hS2 hlt2 h0
          go_wp2_with (first
           | go_big_skip
           | (refine wpList_load_mid rfl 55 (.tmp 126) rfl g (o + (j + 1) * 3) rfl [.int .i64 p.sq, .int .i64 p.vw, .slice B m dd] _ HRx.out Try.underlying55 rfl (by kernel_rfl) ?_)
           | (refine wpList_load_blk rfl 55 (.tmp 10) rfl wr.heap.size rfl 55 [.int .i64 p.sq, .int .i64 p.vw, .slice B m dd] _ HBx.out Try.underlying55 rfl (by kernel_rfl) ?_)
           | (refine wpList_load_blk rfl 25 (.tmp 2) rfl w.heap.size rfl 25 (Ch.cells c P Q R) _ HKv.out Try.underlying25 rfl (by kernel_rfl) ?_)
           | (go_at_call 66; (with_reducible refine (HPr.out _ (Below.refl _ _)).mono ?_); rintro e9 wz ⟨rfl, hbz⟩; have HJz := Lib.hid hbz; have HKz := Lib.hid (HKv.out.through hbz); have HXz := Lib.hid (below_step HXx.out hbz); have kz4 := HKz.out.cellAt (i := 4) rfl; have HBz := Lib.hid (HBx.out.through hbz); clear hbz)
           | (refine wpList_load_mid rfl 55 (.tmp 139) rfl g (o + j * 3) rfl [.int .i64 pr.sq, .int .i64 pr.vw, .slice Bj mj ej] _ (rangeAt.through HRj.out HJz.out) Try.underlying55 rfl (by kernel_rfl) ?_)
           | (refine wpList_store_blk rfl 55 (.tmp 11) (.tmp 140) rfl wz.heap.size [.int .i64 pr.sq, .int .i64 pr.vw, .slice Bj mj ej] rfl rfl 55 [.int .i64 0, .int .i64 0, .slice none 0 0] (Blk.fresh rfl rfl) (by kernel_rfl) rfl (one3q _ _ _ _ _) ?_; intro wq hbq hgq; clear kz4; have HXy := Lib.hid (below_step HXz.out (below_new hgq)); have HKy := Lib.hid (HKz.out.through (below_new hgq)); have HBy := Lib.hid (HBz.out.through (below_new hgq)); have z0 := HBy.out.cellAt (i := 0) rfl; have z1 := HBy.out.cellAt (i := 1) rfl; have y0 := hbq.cellAt (i := 0) rfl; have y1 := hbq.cellAt (i := 1) rfl; clear hbq hgq))
          go_ret
          exact ⟨ret_bo HF.out.symm, HXy.out⟩
         have dlt : decide (p.sq < pr.sq) = false := by simpa using hlt2
         by_cases heq : pr.sq = p.sq
         case neg =>
          have deq : (pr.sq == p.sq) = false := by simpa using heq
          have HN : Hid (bb = pdB c.vw c.lw n (if j + 1 + 1 = 0 then none else (c.pd[j + 1 + 1 - 1]?).map (fun x => (x.sq, x.vw))) (c.pd.drop (j + 1 + 1))) := Lib.hid (by rw [hq, if_neg (by omega), hpz]; have h9 : decide (pr.sq < p.sq) = true := (by simp; omega); simp [pdB, hpb, h9])
          clear hq hpb hd hmem hrx hex hS1 hpi hpz hpy hpj hrj hS2 hlt2 heq h0
          go_wp2_with (first
           | go_big_skip
           | (refine wpList_load_mid rfl 55 (.tmp 126) rfl g (o + (j + 1) * 3) rfl [.int .i64 p.sq, .int .i64 p.vw, .slice B m dd] _ HRx.out Try.underlying55 rfl (by kernel_rfl) ?_)
           | (refine wpList_load_blk rfl 55 (.tmp 10) rfl wr.heap.size rfl 55 [.int .i64 p.sq, .int .i64 p.vw, .slice B m dd] _ HBx.out Try.underlying55 rfl (by kernel_rfl) ?_)
           | (refine wpList_load_blk rfl 25 (.tmp 2) rfl w.heap.size rfl 25 (Ch.cells c P Q R) _ HKv.out Try.underlying25 rfl (by kernel_rfl) ?_)
           | (go_at_call 66; (with_reducible refine (HPr.out _ (Below.refl _ _)).mono ?_); rintro e9 wz ⟨rfl, hbz⟩; have HJz := Lib.hid hbz; have HKz := Lib.hid (HKv.out.through hbz); have HXz := Lib.hid (below_step HXx.out hbz); have kz4 := HKz.out.cellAt (i := 4) rfl; have HBz := Lib.hid (HBx.out.through hbz); clear hbz)
           | (refine wpList_load_mid rfl 55 (.tmp 139) rfl g (o + j * 3) rfl [.int .i64 pr.sq, .int .i64 pr.vw, .slice Bj mj ej] _ (rangeAt.through HRj.out HJz.out) Try.underlying55 rfl (by kernel_rfl) ?_)
           | (refine wpList_store_blk rfl 55 (.tmp 11) (.tmp 140) rfl wz.heap.size [.int .i64 pr.sq, .int .i64 pr.vw, .slice Bj mj ej] rfl rfl 55 [.int .i64 0, .int .i64 0, .slice none 0 0] (Blk.fresh rfl rfl) (by kernel_rfl) rfl (one3q _ _ _ _ _) ?_; intro wq hbq hgq; clear kz4; have HXy := Lib.hid (below_step HXz.out (below_new hgq)); have HKy := Lib.hid (HKz.out.through (below_new hgq)); have HBy := Lib.hid (HBz.out.through (below_new hgq)); have z0 := HBy.out.cellAt (i := 0) rfl; have z1 := HBy.out.cellAt (i := 1) rfl; have y0 := hbq.cellAt (i := 0) rfl; have y1 := hbq.cellAt (i := 1) rfl; clear hbq hgq))
          go_roundw
          case rel => exact ⟨j + 1 + 1, by omega, by go_num, HN.out, HKy.out, HXy.out⟩
          case measure => simp [intOf]; omega
         have deq : (pr.sq == p.sq) = true := by simpa using heq
         by_cases hve : p.vw ≤ pr.vw
         case pos =>
          have dve : decide (p.vw ≤ pr.vw) = true := by simpa using hve
          have HF : Hid (bb = false) := Lib.hid (by rw [hq]; have h9 : decide (pr.sq < p.sq) = false := (by simp; omega); have h8 : decide (pr.vw < p.vw) = false := (by simpa using hve); simp [pdB, hpb, h9, h8])
          clear hq hpb hd hmem hrx hex hS1 hpi hpz hpy hpj hrj hS2 hlt2 heq hve h0
          go_wp2_with (first
           | go_big_skip
           | (refine wpList_load_mid rfl 55 (.tmp 126) rfl g (o + (j + 1) * 3) rfl [.int .i64 p.sq, .int .i64 p.vw, .slice B m dd] _ HRx.out Try.underlying55 rfl (by kernel_rfl) ?_)
           | (refine wpList_load_blk rfl 55 (.tmp 10) rfl wr.heap.size rfl 55 [.int .i64 p.sq, .int .i64 p.vw, .slice B m dd] _ HBx.out Try.underlying55 rfl (by kernel_rfl) ?_)
           | (refine wpList_load_blk rfl 25 (.tmp 2) rfl w.heap.size rfl 25 (Ch.cells c P Q R) _ HKv.out Try.underlying25 rfl (by kernel_rfl) ?_)
           | (go_at_call 66; (with_reducible refine (HPr.out _ (Below.refl _ _)).mono ?_); rintro e9 wz ⟨rfl, hbz⟩; have HJz := Lib.hid hbz; have HKz := Lib.hid (HKv.out.through hbz); have HXz := Lib.hid (below_step HXx.out hbz); have kz4 := HKz.out.cellAt (i := 4) rfl; have HBz := Lib.hid (HBx.out.through hbz); clear hbz)
           | (refine wpList_load_mid rfl 55 (.tmp 139) rfl g (o + j * 3) rfl [.int .i64 pr.sq, .int .i64 pr.vw, .slice Bj mj ej] _ (rangeAt.through HRj.out HJz.out) Try.underlying55 rfl (by kernel_rfl) ?_)
           | (refine wpList_store_blk rfl 55 (.tmp 11) (.tmp 140) rfl wz.heap.size [.int .i64 pr.sq, .int .i64 pr.vw, .slice Bj mj ej] rfl rfl 55 [.int .i64 0, .int .i64 0, .slice none 0 0] (Blk.fresh rfl rfl) (by kernel_rfl) rfl (one3q _ _ _ _ _) ?_; intro wq hbq hgq; clear kz4; have HXy := Lib.hid (below_step HXz.out (below_new hgq)); have HKy := Lib.hid (HKz.out.through (below_new hgq)); have HBy := Lib.hid (HBz.out.through (below_new hgq)); have z0 := HBy.out.cellAt (i := 0) rfl; have z1 := HBy.out.cellAt (i := 1) rfl; have y0 := hbq.cellAt (i := 0) rfl; have y1 := hbq.cellAt (i := 1) rfl; clear hbq hgq))
          go_ret
          exact ⟨ret_bo HF.out.symm, HXy.out⟩
         case neg =>
          have dve : decide (p.vw ≤ pr.vw) = false := by simpa using hve
          have HN : Hid (bb = pdB c.vw c.lw n (if j + 1 + 1 = 0 then none else (c.pd[j + 1 + 1 - 1]?).map (fun x => (x.sq, x.vw))) (c.pd.drop (j + 1 + 1))) := Lib.hid (by rw [hq, if_neg (by omega), hpz]; have h8 : decide (pr.vw < p.vw) = true := (by simp; omega); simp [pdB, hpb, heq, h8])
          clear hq hpb hd hmem hrx hex hS1 hpi hpz hpy hpj hrj hS2 hlt2 heq hve h0
          go_wp2_with (first
           | go_big_skip
           | (refine wpList_load_mid rfl 55 (.tmp 126) rfl g (o + (j + 1) * 3) rfl [.int .i64 p.sq, .int .i64 p.vw, .slice B m dd] _ HRx.out Try.underlying55 rfl (by kernel_rfl) ?_)
           | (refine wpList_load_blk rfl 55 (.tmp 10) rfl wr.heap.size rfl 55 [.int .i64 p.sq, .int .i64 p.vw, .slice B m dd] _ HBx.out Try.underlying55 rfl (by kernel_rfl) ?_)
           | (refine wpList_load_blk rfl 25 (.tmp 2) rfl w.heap.size rfl 25 (Ch.cells c P Q R) _ HKv.out Try.underlying25 rfl (by kernel_rfl) ?_)
           | (go_at_call 66; (with_reducible refine (HPr.out _ (Below.refl _ _)).mono ?_); rintro e9 wz ⟨rfl, hbz⟩; have HJz := Lib.hid hbz; have HKz := Lib.hid (HKv.out.through hbz); have HXz := Lib.hid (below_step HXx.out hbz); have kz4 := HKz.out.cellAt (i := 4) rfl; have HBz := Lib.hid (HBx.out.through hbz); clear hbz)
           | (refine wpList_load_mid rfl 55 (.tmp 139) rfl g (o + j * 3) rfl [.int .i64 pr.sq, .int .i64 pr.vw, .slice Bj mj ej] _ (rangeAt.through HRj.out HJz.out) Try.underlying55 rfl (by kernel_rfl) ?_)
           | (refine wpList_store_blk rfl 55 (.tmp 11) (.tmp 140) rfl wz.heap.size [.int .i64 pr.sq, .int .i64 pr.vw, .slice Bj mj ej] rfl rfl 55 [.int .i64 0, .int .i64 0, .slice none 0 0] (Blk.fresh rfl rfl) (by kernel_rfl) rfl (one3q _ _ _ _ _) ?_; intro wq hbq hgq; clear kz4; have HXy := Lib.hid (below_step HXz.out (below_new hgq)); have HKy := Lib.hid (HKz.out.through (below_new hgq)); have HBy := Lib.hid (HBz.out.through (below_new hgq)); have z0 := HBy.out.cellAt (i := 0) rfl; have z1 := HBy.out.cellAt (i := 1) rfl; have y0 := hbq.cellAt (i := 0) rfl; have y1 := hbq.cellAt (i := 1) rfl; clear hbq hgq))
          go_roundw
          case rel => exact ⟨j + 1 + 1, by omega, by go_num, HN.out, HKy.out, HXy.out⟩
          case measure => simp [intOf]; omega
      ·have e9 : c.pd.drop ii = [] := List.drop_of_length_le (by have := HLr.out; omega)
       rw [e9] at hq
       have HF : Hid (bb = true) := Lib.hid (by rw [hq]; cases (if ii = 0 then none else (c.pd[ii - 1]?).map (fun x => (x.sq, x.vw)) : Option (Int × Int)) <;> simp [pdB])
       clear hq e9
       go_wp2
       go_ret
       exact ⟨ret_bo HF.out.symm, HXv.out⟩

end Go.Proofs.Ytheecifgbkdecaa
