/-
  NlW
-/
import Derived.BigGuard
import Derived.Test.YtheecifgbkdecaaSN29
namespace Go.Proofs.Ytheecifgbkdecaa
open Go.RowKit

set_option maxHeartbeats 64000000 in
set_option maxRecDepth 100000 in
theorem few19_any (l : List Sg) (A : Option Addr) (kk cc : Nat) (w : World) (h : SgsIn w A kk l) (hkc : kk ≤ cc) (hcm : cc ≤ maxLen) :
  Calls Try.prog 22 #[.slice A kk cc] w fun e w' => e = .returned (.bool (fewNv l)) ∧ Below w.heap.size w w' := by
 obtain ⟨bb, hbb⟩ : ∃ b, fewNv l = b := ⟨_, rfl⟩
 rw [hbb]
 have HPl := Lib.hid h
 have HLk := Lib.hid h.len
 have hkm : kk ≤ 9223372036854775807 := by simp only [maxLen] at hcm; omega
 obtain ⟨dk, hdk⟩ : ∃ d, decide (l.length ≤ 10) = d := ⟨_, rfl⟩
 have HD := Lib.hid hdk
 have HB0 : Hid (bb = ((l.drop 0).all (fun s => fewCh s.ch) && dk)) := Lib.hid (by rw [← hbb, ← hdk]; unfold fewNv; simp)
 have HX0 : Hid (Below w.heap.size w w) := Lib.hid (Below.refl _ _)
 clear h hbb hdk hkc hcm
 go_enter Try.func22, Try.ntmps22
 go_wp2
 go_loopw [13] (fun zv wr => ∃ z : Nat, z ≤ kk ∧ zv = .int .i64 (z : Int) ∧ bb = ((l.drop z).all (fun s => fewCh s.ch) && dk) ∧ Below w.heap.size w wr) (fun zv _ => kk - (intOf zv).toNat)
 case atStart => exact ⟨0, Nat.zero_le _, rfl, HB0.out, HX0.out⟩
 case round =>
  obtain ⟨z, hz, rfl, hq, hx⟩ := hrel
  have HXr0 := Lib.hid hx
  clear hx
  obtain ⟨wo, hwo⟩ : ∃ wo, wo = wr := ⟨_, rfl⟩
  subst hwo
  by_cases hltz : z < kk
  ·obtain ⟨g, o, s, P, Q, R, hA, _, _, hd, hrz, h⟩ := HPl.out.at hltz
   rw [hd] at hq
   have HRz := Lib.hid (rangeAt.through hrz HXr0.out)
   have hixz : ∀ W, (Instr.indexAt 42 (.slice A kk cc) (.int .i64 (z : Int))).run Try.prog W = .ok (.pointer (some ⟨g, o + z * 6, none⟩)) W := fun W => by rw [hA]; exact Try.ix_sg W g o kk cc z hltz
   obtain ⟨VV, hVV⟩ : ∃ T, ((l.drop (z + 1)).all (fun s => fewCh s.ch) && dk) = T := ⟨_, rfl⟩
   have HVv := Lib.hid hVV
   obtain ⟨TZ, hTZ⟩ : ∃ T, (decide (P.2.1 ≤ 20) && VV) = T := ⟨_, rfl⟩
   have HTz := Lib.hid hTZ
   have HB1 : Hid (bb = (fewRs ((rowsOf s.ch Q R).drop 0) && TZ)) := Lib.hid (by rw [hq, ← hTZ, ← hVV, ← h.1.1.len]; unfold fewRs rowsOf; simp [fewCh, Bool.and_assoc])
   have HK : Hid (Blk (wo.alloc (.cells #[.int .i64 s.fr, .int .i64 s.ch.vw, .int .i64 s.ch.lw, .slice P.1 P.2.1 P.2.2, .slice Q.1 Q.2.1 Q.2.2, .slice R.1 R.2.1 R.2.2] 106)) wo.heap.size 106 [.int .i64 s.fr, .int .i64 s.ch.vw, .int .i64 s.ch.lw, .slice P.1 P.2.1 P.2.2, .slice Q.1 Q.2.1 Q.2.2, .slice R.1 R.2.1 R.2.2]) := Lib.hid (Blk.fresh rfl rfl)
   have HXo : Hid (Below w.heap.size w (wo.alloc (.cells #[.int .i64 s.fr, .int .i64 s.ch.vw, .int .i64 s.ch.lw, .slice P.1 P.2.1 P.2.2, .slice Q.1 Q.2.1 Q.2.2, .slice R.1 R.2.1 R.2.2] 106))) := Lib.hid (HXr0.out.alloc HXr0.out.size _)
   have HRow : Hid (∀ x ∈ rowsOf s.ch Q R, PfsIn w x.1.1 x.1.2.1 x.2) := Lib.hid (fun x hx => by
    unfold rowsOf at hx
    simp only [List.mem_cons, List.not_mem_nil, or_false] at hx
    rcases hx with rfl | rfl
    ·exact h.2.1.1
    ·exact h.2.2.1)
   have HMx : Hid (∀ x ∈ rowsOf s.ch Q R, x.1.2.1 ≤ 9223372036854775807) := Lib.hid (fun x hx => by
    unfold rowsOf at hx
    simp only [List.mem_cons, List.not_mem_nil, or_false] at hx
    rcases hx with rfl | rfl
    ·have h9 := h.2.1.2; simp only [maxLen] at h9; simp only; omega
    ·have h9 := h.2.2.2; simp only [maxLen] at h9; simp only; omega)
   have HEs : Hid (∀ x ∈ rowsOf s.ch Q R, ∀ p ∈ x.2, p.es.length ≤ 9223372036854775807) := Lib.hid (fun x hx => (HRow.out x hx).es_len)
   have k4 := HK.out.cellAt (i := 4) rfl
   have k5 := HK.out.cellAt (i := 5) rfl
   have Hltz := Lib.hid hltz
   clear h hq hd hrz hA hVV hTZ
   go_wp2_with (first
    | (refine wpList_load_mid rfl 106 (.tmp 15) rfl g (o + z * 6) rfl [.int .i64 s.fr, .int .i64 s.ch.vw, .int .i64 s.ch.lw, .slice P.1 P.2.1 P.2.2, .slice Q.1 Q.2.1 Q.2.2, .slice R.1 R.2.1 R.2.2] _ HRz.out Try.underlying106 rfl (by kernel_rfl) ?_)
    | (refine wpList_build_two rfl 56 23 (.tmp 19) (.tmp 22) rfl (.slice Q.1 Q.2.1 Q.2.2) (.slice R.1 R.2.1 R.2.2) [.slice Q.1 Q.2.1 Q.2.2, .slice R.1 R.2.1 R.2.2] rfl rfl (Try.run_bpfs2 _ _ _ _ _ _ _) ?_; intro gS w1 hbS hb1; have HS1 := Lib.hid hbS; have HK1 := Lib.hid (HK.out.through hb1); have HX1 := Lib.hid (below_step HXo.out hb1); clear hbS hb1))
   clear k4 k5 hixz
   go_loopw [25] (fun iv wr => ∃ i : Nat, i ≤ 2 ∧ iv = .int .i64 (i : Int) ∧ bb = (fewRs ((rowsOf s.ch Q R).drop i) && TZ) ∧ Blk wr wo.heap.size 106 [.int .i64 s.fr, .int .i64 s.ch.vw, .int .i64 s.ch.lw, .slice P.1 P.2.1 P.2.2, .slice Q.1 Q.2.1 Q.2.2, .slice R.1 R.2.1 R.2.2] ∧ Blk wr gS 23 [.slice Q.1 Q.2.1 Q.2.2, .slice R.1 R.2.1 R.2.2] ∧ Below w.heap.size w wr) (fun iv _ => 2 - (intOf iv).toNat)
   case atStart => exact ⟨0, by omega, rfl, HB1.out, HK1.out, HS1.out, HX1.out⟩
   case round =>
    obtain ⟨i, hi, rfl, hq, hkk, hss, hx⟩ := hrel
    have HKr := Lib.hid hkk
    have HSr := Lib.hid hss
    have HXr := Lib.hid hx
    clear hkk hss hx
    by_cases hlt : i < 2
    ·have dl2 : decide ((i : Int) < 2) = true := by simp; omega
     obtain ⟨S, ps, hmem, hrow, hix, hcell⟩ : ∃ (S : Pl) (ps : List Pf), (S, ps) ∈ rowsOf s.ch Q R ∧ (rowsOf s.ch Q R).drop i = (S, ps) :: (rowsOf s.ch Q R).drop (i + 1) ∧ (∀ W : World, (Instr.indexAt 56 (.slice (some ⟨gS, 0, none⟩) 2 2) (.int .i64 (i : Int))).run Try.prog W = .ok (.pointer (some ⟨gS, i, none⟩)) W) ∧ wr.cell? ⟨gS, i, none⟩ = some (.slice S.1 S.2.1 S.2.2) := by
      match i, hlt with
      | 0, _ => exact ⟨Q, s.ch.pp, by simp [rowsOf], rfl, fun W => Try.ix_pfss0 W gS, HSr.out.cellAt (i := 0) rfl⟩
      | 1, _ => exact ⟨R, s.ch.pd, by simp [rowsOf], rfl, fun W => Try.ix_pfss1 W gS, HSr.out.cellAt (i := 1) rfl⟩
     have HPs := Lib.hid (HRow.out _ hmem)
     have hsm : S.2.1 ≤ 9223372036854775807 := HMx.out _ hmem
     have HEp := Lib.hid (HEs.out _ hmem)
     have HLn : Hid (ps.length = S.2.1) := Lib.hid HPs.out.len
     rw [hrow] at hq
     have hq2 : bb = (fewPs ps && (fewRs ((rowsOf s.ch Q R).drop (i + 1)) && TZ)) := by rw [hq]; simp [fewRs, Bool.and_assoc]
     have Hlt := Lib.hid hlt
     clear hq hrow hmem
     by_cases s8 : 80 < S.2.1
     ·have d8 : decide ((80 : Int) < (S.2.1 : Int)) = true := by simp; omega
      have HF : Hid (bb = false) := Lib.hid (by rw [hq2]; have h9 : decide (ps.length ≤ 80) = false := (by rw [HLn.out]; simpa using s8); simp [fewPs, h9])
      clear hq2 s8 hlt
      go_wp2
      go_ret
      exact ⟨ret_bo HF.out.symm, HXr.out⟩
     have d8 : decide ((80 : Int) < (S.2.1 : Int)) = false := by simp; omega
     obtain ⟨TT, hTT⟩ : ∃ T, (fewRs ((rowsOf s.ch Q R).drop (i + 1)) && TZ) = T := ⟨_, rfl⟩
     have HT := Lib.hid hTT
     rw [hTT] at hq2
     have HQ2 : Hid (bb = ((ps.drop 0).all fewP && TT)) := Lib.hid (by rw [hq2]; have h9 : decide (ps.length ≤ 80) = true := (by rw [HLn.out]; simp; omega); simp [fewPs, h9])
     clear hq2 hTT s8 hlt
     go_wp2
     clear hcell hix d8 dl2
     go_loopw [34] (fun jv wr => ∃ j : Nat, j ≤ S.2.1 ∧ jv = .int .i64 (j : Int) ∧ bb = ((ps.drop j).all fewP && TT) ∧ Blk wr wo.heap.size 106 [.int .i64 s.fr, .int .i64 s.ch.vw, .int .i64 s.ch.lw, .slice P.1 P.2.1 P.2.2, .slice Q.1 Q.2.1 Q.2.2, .slice R.1 R.2.1 R.2.2] ∧ Blk wr gS 23 [.slice Q.1 Q.2.1 Q.2.2, .slice R.1 R.2.1 R.2.2] ∧ Below w.heap.size w wr) (fun jv _ => S.2.1 - (intOf jv).toNat)
     case atStart => exact ⟨0, Nat.zero_le _, rfl, HQ2.out, HKr.out, HSr.out, HXr.out⟩
     case round =>
      obtain ⟨j, hj, rfl, hq, hkk, hss, hx⟩ := hrel
      have HKs := Lib.hid hkk
      have HSs := Lib.hid hss
      have HXs := Lib.hid hx
      clear hkk hss hx
      by_cases hltj : j < S.2.1
      ·obtain ⟨g, o, p, B, m, dd, hS1, hpj, hpm, hd, hrx, hex, hmd, hdm⟩ := (HPs.out.through HXs.out).at hltj
       rw [hd] at hq
       have HRx := Lib.hid hrx
       have HEx := Lib.hid hex
       have hix : ∀ W, (Instr.indexAt 23 (.slice S.1 S.2.1 S.2.2) (.int .i64 (j : Int))).run Try.prog W = .ok (.pointer (some ⟨g, o + j * 3, none⟩)) W := fun W => by rw [hS1]; exact Try.ix_pf W g o S.2.1 S.2.2 j hltj
       have HBx : Hid (Blk (wr.alloc (.cells #[.int .i64 p.sq, .int .i64 p.vw, .slice B m dd] 55)) wr.heap.size 55 [.int .i64 p.sq, .int .i64 p.vw, .slice B m dd]) := Lib.hid (Blk.fresh rfl rfl)
       have b2 := HBx.out.cellAt (i := 2) rfl
       have HLm : Hid (p.es.length = m) := Lib.hid hex.len
       have hmx : m ≤ 9223372036854775807 := by rw [← hex.len]; exact HEp.out p hpm
       have HXa : Hid (Below w.heap.size w (wr.alloc (.cells #[.int .i64 p.sq, .int .i64 p.vw, .slice B m dd] 55))) := Lib.hid (HXs.out.alloc HXs.out.size _)
       have HKa : Hid (Blk (wr.alloc (.cells #[.int .i64 p.sq, .int .i64 p.vw, .slice B m dd] 55)) wo.heap.size 106 [.int .i64 s.fr, .int .i64 s.ch.vw, .int .i64 s.ch.lw, .slice P.1 P.2.1 P.2.2, .slice Q.1 Q.2.1 Q.2.2, .slice R.1 R.2.1 R.2.2]) := Lib.hid (HKs.out.alloc _)
       have HSa : Hid (Blk (wr.alloc (.cells #[.int .i64 p.sq, .int .i64 p.vw, .slice B m dd] 55)) gS 23 [.slice Q.1 Q.2.1 Q.2.2, .slice R.1 R.2.1 R.2.2]) := Lib.hid (HSs.out.alloc _)
       have HEa : Hid (EysIn (wr.alloc (.cells #[.int .i64 p.sq, .int .i64 p.vw, .slice B m dd] 55)) B m p.es) := Lib.hid (HEx.out.through (below1_ wr _))
       have hq2 : bb = (fewP p && ((ps.drop (j + 1)).all fewP && TT)) := by rw [hq]; simp [Bool.and_assoc]
       have Hltj := Lib.hid hltj
       clear hq hd hrx hex hpj hpm hS1 hmd hdm
       by_cases s10 : 10 < m
       ·have d10 : decide ((10 : Int) < (m : Int)) = true := by simp; omega
        have HF : Hid (bb = false) := Lib.hid (by rw [hq2]; have h9 : decide (p.es.length ≤ 10) = false := (by rw [HLm.out]; simpa using s10); simp [fewP, h9])
        clear hq2 s10 hltj
        go_wp2_with (first
         | (refine wpList_load_mid rfl 55 (.tmp 36) rfl g (o + j * 3) rfl [.int .i64 p.sq, .int .i64 p.vw, .slice B m dd] _ HRx.out Try.underlying55 rfl (by kernel_rfl) ?_))
        go_ret
        exact ⟨ret_bo HF.out.symm, HXa.out⟩
       have d10 : decide ((10 : Int) < (m : Int)) = false := by simp; omega
       obtain ⟨UU, hUU⟩ : ∃ U, ((ps.drop (j + 1)).all fewP && TT) = U := ⟨_, rfl⟩
       have HU := Lib.hid hUU
       rw [hUU] at hq2
       have HQ3 : Hid (bb = ((p.es.drop 0).all fewE && UU)) := Lib.hid (by rw [hq2]; have h9 : decide (p.es.length ≤ 10) = true := (by rw [HLm.out]; simp; omega); simp [fewP, h9])
       clear hq2 hUU s10 hltj
       go_wp2_with (first
        | (refine wpList_load_mid rfl 55 (.tmp 36) rfl g (o + j * 3) rfl [.int .i64 p.sq, .int .i64 p.vw, .slice B m dd] _ HRx.out Try.underlying55 rfl (by kernel_rfl) ?_))
       clear b2 hix d10
       go_loopw [45] (fun kv wr => ∃ k : Nat, k ≤ m ∧ kv = .int .i64 (k : Int) ∧ bb = ((p.es.drop k).all fewE && UU) ∧ Blk wr wo.heap.size 106 [.int .i64 s.fr, .int .i64 s.ch.vw, .int .i64 s.ch.lw, .slice P.1 P.2.1 P.2.2, .slice Q.1 Q.2.1 Q.2.2, .slice R.1 R.2.1 R.2.2] ∧ Blk wr gS 23 [.slice Q.1 Q.2.1 Q.2.2, .slice R.1 R.2.1 R.2.2] ∧ Below w.heap.size w wr ∧ EysIn wr B m p.es) (fun kv _ => m - (intOf kv).toNat)
       case atStart => exact ⟨0, Nat.zero_le _, rfl, HQ3.out, HKa.out, HSa.out, HXa.out, HEa.out⟩
       case round =>
        obtain ⟨k, hk, rfl, hq, hkk, hss, hx, hey⟩ := hrel
        have HKt := Lib.hid hkk
        have HSt := Lib.hid hss
        have HXt := Lib.hid hx
        have HEt := Lib.hid hey
        clear hkk hss hx hey
        by_cases hltk : k < m
        ·obtain ⟨g2, o2, y, rfl, _, _, hd, hry⟩ := HEt.out.at hltk
         rw [hd] at hq
         have HRy := Lib.hid hry
         have hix := Try.ix_ey wr g2 o2 m dd k hltk
         have hq2 : bb = (fewE y && ((p.es.drop (k + 1)).all fewE && UU)) := by rw [hq]; simp [Bool.and_assoc]
         have HXu : Hid (Below w.heap.size w (wr.alloc (.cells #[.int .i64 y.co.cl, .int .i64 y.co.sp, .int .i64 y.co.op, .string (ba y.co.lt), .int .i64 y.co.a, .int .i64 y.co.b, .string (ba y.co.tx), .int .u32 (y.ms : Int)] 61))) := Lib.hid (HXt.out.alloc HXt.out.size _)
         clear hq hd hry
         by_cases h1 : y.co.lt.length ≤ 100
         case neg =>
          have d1 : decide ((100 : Int) < (y.co.lt.length : Int)) = true := by simp; omega
          have HF : Hid (bb = false) := Lib.hid (by rw [hq2]; simp [fewE, h1])
          have hsz := ba_size
          clear hq2 h1
          go_wp2_with (first
           | go_big_skip
           | (refine wpList_load_mid rfl 61 (.tmp 47) rfl g2 (o2 + k * 8) rfl [.int .i64 y.co.cl, .int .i64 y.co.sp, .int .i64 y.co.op, .string (ba y.co.lt), .int .i64 y.co.a, .int .i64 y.co.b, .string (ba y.co.tx), .int .u32 (y.ms : Int)] _ HRy.out Try.underlying61 rfl (by kernel_rfl) ?_))
          go_ret
          exact ⟨ret_bo HF.out.symm, HXu.out⟩
         have d1 : decide ((100 : Int) < (y.co.lt.length : Int)) = false := by simp; omega
         by_cases h2 : y.co.tx.length ≤ 300
         case neg =>
          have d2 : decide ((300 : Int) < (y.co.tx.length : Int)) = true := by simp; omega
          have HF : Hid (bb = false) := Lib.hid (by rw [hq2]; simp [fewE, h2])
          have hsz := ba_size
          clear hq2 h1 h2
          go_wp2_with (first
           | go_big_skip
           | (refine wpList_load_mid rfl 61 (.tmp 47) rfl g2 (o2 + k * 8) rfl [.int .i64 y.co.cl, .int .i64 y.co.sp, .int .i64 y.co.op, .string (ba y.co.lt), .int .i64 y.co.a, .int .i64 y.co.b, .string (ba y.co.tx), .int .u32 (y.ms : Int)] _ HRy.out Try.underlying61 rfl (by kernel_rfl) ?_))
          go_ret
          exact ⟨ret_bo HF.out.symm, HXu.out⟩
         have d2 : decide ((300 : Int) < (y.co.tx.length : Int)) = false := by simp; omega
         have HQ4 : Hid (bb = ((p.es.drop (k + 1)).all fewE && UU)) := Lib.hid (by rw [hq2]; simp [fewE, h1, h2])
         have HKu := Lib.hid (HKt.out.alloc (.cells #[.int .i64 y.co.cl, .int .i64 y.co.sp, .int .i64 y.co.op, .string (ba y.co.lt), .int .i64 y.co.a, .int .i64 y.co.b, .string (ba y.co.tx), .int .u32 (y.ms : Int)] 61))
         have HSu := Lib.hid (HSt.out.alloc (.cells #[.int .i64 y.co.cl, .int .i64 y.co.sp, .int .i64 y.co.op, .string (ba y.co.lt), .int .i64 y.co.a, .int .i64 y.co.b, .string (ba y.co.tx), .int .u32 (y.ms : Int)] 61))
         have HEu := Lib.hid (HEt.out.alloc (.cells #[.int .i64 y.co.cl, .int .i64 y.co.sp, .int .i64 y.co.op, .string (ba y.co.lt), .int .i64 y.co.a, .int .i64 y.co.b, .string (ba y.co.tx), .int .u32 (y.ms : Int)] 61))
         have hsz := ba_size
         clear hq2 h1 h2
         go_wp2_with (first
          | go_big_skip
          | (refine wpList_load_mid rfl 61 (.tmp 47) rfl g2 (o2 + k * 8) rfl [.int .i64 y.co.cl, .int .i64 y.co.sp, .int .i64 y.co.op, .string (ba y.co.lt), .int .i64 y.co.a, .int .i64 y.co.b, .string (ba y.co.tx), .int .u32 (y.ms : Int)] _ HRy.out Try.underlying61 rfl (by kernel_rfl) ?_))
         go_roundw
         case rel => exact ⟨k + 1, by omega, by go_num, HQ4.out, HKu.out, HSu.out, HXu.out, HEu.out⟩
         case measure => simp [intOf]; omega
        ·have hkm : k = m := by omega
         have HQ4 : Hid (bb = ((ps.drop (j + 1)).all fewP && TT)) := Lib.hid (by rw [hq, List.drop_of_length_le (by rw [HLm.out]; omega), HU.out]; rfl)
         clear hq
         subst hkm
         have hltj := Hltj.out
         go_wp2
         go_roundw
         case rel => exact ⟨j + 1, by omega, by go_num, HQ4.out, HKt.out, HSt.out, HXt.out⟩
         case measure => simp [intOf]; omega
      ·have HQ4 : Hid (bb = (fewRs ((rowsOf s.ch Q R).drop (i + 1)) && TZ)) := Lib.hid (by rw [hq, List.drop_of_length_le (by rw [HLn.out]; omega), HT.out]; rfl)
       clear hq
       have hlt := Hlt.out
       go_wp2
       go_roundw
       case rel => exact ⟨i + 1, by omega, by go_num, HQ4.out, HKs.out, HSs.out, HXs.out⟩
       case measure => simp [intOf]; omega
    ·have hi2 : i = 2 := by omega
     have dl2 : decide ((i : Int) < 2) = false := by simp; omega
     have hF : bb = TZ := by rw [hq, hi2]; rfl
     clear hi2 hq
     have k3 := HKr.out.cellAt (i := 3) rfl
     have hltz := Hltz.out
     by_cases s20 : P.2.1 ≤ 20
     ·have d20 : decide ((20 : Int) < (P.2.1 : Int)) = false := by simp; omega
      have HF : Hid (bb = ((l.drop (z + 1)).all (fun s => fewCh s.ch) && dk)) := Lib.hid (by rw [hF, ← HTz.out, HVv.out]; simp [s20])
      clear hF s20
      go_wp2
      go_roundw
      case rel => exact ⟨z + 1, by omega, by go_num, HF.out, HXr.out⟩
      case measure => simp [intOf]; omega
     ·have d20 : decide ((20 : Int) < (P.2.1 : Int)) = true := by simp; omega
      have HF : Hid (bb = false) := Lib.hid (by rw [hF, ← HTz.out]; simp [s20])
      clear hF s20
      go_wp2
      go_ret
      exact ⟨ret_bo HF.out.symm, HXr.out⟩
  ·have e : l.drop z = [] := List.drop_of_length_le (by have := HLk.out; omega)
   rw [e] at hq
   have HF : Hid (bb = decide (kk ≤ 10)) := Lib.hid (by rw [hq, ← HD.out, HLk.out]; simp)
   clear hq e
   go_wp2
   go_ret
   exact ⟨ret_bo (by rw [HF.out, Bool.eq_iff_iff]; simp; omega), HXr0.out⟩

end Go.Proofs.Ytheecifgbkdecaa
