/-
  BaQ
-/
import Derived.Deep.CutRange
import Derived.Test.YtheecifgbkdecaaSM16
import Derived.Test.YtheecifgbkdecaaSM12
import Derived.Test.YtheecifgbkdecaaSM17
import Derived.Test.YtheecifgbkdecaaSMT
namespace Go.Proofs.Ytheecifgbkdecaa
open Go.RowKit

theorem OEy.only {w w' : World} {B g : Nat} {v : Value} {es : List Ey} {t : TypeId} {cs : Array Value} {fz : Nat × Nat} (h : OEy w B v es) (hb : w.grownBy w' (some g)) (hg : w.heap[g]? = some (.cells cs t fz)) (hne : t ≠ 61) : OEy w' B v es := ⟨h.1.only hb hg hne, h.2⟩
theorem tq_ne : (tQ : TypeId) ≠ 61 := by decide

set_option maxHeartbeats 16000000 in
set_option maxRecDepth 100000 in
theorem rread15_own {Q : Nat → Prop} (g : Nat) (st0 : Option (List UInt8)) (w : World) (h : Rs Q w g tQ st0) (hQ : ∀ b, Q b → b < w.heap.size) (hl : stL st0 ≤ 1000000) :
  Calls Try.prog 98 #[.pointer (some ⟨g, 0, none⟩)] w fun e w' => ∃ (A : Option Addr) (m c : Nat), e = .returned (.tuple #[.slice A m c, .bool (docR 1048576 (nval 2 st0) true [] (nnext 2 st0)).2.1]) ∧ EysIn w' A m (docR 1048576 (nval 2 st0) true [] (nnext 2 st0)).1 ∧ m ≤ c ∧ c ≤ maxLen ∧ Rs Q w' g tQ (docR 1048576 (nval 2 st0) true [] (nnext 2 st0)).2.2 ∧ w.grownBy w' (some g) ∧ (∀ a, A = some a → w.heap.size ≤ a.block) ∧ OEy w' w.heap.size (.slice A m c) (docR 1048576 (nval 2 st0) true [] (nnext 2 st0)).1 := by
 have HNum : Hid (Calls Try.prog 55 #[.pointer (some ⟨g, 0, none⟩), .int .i64 2] w fun e w' => e = .returned (.int .u64 (nval 2 st0)) ∧ Rs Q w' g tQ (nnext 2 st0) ∧ w.grownBy w' (some g)) := Lib.hid (rnumber_rs h 2 rfl)
 have HLT := Lib.hid h.lt
 have HQ := Lib.hid hQ
 have hk : nval 2 st0 ≤ 65535 := by have := nval_lt 2 st0; have e9 : (256 : Nat) ^ 2 = 65536 := (by decide); omega
 have hs0 : stL (nnext 2 st0) ≤ 1000000 := Nat.le_trans (nnext_stL _ _) hl
 have hcv := fun W : World => conv_small 70 3 Try.underlying70 Try.underlying3 (nval 2 st0) (by omega) W
 generalize nval 2 st0 = k0 at *
 generalize nnext 2 st0 = s0 at *
 obtain ⟨OUT, hO⟩ : ∃ OUT, docR 1048576 k0 true [] s0 = OUT := ⟨_, rfl⟩
 rw [hO]
 have HOUT := Lib.hid hO
 have HS0 := Lib.hid hs0
 have HK := Lib.hid hk
 have HN1 : Hid (∀ (W : World) {s : Option (List UInt8)}, Rs Q W g tQ s → Calls Try.prog 55 #[.pointer (some ⟨g, 0, none⟩), .int .i64 1] W fun e w' => e = .returned (.int .u64 (nval 1 s)) ∧ Rs Q w' g tQ (nnext 1 s) ∧ W.grownBy w' (some g)) := Lib.hid (fun W s hR => rnumber_rs hR 1 rfl)
 have hbr := Try.build_rdr
 have hbe := Try.build_ey
 clear h hQ hl hs0 hO hk
 go_enter Try.func98, Try.ntmps98
 go_wp2_with (first
  | (go_at_call 55; (with_reducible refine (HNum.out).mono ?_); rintro e w2 ⟨rfl, hr2, hg2⟩; have HR2 := Lib.hid hr2; have HG2 := Lib.hid hg2; clear hr2 hg2))
 go_loopw [4, 5, 6] (fun ov bv kv wr => ∃ (j : Nat) (b : Bool) (pre : List Ey) (s : Option (List UInt8)), kv = .int .i64 (j : Int) ∧ bv = .bool b ∧ docR 1048576 j b pre s = OUT ∧ OEy wr w.heap.size ov pre ∧ Rs Q wr g tQ s ∧ stL s ≤ 1000000 ∧ w.grownBy wr (some g) ∧ j + pre.length ≤ 65535) (fun _ _ kv _ => (intOf kv).toNat)
 case atStart => exact ⟨k0, true, [], s0, rfl, rfl, HOUT.out, OEy.nil _ _, HR2.out, HS0.out, HG2.out, by simpa using HK.out⟩
 case round =>
  obtain ⟨j, b, pre, s, rfl, rfl, hd, ho, hr, hsl, hg, hpl⟩ := hrel
  obtain ⟨A3, n3, d3, rfl, hmc, hcm, hin, hfr⟩ := ho.out
  have HO := Lib.hid ho
  have HR := Lib.hid hr
  have HG := Lib.hid hg
  have HIn := Lib.hid hin
  have HFr := Lib.hid (fun a ha => (hfr a ha).1)
  obtain ⟨er, hcell, her⟩ := hr.err
  clear ho hr hg hin hfr
  rcases Nat.eq_zero_or_pos j with rfl | hpos
  ·have HD : Hid ((pre, b, s) = OUT) := Lib.hid hd
   clear hd hcell her hsl hpl
   go_wp2
   go_ret2
   exact ⟨A3, n3, d3, by rw [← HD.out]; rfl, by rw [← HD.out]; exact HIn.out, hmc, hcm, by rw [← HD.out]; exact HR.out, HG.out, HFr.out, by rw [← HD.out]; exact HO.out⟩
  obtain ⟨j, rfl⟩ : ∃ j', j = j' + 1 := ⟨j - 1, by omega⟩
  have hgt : decide ((0 : Int) < (j : Int) + 1) = true := by first | (simp; done) | (simp; omega)
  cases s with
  | none =>
   have he : er ≠ 0 := fun h9 => her.1 h9 rfl
   have e1b : (er == 0) = false := by simpa using he
   have e2b : (er != 0) = true := by simpa using he
   have HD : Hid ((pre, b, none) = OUT) := Lib.hid (by rw [← hd, docR_none])
   clear hd her hsl hpl he
   go_wp2
   go_ret2
   exact ⟨A3, n3, d3, by rw [← HD.out]; rfl, by rw [← HD.out]; exact HIn.out, hmc, hcm, by rw [← HD.out]; exact HR.out, HG.out, HFr.out, by rw [← HD.out]; exact HO.out⟩
  | some xs =>
   obtain rfl : er = 0 := her.2 (by simp)
   rw [docR_some] at hd
   have HRow : Hid (Calls Try.prog 74 #[.pointer (some ⟨g, 0, none⟩), .int .i64 1048576] wr fun e w' => ∃ B m c, e = .returned (.slice B m c) ∧ (m ≤ c ∧ c ≤ maxLen) ∧ By w' (fun b => wr.heap.size ≤ b) B m (rval 1048576 (some xs)) ∧ Rs Q w' g tQ (rnext 1048576 (some xs)) ∧ wr.grownBy w' (some g)) := Lib.hid (rrow_rsF HR.out 1048576 (by omega))
   have hrl : (rval 1048576 (some xs)).length ≤ 1000000 := Nat.le_trans (rval_stL _ _) hsl
   have hs2 : stL (nnext 1 (rnext 1048576 (some xs))) ≤ 1000000 := Nat.le_trans (nnext_stL _ _) (Nat.le_trans (rnext_stL _ _) hsl)
   have hms : nval 1 (rnext 1048576 (some xs)) < 4294967296 := by have := nval_lt 1 (rnext 1048576 (some xs)); simp only [e1] at this; omega
   have HN1b : Hid (∀ (W : World), Rs Q W g tQ (rnext 1048576 (some xs)) → Calls Try.prog 55 #[.pointer (some ⟨g, 0, none⟩), .int .i64 1] W fun e w' => e = .returned (.int .u64 (nval 1 (rnext 1048576 (some xs)))) ∧ Rs Q w' g tQ (nnext 1 (rnext 1048576 (some xs))) ∧ W.grownBy w' (some g)) := Lib.hid (fun W hR => HN1.out W hR)
   have hcw := fun W : World => conv_6432 (nval 1 (rnext 1048576 (some xs))) hms W
   generalize rval 1048576 (some xs) = row at *
   generalize nval 1 (rnext 1048576 (some xs)) = ms at *
   generalize nnext 1 (rnext 1048576 (some xs)) = s2 at *
   generalize rnext 1048576 (some xs) = s1 at *
   have HRL := Lib.hid hrl
   have HS2 := Lib.hid hs2
   have HMs := Lib.hid hms
   have HPl : Hid (j + 1 + pre.length ≤ 65535) := Lib.hid hpl
   have hj9 : j ≤ 65535 := by omega
   obtain ⟨c0, hc0⟩ : ∃ c0, (rdCr 1048576 (some row)).1 = c0 := ⟨_, rfl⟩
   obtain ⟨st, hst0⟩ : ∃ st, (rdCr 1048576 (some row)).2 = st := ⟨_, rfl⟩
   have HC0 := Lib.hid hc0
   have HST0 := Lib.hid hst0
   rw [hc0, hst0] at hd
   have HDD := Lib.hid hd
   have hcell0 := hcell
   clear hd hrl hs2 hms hsl hpl her hc0 hst0
   go_upto_region 9 with (first
    | (go_at_call 74; (with_reducible refine (HRow.out).mono ?_); rintro e w3 ⟨B3, m3, c3, rfl, hm3, hy3, hr3, hg3⟩; have HY3 := Lib.hid hy3; have HM3 := Lib.hid hm3; have HR3 := Lib.hid hr3; have HG3 := Lib.hid (only_trans HG.out hg3); have HO3 := Lib.hid (HO.out.far hg3 HLT.out); clear hr3 hg3 hy3 hm3)
    | (go_at_call 55; (with_reducible refine (HN1b.out _ HR3.out).mono ?_); rintro e w4 ⟨rfl, hr4, hg4⟩; have HY4 := Lib.hid (HR3.out.by_keep HY3.out hg4); have HR4 := Lib.hid (hr4.alloc (.cells #[.slice B3 m3 c3, .int .i64 0] tQ)); have HG4 : Hid (w.grownBy (w4.alloc (.cells #[.slice B3 m3 c3, .int .i64 0] tQ)) (some g)) := Lib.hid (only_trans (only_trans HG3.out hg4) (only_below ((Below.refl _ _).alloc (Nat.le_refl _) _))); have HO4 := Lib.hid ((HO3.out.far hg4 HLT.out).alloc (.cells #[.slice B3 m3 c3, .int .i64 0] tQ)); have HRq0 : Hid (Rs (fun b => b < (w4.alloc (.cells #[.slice B3 m3 c3, .int .i64 0] tQ)).heap.size) (w4.alloc (.cells #[.slice B3 m3 c3, .int .i64 0] tQ)) w4.heap.size tQ (some row)) := Lib.hid (Rs.lt_ (rs_built HY4.out HM3.out.1 HM3.out.2 (by rw [← HY4.out.len]; have := HRL.out; omega))); have HS4 : Hid (w.heap.size ≤ w4.heap.size) := Lib.hid (Nat.le_trans HG3.out.size hg4.size); clear hr4 hg4))
   have HRx4 := HR4
   generalize hgq : w4.heap.size = gq at *
   clear hcell hcell0
   generalize hwq : w4.alloc (.cells #[.slice B3 m3 c3, .int .i64 0] tQ) = wq at *
   clear hwq
   have HRq := HRq0
   have HSZ : Hid (0 ≤ 0) := Lib.hid (Nat.le_refl 0)
   have HGQ : Hid (g < gq) := Lib.hid (by have := HS4.out; have := HLT.out; omega)
   go_cut [10] from 33 to 54 (fun v wx => ∃ gz : Nat, v = .pointer (some ⟨gz, 0, none⟩) ∧ Blk wx gz 58 [.int .i64 c0.cl, .int .i64 c0.sp, .int .i64 c0.op, .string (ba c0.lt), .int .i64 c0.a, .int .i64 c0.b, .string (ba c0.tx)] ∧ Rs (fun b => b < wq.heap.size) wx gq tQ st ∧ wq.heap.size ≤ gz ∧ wq.grownBy wx (some gq))
   case first =>
    refine wp_region_held_drew (S := fun W => wq.grownBy W (some gq)) (by kernel_rfl) (only_below (Below.refl _ _).drew) (fun hHeld => ?_)
    change wpAnyH _ _ _ _ _ _ #[false, false, false, false, false, false, false, false, false, false, false, false, false, false, false, false, false, false, false, false, false, false, false, false] _ _
    refine tkq (i := 0) (d := 33) (v := (.pointer (some ⟨gq, 0, none⟩))) rfl rfl (Or.inl ⟨by kernel_rfl, fun w hSw => ?_⟩) (by assumption) ?_
    ·(try dsimp only at hSw); go_simp <;> (try rfl)
    simp only [Act.put, sq1, sq2, sq3]
    refine tkq (i := 3) (d := 36) (v := (.pointer (some ⟨gq, 0, none⟩))) rfl rfl (Or.inl ⟨by kernel_rfl, fun w hSw => ?_⟩) (by assumption) ?_
    ·(try dsimp only at hSw); go_simp <;> (try rfl)
    simp only [Act.put, sq1, sq2, sq3]
    refine tkq (i := 6) (d := 39) (v := (.pointer (some ⟨gq, 0, none⟩))) rfl rfl (Or.inl ⟨by kernel_rfl, fun w hSw => ?_⟩) (by assumption) ?_
    ·(try dsimp only at hSw); go_simp <;> (try rfl)
    simp only [Act.put, sq1, sq2, sq3]
    refine tkq (i := 9) (d := 42) (v := (.pointer (some ⟨gq, 0, none⟩))) rfl rfl (Or.inl ⟨by kernel_rfl, fun w hSw => ?_⟩) (by assumption) ?_
    ·(try dsimp only at hSw); go_simp <;> (try rfl)
    simp only [Act.put, sq1, sq2, sq3]
    refine tkq (i := 12) (d := 45) (v := (.pointer (some ⟨gq, 0, none⟩))) rfl rfl (Or.inl ⟨by kernel_rfl, fun w hSw => ?_⟩) (by assumption) ?_
    ·(try dsimp only at hSw); go_simp <;> (try rfl)
    simp only [Act.put, sq1, sq2, sq3]
    refine tkq (i := 15) (d := 48) (v := (.pointer (some ⟨gq, 0, none⟩))) rfl rfl (Or.inl ⟨by kernel_rfl, fun w hSw => ?_⟩) (by assumption) ?_
    ·(try dsimp only at hSw); go_simp <;> (try rfl)
    simp only [Act.put, sq1, sq2, sq3]
    refine tkq (i := 18) (d := 51) (v := (.pointer (some ⟨gq, 0, none⟩))) rfl rfl (Or.inl ⟨by kernel_rfl, fun w hSw => ?_⟩) (by assumption) ?_
    ·(try dsimp only at hSw); go_simp <;> (try rfl)
    simp only [Act.put, sq1, sq2, sq3]
    refine wpAnyH_ready (rs := [1, 22]) (by kernel_rfl) (by simp) ?_
    refine AllReadyH.cons rfl (fun K hK => ?_) (AllReadyH.cons (o := ⟨some 10, .alloc 58, _, _, _, none⟩) rfl (fun K hK => ?_) AllReadyH.nil)
    ·as_aux_lemma =>
     go_simp
     refine (rnumber_rs (HRq.out.drew) 1 rfl).mono ?_
     rintro e wa0 ⟨rfl, hr0, hg0⟩; have HRa0 := Lib.hid hr0; have HGa0 := Lib.hid hg0; clear hr0 hg0
     go_wp2_with fail
     refine hK.out _ _ (only_trans hHeld HGa0.out) (fun hHeld1 => ?_)
     clear hHeld hK K
     have hHeld := hHeld1
     clear hHeld1
     refine tkq (i := 2) (d := 35) (v := (.int .i64 ((nval 1 (some row) : Nat) : Int))) rfl rfl (yields_conv (by kernel_rfl) 70 3 (.tmp 34) rfl (.int .u64 ((nval 1 (some row) : Nat) : Int)) (by simp [Act.eval]) (.int .i64 ((nval 1 (some row) : Nat) : Int)) (fun W _ => conv_small 70 3 Try.underlying70 Try.underlying3 _ (by have := nval_lt 1 (some row); simp only [e1] at this; omega) W)) (by assumption) ?_
     simp only [Act.put, sq1, sq2, sq3]
     refine wpAnyH_ready (rs := [4, 22]) (by kernel_rfl) (by simp) ?_
     refine AllReadyH.cons rfl (fun K hK => ?_) (AllReadyH.cons (o := ⟨some 10, .alloc 58, _, _, _, none⟩) rfl (fun K hK => ?_) AllReadyH.nil)
     ·as_aux_lemma =>
      go_simp
      refine (rnumber_rs (HRa0.out) 8 rfl).mono ?_
      rintro e wa1 ⟨rfl, hr1, hg1⟩; have HRa1 := Lib.hid hr1; have HGa1 := Lib.hid hg1; clear hr1 hg1
      go_wp2_with fail
      refine hK.out _ _ (only_trans hHeld HGa1.out) (fun hHeld1 => ?_)
      clear hHeld hK K
      have hHeld := hHeld1
      clear hHeld1
      refine tkq (i := 5) (d := 38) (v := (.int .i64 (sx 8 (nval 8 (nnext 1 (some row)))))) rfl rfl (yields_conv (by kernel_rfl) 70 2 (.tmp 37) rfl (.int .u64 ((nval 8 (nnext 1 (some row)) : Nat) : Int)) (by simp [Act.eval]) (.int .i64 (sx 8 (nval 8 (nnext 1 (some row))))) (fun W _ => conv_i64 70 2 Try.underlying70 Try.underlying2 _ (by have := nval_lt 8 (nnext 1 (some row)); simp only [e8] at this; omega) W)) (by assumption) ?_
      simp only [Act.put, sq1, sq2, sq3]
      refine wpAnyH_ready (rs := [7, 22]) (by kernel_rfl) (by simp) ?_
      refine AllReadyH.cons rfl (fun K hK => ?_) (AllReadyH.cons (o := ⟨some 10, .alloc 58, _, _, _, none⟩) rfl (fun K hK => ?_) AllReadyH.nil)
      ·as_aux_lemma =>
       go_simp
       refine (rnumber_rs (HRa1.out) 1 rfl).mono ?_
       rintro e wa2 ⟨rfl, hr2, hg2⟩; have HRa2 := Lib.hid hr2; have HGa2 := Lib.hid hg2; clear hr2 hg2
       go_wp2_with fail
       refine hK.out _ _ (only_trans hHeld HGa2.out) (fun hHeld1 => ?_)
       clear hHeld hK K
       have hHeld := hHeld1
       clear hHeld1
       refine tkq (i := 8) (d := 41) (v := (.int .i64 ((nval 1 (nnext 8 (nnext 1 (some row))) : Nat) : Int))) rfl rfl (yields_conv (by kernel_rfl) 70 3 (.tmp 40) rfl (.int .u64 ((nval 1 (nnext 8 (nnext 1 (some row))) : Nat) : Int)) (by simp [Act.eval]) (.int .i64 ((nval 1 (nnext 8 (nnext 1 (some row))) : Nat) : Int)) (fun W _ => conv_small 70 3 Try.underlying70 Try.underlying3 _ (by have := nval_lt 1 (nnext 8 (nnext 1 (some row))); simp only [e1] at this; omega) W)) (by assumption) ?_
       simp only [Act.put, sq1, sq2, sq3]
       refine wpAnyH_ready (rs := [10, 22]) (by kernel_rfl) (by simp) ?_
       refine AllReadyH.cons rfl (fun K hK => ?_) (AllReadyH.cons (o := ⟨some 10, .alloc 58, _, _, _, none⟩) rfl (fun K hK => ?_) AllReadyH.nil)
       ·as_aux_lemma =>
        go_simp
        refine (rrow_rs (HRa2.out) 1048576 (by omega)).mono ?_
        rintro e wa3 ⟨Ba3, ma3, ca3, rfl, hy3, hr3, hg3⟩; have HRa3 := Lib.hid hr3; have HGa3 := Lib.hid hg3; have HYa3 := Lib.hid hy3; clear hr3 hg3 hy3
        go_wp2_with fail
        refine hK.out _ _ (only_trans hHeld HGa3.out) (fun hHeld1 => ?_)
        clear hHeld hK K
        have hHeld := hHeld1
        clear hHeld1
        refine wpAnyH_weaken (S' := fun W => (wq.grownBy W (some gq)) ∧ By W (fun _ => True) Ba3 ma3 (rval 1048576 (nnext 1 (nnext 8 (nnext 1 (some row)))))) (fun W h => h.1) _ _ _ _ ?_
        have hHeld2 := And.intro hHeld HYa3.out
        clear hHeld
        have hHeld := hHeld2
        clear hHeld2
        refine tkq (i := 11) (d := 44) (v := (.string (ba (rval 1048576 (nnext 1 (nnext 8 (nnext 1 (some row)))))))) rfl rfl (yields_conv (by kernel_rfl) 28 9 (.tmp 43) rfl (.slice Ba3 ma3 ca3) (by simp [Act.eval]) (.string (ba (rval 1048576 (nnext 1 (nnext 8 (nnext 1 (some row))))))) (fun W hW => run_string_by W 28 9 5 Try.underlying28 Try.underlying5 Try.underlying9 _ _ _ _ _ hW.2)) (by assumption) ?_
        simp only [Act.put, sq1, sq2, sq3]
        refine wpAnyH_ready (rs := [13, 22]) (by kernel_rfl) (by simp) ?_
        refine AllReadyH.cons rfl (fun K hK => ?_) (AllReadyH.cons (o := ⟨some 10, .alloc 58, _, _, _, none⟩) rfl (fun K hK => ?_) AllReadyH.nil)
        ·as_aux_lemma =>
         go_simp
         refine (rnumber_rs (HRa3.out) 8 rfl).mono ?_
         rintro e wa4 ⟨rfl, hr4, hg4⟩; have HRa4 := Lib.hid hr4; have HGa4 := Lib.hid hg4; clear hr4 hg4
         go_wp2_with fail
         refine hK.out _ _ ⟨(only_trans hHeld.1 HGa4.out), (HRa3.out).by_keep hHeld.2 HGa4.out⟩ (fun hHeld1 => ?_)
         clear hHeld hK K
         have hHeld := hHeld1
         clear hHeld1
         refine tkq (i := 14) (d := 47) (v := (.int .i64 (sx 8 (nval 8 (rnext 1048576 (nnext 1 (nnext 8 (nnext 1 (some row))))))))) rfl rfl (yields_conv (by kernel_rfl) 70 2 (.tmp 46) rfl (.int .u64 ((nval 8 (rnext 1048576 (nnext 1 (nnext 8 (nnext 1 (some row))))) : Nat) : Int)) (by simp [Act.eval]) (.int .i64 (sx 8 (nval 8 (rnext 1048576 (nnext 1 (nnext 8 (nnext 1 (some row)))))))) (fun W _ => conv_i64 70 2 Try.underlying70 Try.underlying2 _ (by have := nval_lt 8 (rnext 1048576 (nnext 1 (nnext 8 (nnext 1 (some row))))); simp only [e8] at this; omega) W)) (by assumption) ?_
         simp only [Act.put, sq1, sq2, sq3]
         refine wpAnyH_ready (rs := [16, 22]) (by kernel_rfl) (by simp) ?_
         refine AllReadyH.cons rfl (fun K hK => ?_) (AllReadyH.cons (o := ⟨some 10, .alloc 58, _, _, _, none⟩) rfl (fun K hK => ?_) AllReadyH.nil)
         ·as_aux_lemma =>
          go_simp
          refine (rnumber_rs (HRa4.out) 8 rfl).mono ?_
          rintro e wa5 ⟨rfl, hr5, hg5⟩; have HRa5 := Lib.hid hr5; have HGa5 := Lib.hid hg5; clear hr5 hg5
          go_wp2_with fail
          refine hK.out _ _ ⟨(only_trans hHeld.1 HGa5.out), (HRa4.out).by_keep hHeld.2 HGa5.out⟩ (fun hHeld1 => ?_)
          clear hHeld hK K
          have hHeld := hHeld1
          clear hHeld1
          refine tkq (i := 17) (d := 50) (v := (.int .i64 (sx 8 (nval 8 (nnext 8 (rnext 1048576 (nnext 1 (nnext 8 (nnext 1 (some row)))))))))) rfl rfl (yields_conv (by kernel_rfl) 70 2 (.tmp 49) rfl (.int .u64 ((nval 8 (nnext 8 (rnext 1048576 (nnext 1 (nnext 8 (nnext 1 (some row)))))) : Nat) : Int)) (by simp [Act.eval]) (.int .i64 (sx 8 (nval 8 (nnext 8 (rnext 1048576 (nnext 1 (nnext 8 (nnext 1 (some row))))))))) (fun W _ => conv_i64 70 2 Try.underlying70 Try.underlying2 _ (by have := nval_lt 8 (nnext 8 (rnext 1048576 (nnext 1 (nnext 8 (nnext 1 (some row)))))); simp only [e8] at this; omega) W)) (by assumption) ?_
          simp only [Act.put, sq1, sq2, sq3]
          refine wpAnyH_ready (rs := [19, 22]) (by kernel_rfl) (by simp) ?_
          refine AllReadyH.cons rfl (fun K hK => ?_) (AllReadyH.cons (o := ⟨some 10, .alloc 58, _, _, _, none⟩) rfl (fun K hK => ?_) AllReadyH.nil)
          ·as_aux_lemma =>
           go_simp
           refine (rrow_rs (HRa5.out) 1048576 (by omega)).mono ?_
           rintro e wa6 ⟨Ba6, ma6, ca6, rfl, hy6, hr6, hg6⟩; have HRa6 := Lib.hid hr6; have HGa6 := Lib.hid hg6; have HYa6 := Lib.hid hy6; clear hr6 hg6 hy6
           go_wp2_with fail
           refine hK.out _ _ ⟨(only_trans hHeld.1 HGa6.out), (HRa5.out).by_keep hHeld.2 HGa6.out⟩ (fun hHeld1 => ?_)
           clear hHeld hK K
           have hHeld := hHeld1
           clear hHeld1
           refine wpAnyH_weaken (S' := fun W => ((wq.grownBy W (some gq)) ∧ By W (fun _ => True) Ba3 ma3 (rval 1048576 (nnext 1 (nnext 8 (nnext 1 (some row)))))) ∧ By W (fun _ => True) Ba6 ma6 (rval 1048576 (nnext 8 (nnext 8 (rnext 1048576 (nnext 1 (nnext 8 (nnext 1 (some row))))))))) (fun W h => h.1) _ _ _ _ ?_
           have hHeld2 := And.intro hHeld HYa6.out
           clear hHeld
           have hHeld := hHeld2
           clear hHeld2
           refine tkq (i := 20) (d := 53) (v := (.string (ba (rval 1048576 (nnext 8 (nnext 8 (rnext 1048576 (nnext 1 (nnext 8 (nnext 1 (some row))))))))))) rfl rfl (yields_conv (by kernel_rfl) 28 9 (.tmp 52) rfl (.slice Ba6 ma6 ca6) (by simp [Act.eval]) (.string (ba (rval 1048576 (nnext 8 (nnext 8 (rnext 1048576 (nnext 1 (nnext 8 (nnext 1 (some row)))))))))) (fun W hW => run_string_by W 28 9 5 Try.underlying28 Try.underlying5 Try.underlying9 _ _ _ _ _ hW.2)) (by assumption) ?_
           simp only [Act.put, sq1, sq2, sq3]
           obtain ⟨V, hV⟩ : ∃ V : Value, V = .agg #[.int .i64 ((nval 1 (some row) : Nat) : Int), .int .i64 (sx 8 (nval 8 (nnext 1 (some row)))), .int .i64 ((nval 1 (nnext 8 (nnext 1 (some row))) : Nat) : Int), .string (ba (rval 1048576 (nnext 1 (nnext 8 (nnext 1 (some row)))))), .int .i64 (sx 8 (nval 8 (rnext 1048576 (nnext 1 (nnext 8 (nnext 1 (some row))))))), .int .i64 (sx 8 (nval 8 (nnext 8 (rnext 1048576 (nnext 1 (nnext 8 (nnext 1 (some row)))))))), .string (ba (rval 1048576 (nnext 8 (nnext 8 (rnext 1048576 (nnext 1 (nnext 8 (nnext 1 (some row)))))))))] := ⟨_, rfl⟩
           have HV := Lib.hid hV
           clear hV
           refine tkq (i := 21) (d := 54) (v := V) rfl rfl (yields_build (by kernel_rfl) 58 _ rfl _ (by simp only [List.map_toArray, List.map_cons, List.map_nil, Act.eval]; rfl) V (fun w _ => by rw [HV.out]; exact Try.build_c7 _ _ _ _ _ _ _ w)) (by assumption) ?_
           simp only [Act.put, sq1, sq2, sq3]
           refine wpAnyH_ready (rs := [22]) (by kernel_rfl) (by simp) ?_
           refine AllReadyH.cons (o := ⟨some 10, .alloc 58, _, _, _, none⟩) rfl (fun K hK => ?_) AllReadyH.nil
           obtain ⟨gz, hgz⟩ : ∃ gz, wa6.heap.size = gz := ⟨_, rfl⟩; refine step_alloc (by simp [Region.wanted]) 58 rfl (.pointer (some ⟨gz, 0, none⟩)) (wa6.alloc (.cells #[.int .i64 0, .int .i64 0, .int .i64 0, .string (ba []), .int .i64 0, .int .i64 0, .string (ba [])] 58)) (Try.alloc_cr gz wa6 hgz) ?_; have HBz : Hid (Blk (wa6.alloc (.cells #[.int .i64 0, .int .i64 0, .int .i64 0, .string (ba []), .int .i64 0, .int .i64 0, .string (ba [])] 58)) gz 58 [.int .i64 0, .int .i64 0, .int .i64 0, .string (ba []), .int .i64 0, .int .i64 0, .string (ba [])]) := Lib.hid (Blk.fresh hgz.symm rfl); have HRz := Lib.hid ((HRa6.out).alloc (.cells #[.int .i64 0, .int .i64 0, .int .i64 0, .string (ba []), .int .i64 0, .int .i64 0, .string (ba [])] 58)); have HNE : Hid (gz ≠ gq) := Lib.hid (fun e => by have h9 := (HRa6.out).lt; rw [← e, ← hgz] at h9; exact Nat.lt_irrefl _ h9); have HZ : Hid (wq.heap.size ≤ gz) := Lib.hid (hgz ▸ (hHeld.1.1).size); clear hgz
           refine hK.out _ _ ⟨⟨(only_trans hHeld.1.1 (only_below ((Below.refl _ _).alloc (Nat.le_refl _) _))), hHeld.1.2.alloc _⟩, hHeld.2.alloc _⟩ (fun hHeld1 => ?_)
           clear hHeld hK K
           have hHeld := hHeld1
           clear hHeld1
           change wpAnyH _ _ _ _ _ _ _ (Act.put _ (some (10 : Nat)) (.pointer (some ⟨gz, 0, none⟩))) _
           simp only [Act.put, sq1, sq2, sq3]
           refine wpAnyH_ready (rs := [23]) (by kernel_rfl) (by simp) ?_
           refine AllReadyH.cons (o := ⟨none, .store 58 (.tmp 10) (.tmp 54), _, _, _, none⟩) rfl (fun K hK => ?_) AllReadyH.nil
           have HBp := Lib.hid (HBz.out); refine step_store_blk rfl 58 (.tmp 10) (.tmp 54) rfl gz [.int .i64 ((nval 1 (some row) : Nat) : Int), .int .i64 (sx 8 (nval 8 (nnext 1 (some row)))), .int .i64 ((nval 1 (nnext 8 (nnext 1 (some row))) : Nat) : Int), .string (ba (rval 1048576 (nnext 1 (nnext 8 (nnext 1 (some row)))))), .int .i64 (sx 8 (nval 8 (rnext 1048576 (nnext 1 (nnext 8 (nnext 1 (some row))))))), .int .i64 (sx 8 (nval 8 (nnext 8 (rnext 1048576 (nnext 1 (nnext 8 (nnext 1 (some row)))))))), .string (ba (rval 1048576 (nnext 8 (nnext 8 (rnext 1048576 (nnext 1 (nnext 8 (nnext 1 (some row)))))))))] (by simp [Act.eval]) (by simp only [Act.eval]; exact HV.out) 58 [.int .i64 0, .int .i64 0, .int .i64 0, .string (ba []), .int .i64 0, .int .i64 0, .string (ba [])] (HBz.out) (by kernel_rfl) rfl (one7 _ _ _ _ _ _ _) ?_; intro we hbe hge; have HBe := Lib.hid hbe; have HGe := Lib.hid hge; have HRe := Lib.hid ((HRz.out).other hge (fun b hb => ⟨fun e => HNE.out (by rw [Option.some.inj hb]; exact e), by have := Option.some.inj hb; have := HZ.out; have := HSZ.out; omega⟩)); clear hbe hge
           refine hK.out _ _ ⟨⟨(only_new hHeld.1.1 HGe.out HZ.out), By.far hHeld.1.2 HGe.out HBp.out (no_u8c _ _ _ _ _ _ _)⟩, By.far hHeld.2 HGe.out HBp.out (no_u8c _ _ _ _ _ _ _)⟩ (fun hHeld1 => ?_)
           clear hHeld hK K
           have hHeld := hHeld1
           clear hHeld1
           change wpAnyH _ _ _ _ _ _ _ (Act.put _ none undef) _
           simp only [Act.put]
           refine wpAnyH_done (by kernel_rfl) ?_ _
           have HG6 := Lib.hid (only_new hHeld.1.1 (only_refl _ _) HZ.out)
           clear hHeld
           go_wp2
           go_meet
           case rel => exact ⟨gz, rfl, (by rw [← HC0.out]; exact HBe.out), (by rw [← HST0.out]; exact HRe.out), HZ.out, HG6.out⟩
          ·as_aux_lemma =>
           obtain ⟨gz, hgz⟩ : ∃ gz, wa5.heap.size = gz := ⟨_, rfl⟩; refine step_alloc (by simp [Region.wanted]) 58 rfl (.pointer (some ⟨gz, 0, none⟩)) (wa5.alloc (.cells #[.int .i64 0, .int .i64 0, .int .i64 0, .string (ba []), .int .i64 0, .int .i64 0, .string (ba [])] 58)) (Try.alloc_cr gz wa5 hgz) ?_; have HBz : Hid (Blk (wa5.alloc (.cells #[.int .i64 0, .int .i64 0, .int .i64 0, .string (ba []), .int .i64 0, .int .i64 0, .string (ba [])] 58)) gz 58 [.int .i64 0, .int .i64 0, .int .i64 0, .string (ba []), .int .i64 0, .int .i64 0, .string (ba [])]) := Lib.hid (Blk.fresh hgz.symm rfl); have HRz := Lib.hid ((HRa5.out).alloc (.cells #[.int .i64 0, .int .i64 0, .int .i64 0, .string (ba []), .int .i64 0, .int .i64 0, .string (ba [])] 58)); have HNE : Hid (gz ≠ gq) := Lib.hid (fun e => by have h9 := (HRa5.out).lt; rw [← e, ← hgz] at h9; exact Nat.lt_irrefl _ h9); have HZ : Hid (wq.heap.size ≤ gz) := Lib.hid (hgz ▸ (hHeld.1).size); clear hgz
           refine hK.out _ _ ⟨(only_trans hHeld.1 (only_below ((Below.refl _ _).alloc (Nat.le_refl _) _))), hHeld.2.alloc _⟩ (fun hHeld1 => ?_)
           clear hHeld hK K
           have hHeld := hHeld1
           clear hHeld1
           change wpAnyH _ _ _ _ _ _ _ (Act.put _ (some (10 : Nat)) (.pointer (some ⟨gz, 0, none⟩))) _
           simp only [Act.put, sq1, sq2, sq3]
           refine wpAnyH_ready (rs := [19]) (by kernel_rfl) (by simp) ?_
           refine AllReadyH.cons rfl (fun K hK => ?_) AllReadyH.nil
           go_simp
           refine (rrow_rs (HRz.out) 1048576 (by omega)).mono ?_
           rintro e wa6 ⟨Ba6, ma6, ca6, rfl, hy6, hr6, hg6⟩; have HRa6 := Lib.hid hr6; have HGa6 := Lib.hid hg6; have HBa6 := Lib.hid ((HBz.out).grown hg6 (fun e => HNE.out (Option.some.inj e))); have HYa6 := Lib.hid hy6; clear hr6 hg6 hy6
           go_wp2_with fail
           refine hK.out _ _ ⟨(only_trans hHeld.1 HGa6.out), (HRz.out).by_keep hHeld.2 HGa6.out⟩ (fun hHeld1 => ?_)
           clear hHeld hK K
           have hHeld := hHeld1
           clear hHeld1
           refine wpAnyH_weaken (S' := fun W => ((wq.grownBy W (some gq)) ∧ By W (fun _ => True) Ba3 ma3 (rval 1048576 (nnext 1 (nnext 8 (nnext 1 (some row)))))) ∧ By W (fun _ => True) Ba6 ma6 (rval 1048576 (nnext 8 (nnext 8 (rnext 1048576 (nnext 1 (nnext 8 (nnext 1 (some row))))))))) (fun W h => h.1) _ _ _ _ ?_
           have hHeld2 := And.intro hHeld HYa6.out
           clear hHeld
           have hHeld := hHeld2
           clear hHeld2
           refine tkq (i := 20) (d := 53) (v := (.string (ba (rval 1048576 (nnext 8 (nnext 8 (rnext 1048576 (nnext 1 (nnext 8 (nnext 1 (some row))))))))))) rfl rfl (yields_conv (by kernel_rfl) 28 9 (.tmp 52) rfl (.slice Ba6 ma6 ca6) (by simp [Act.eval]) (.string (ba (rval 1048576 (nnext 8 (nnext 8 (rnext 1048576 (nnext 1 (nnext 8 (nnext 1 (some row)))))))))) (fun W hW => run_string_by W 28 9 5 Try.underlying28 Try.underlying5 Try.underlying9 _ _ _ _ _ hW.2)) (by assumption) ?_
           simp only [Act.put, sq1, sq2, sq3]
           obtain ⟨V, hV⟩ : ∃ V : Value, V = .agg #[.int .i64 ((nval 1 (some row) : Nat) : Int), .int .i64 (sx 8 (nval 8 (nnext 1 (some row)))), .int .i64 ((nval 1 (nnext 8 (nnext 1 (some row))) : Nat) : Int), .string (ba (rval 1048576 (nnext 1 (nnext 8 (nnext 1 (some row)))))), .int .i64 (sx 8 (nval 8 (rnext 1048576 (nnext 1 (nnext 8 (nnext 1 (some row))))))), .int .i64 (sx 8 (nval 8 (nnext 8 (rnext 1048576 (nnext 1 (nnext 8 (nnext 1 (some row)))))))), .string (ba (rval 1048576 (nnext 8 (nnext 8 (rnext 1048576 (nnext 1 (nnext 8 (nnext 1 (some row)))))))))] := ⟨_, rfl⟩
           have HV := Lib.hid hV
           clear hV
           refine tkq (i := 21) (d := 54) (v := V) rfl rfl (yields_build (by kernel_rfl) 58 _ rfl _ (by simp only [List.map_toArray, List.map_cons, List.map_nil, Act.eval]; rfl) V (fun w _ => by rw [HV.out]; exact Try.build_c7 _ _ _ _ _ _ _ w)) (by assumption) ?_
           simp only [Act.put, sq1, sq2, sq3]
           refine wpAnyH_ready (rs := [23]) (by kernel_rfl) (by simp) ?_
           refine AllReadyH.cons (o := ⟨none, .store 58 (.tmp 10) (.tmp 54), _, _, _, none⟩) rfl (fun K hK => ?_) AllReadyH.nil
           have HBp := Lib.hid (HBa6.out); refine step_store_blk rfl 58 (.tmp 10) (.tmp 54) rfl gz [.int .i64 ((nval 1 (some row) : Nat) : Int), .int .i64 (sx 8 (nval 8 (nnext 1 (some row)))), .int .i64 ((nval 1 (nnext 8 (nnext 1 (some row))) : Nat) : Int), .string (ba (rval 1048576 (nnext 1 (nnext 8 (nnext 1 (some row)))))), .int .i64 (sx 8 (nval 8 (rnext 1048576 (nnext 1 (nnext 8 (nnext 1 (some row))))))), .int .i64 (sx 8 (nval 8 (nnext 8 (rnext 1048576 (nnext 1 (nnext 8 (nnext 1 (some row)))))))), .string (ba (rval 1048576 (nnext 8 (nnext 8 (rnext 1048576 (nnext 1 (nnext 8 (nnext 1 (some row)))))))))] (by simp [Act.eval]) (by simp only [Act.eval]; exact HV.out) 58 [.int .i64 0, .int .i64 0, .int .i64 0, .string (ba []), .int .i64 0, .int .i64 0, .string (ba [])] (HBa6.out) (by kernel_rfl) rfl (one7 _ _ _ _ _ _ _) ?_; intro we hbe hge; have HBe := Lib.hid hbe; have HGe := Lib.hid hge; have HRe := Lib.hid ((HRa6.out).other hge (fun b hb => ⟨fun e => HNE.out (by rw [Option.some.inj hb]; exact e), by have := Option.some.inj hb; have := HZ.out; have := HSZ.out; omega⟩)); clear hbe hge
           refine hK.out _ _ ⟨⟨(only_new hHeld.1.1 HGe.out HZ.out), By.far hHeld.1.2 HGe.out HBp.out (no_u8c _ _ _ _ _ _ _)⟩, By.far hHeld.2 HGe.out HBp.out (no_u8c _ _ _ _ _ _ _)⟩ (fun hHeld1 => ?_)
           clear hHeld hK K
           have hHeld := hHeld1
           clear hHeld1
           change wpAnyH _ _ _ _ _ _ _ (Act.put _ none undef) _
           simp only [Act.put]
           refine wpAnyH_done (by kernel_rfl) ?_ _
           have HG6 := Lib.hid (only_new hHeld.1.1 (only_refl _ _) HZ.out)
           clear hHeld
           go_wp2
           go_meet
           case rel => exact ⟨gz, rfl, (by rw [← HC0.out]; exact HBe.out), (by rw [← HST0.out]; exact HRe.out), HZ.out, HG6.out⟩
         ·as_aux_lemma =>
          obtain ⟨gz, hgz⟩ : ∃ gz, wa4.heap.size = gz := ⟨_, rfl⟩; refine step_alloc (by simp [Region.wanted]) 58 rfl (.pointer (some ⟨gz, 0, none⟩)) (wa4.alloc (.cells #[.int .i64 0, .int .i64 0, .int .i64 0, .string (ba []), .int .i64 0, .int .i64 0, .string (ba [])] 58)) (Try.alloc_cr gz wa4 hgz) ?_; have HBz : Hid (Blk (wa4.alloc (.cells #[.int .i64 0, .int .i64 0, .int .i64 0, .string (ba []), .int .i64 0, .int .i64 0, .string (ba [])] 58)) gz 58 [.int .i64 0, .int .i64 0, .int .i64 0, .string (ba []), .int .i64 0, .int .i64 0, .string (ba [])]) := Lib.hid (Blk.fresh hgz.symm rfl); have HRz := Lib.hid ((HRa4.out).alloc (.cells #[.int .i64 0, .int .i64 0, .int .i64 0, .string (ba []), .int .i64 0, .int .i64 0, .string (ba [])] 58)); have HNE : Hid (gz ≠ gq) := Lib.hid (fun e => by have h9 := (HRa4.out).lt; rw [← e, ← hgz] at h9; exact Nat.lt_irrefl _ h9); have HZ : Hid (wq.heap.size ≤ gz) := Lib.hid (hgz ▸ (hHeld.1).size); clear hgz
          refine hK.out _ _ ⟨(only_trans hHeld.1 (only_below ((Below.refl _ _).alloc (Nat.le_refl _) _))), hHeld.2.alloc _⟩ (fun hHeld1 => ?_)
          clear hHeld hK K
          have hHeld := hHeld1
          clear hHeld1
          change wpAnyH _ _ _ _ _ _ _ (Act.put _ (some (10 : Nat)) (.pointer (some ⟨gz, 0, none⟩))) _
          simp only [Act.put, sq1, sq2, sq3]
          refine wpAnyH_ready (rs := [16]) (by kernel_rfl) (by simp) ?_
          refine AllReadyH.cons rfl (fun K hK => ?_) AllReadyH.nil
          go_simp
          refine (rnumber_rs (HRz.out) 8 rfl).mono ?_
          rintro e wa5 ⟨rfl, hr5, hg5⟩; have HRa5 := Lib.hid hr5; have HGa5 := Lib.hid hg5; have HBa5 := Lib.hid ((HBz.out).grown hg5 (fun e => HNE.out (Option.some.inj e))); clear hr5 hg5
          go_wp2_with fail
          refine hK.out _ _ ⟨(only_trans hHeld.1 HGa5.out), (HRz.out).by_keep hHeld.2 HGa5.out⟩ (fun hHeld1 => ?_)
          clear hHeld hK K
          have hHeld := hHeld1
          clear hHeld1
          refine tkq (i := 17) (d := 50) (v := (.int .i64 (sx 8 (nval 8 (nnext 8 (rnext 1048576 (nnext 1 (nnext 8 (nnext 1 (some row)))))))))) rfl rfl (yields_conv (by kernel_rfl) 70 2 (.tmp 49) rfl (.int .u64 ((nval 8 (nnext 8 (rnext 1048576 (nnext 1 (nnext 8 (nnext 1 (some row)))))) : Nat) : Int)) (by simp [Act.eval]) (.int .i64 (sx 8 (nval 8 (nnext 8 (rnext 1048576 (nnext 1 (nnext 8 (nnext 1 (some row))))))))) (fun W _ => conv_i64 70 2 Try.underlying70 Try.underlying2 _ (by have := nval_lt 8 (nnext 8 (rnext 1048576 (nnext 1 (nnext 8 (nnext 1 (some row)))))); simp only [e8] at this; omega) W)) (by assumption) ?_
          simp only [Act.put, sq1, sq2, sq3]
          refine wpAnyH_ready (rs := [19]) (by kernel_rfl) (by simp) ?_
          refine AllReadyH.cons rfl (fun K hK => ?_) AllReadyH.nil
          go_simp
          refine (rrow_rs (HRa5.out) 1048576 (by omega)).mono ?_
          rintro e wa6 ⟨Ba6, ma6, ca6, rfl, hy6, hr6, hg6⟩; have HRa6 := Lib.hid hr6; have HGa6 := Lib.hid hg6; have HBa6 := Lib.hid ((HBa5.out).grown hg6 (fun e => HNE.out (Option.some.inj e))); have HYa6 := Lib.hid hy6; clear hr6 hg6 hy6
          go_wp2_with fail
          refine hK.out _ _ ⟨(only_trans hHeld.1 HGa6.out), (HRa5.out).by_keep hHeld.2 HGa6.out⟩ (fun hHeld1 => ?_)
          clear hHeld hK K
          have hHeld := hHeld1
          clear hHeld1
          refine wpAnyH_weaken (S' := fun W => ((wq.grownBy W (some gq)) ∧ By W (fun _ => True) Ba3 ma3 (rval 1048576 (nnext 1 (nnext 8 (nnext 1 (some row)))))) ∧ By W (fun _ => True) Ba6 ma6 (rval 1048576 (nnext 8 (nnext 8 (rnext 1048576 (nnext 1 (nnext 8 (nnext 1 (some row))))))))) (fun W h => h.1) _ _ _ _ ?_
          have hHeld2 := And.intro hHeld HYa6.out
          clear hHeld
          have hHeld := hHeld2
          clear hHeld2
          refine tkq (i := 20) (d := 53) (v := (.string (ba (rval 1048576 (nnext 8 (nnext 8 (rnext 1048576 (nnext 1 (nnext 8 (nnext 1 (some row))))))))))) rfl rfl (yields_conv (by kernel_rfl) 28 9 (.tmp 52) rfl (.slice Ba6 ma6 ca6) (by simp [Act.eval]) (.string (ba (rval 1048576 (nnext 8 (nnext 8 (rnext 1048576 (nnext 1 (nnext 8 (nnext 1 (some row)))))))))) (fun W hW => run_string_by W 28 9 5 Try.underlying28 Try.underlying5 Try.underlying9 _ _ _ _ _ hW.2)) (by assumption) ?_
          simp only [Act.put, sq1, sq2, sq3]
          obtain ⟨V, hV⟩ : ∃ V : Value, V = .agg #[.int .i64 ((nval 1 (some row) : Nat) : Int), .int .i64 (sx 8 (nval 8 (nnext 1 (some row)))), .int .i64 ((nval 1 (nnext 8 (nnext 1 (some row))) : Nat) : Int), .string (ba (rval 1048576 (nnext 1 (nnext 8 (nnext 1 (some row)))))), .int .i64 (sx 8 (nval 8 (rnext 1048576 (nnext 1 (nnext 8 (nnext 1 (some row))))))), .int .i64 (sx 8 (nval 8 (nnext 8 (rnext 1048576 (nnext 1 (nnext 8 (nnext 1 (some row)))))))), .string (ba (rval 1048576 (nnext 8 (nnext 8 (rnext 1048576 (nnext 1 (nnext 8 (nnext 1 (some row)))))))))] := ⟨_, rfl⟩
          have HV := Lib.hid hV
          clear hV
          refine tkq (i := 21) (d := 54) (v := V) rfl rfl (yields_build (by kernel_rfl) 58 _ rfl _ (by simp only [List.map_toArray, List.map_cons, List.map_nil, Act.eval]; rfl) V (fun w _ => by rw [HV.out]; exact Try.build_c7 _ _ _ _ _ _ _ w)) (by assumption) ?_
          simp only [Act.put, sq1, sq2, sq3]
          refine wpAnyH_ready (rs := [23]) (by kernel_rfl) (by simp) ?_
          refine AllReadyH.cons (o := ⟨none, .store 58 (.tmp 10) (.tmp 54), _, _, _, none⟩) rfl (fun K hK => ?_) AllReadyH.nil
          have HBp := Lib.hid (HBa6.out); refine step_store_blk rfl 58 (.tmp 10) (.tmp 54) rfl gz [.int .i64 ((nval 1 (some row) : Nat) : Int), .int .i64 (sx 8 (nval 8 (nnext 1 (some row)))), .int .i64 ((nval 1 (nnext 8 (nnext 1 (some row))) : Nat) : Int), .string (ba (rval 1048576 (nnext 1 (nnext 8 (nnext 1 (some row)))))), .int .i64 (sx 8 (nval 8 (rnext 1048576 (nnext 1 (nnext 8 (nnext 1 (some row))))))), .int .i64 (sx 8 (nval 8 (nnext 8 (rnext 1048576 (nnext 1 (nnext 8 (nnext 1 (some row)))))))), .string (ba (rval 1048576 (nnext 8 (nnext 8 (rnext 1048576 (nnext 1 (nnext 8 (nnext 1 (some row)))))))))] (by simp [Act.eval]) (by simp only [Act.eval]; exact HV.out) 58 [.int .i64 0, .int .i64 0, .int .i64 0, .string (ba []), .int .i64 0, .int .i64 0, .string (ba [])] (HBa6.out) (by kernel_rfl) rfl (one7 _ _ _ _ _ _ _) ?_; intro we hbe hge; have HBe := Lib.hid hbe; have HGe := Lib.hid hge; have HRe := Lib.hid ((HRa6.out).other hge (fun b hb => ⟨fun e => HNE.out (by rw [Option.some.inj hb]; exact e), by have := Option.some.inj hb; have := HZ.out; have := HSZ.out; omega⟩)); clear hbe hge
          refine hK.out _ _ ⟨⟨(only_new hHeld.1.1 HGe.out HZ.out), By.far hHeld.1.2 HGe.out HBp.out (no_u8c _ _ _ _ _ _ _)⟩, By.far hHeld.2 HGe.out HBp.out (no_u8c _ _ _ _ _ _ _)⟩ (fun hHeld1 => ?_)
          clear hHeld hK K
          have hHeld := hHeld1
          clear hHeld1
          change wpAnyH _ _ _ _ _ _ _ (Act.put _ none undef) _
          simp only [Act.put]
          refine wpAnyH_done (by kernel_rfl) ?_ _
          have HG6 := Lib.hid (only_new hHeld.1.1 (only_refl _ _) HZ.out)
          clear hHeld
          go_wp2
          go_meet
          case rel => exact ⟨gz, rfl, (by rw [← HC0.out]; exact HBe.out), (by rw [← HST0.out]; exact HRe.out), HZ.out, HG6.out⟩
        ·as_aux_lemma =>
         obtain ⟨gz, hgz⟩ : ∃ gz, wa3.heap.size = gz := ⟨_, rfl⟩; refine step_alloc (by simp [Region.wanted]) 58 rfl (.pointer (some ⟨gz, 0, none⟩)) (wa3.alloc (.cells #[.int .i64 0, .int .i64 0, .int .i64 0, .string (ba []), .int .i64 0, .int .i64 0, .string (ba [])] 58)) (Try.alloc_cr gz wa3 hgz) ?_; have HBz : Hid (Blk (wa3.alloc (.cells #[.int .i64 0, .int .i64 0, .int .i64 0, .string (ba []), .int .i64 0, .int .i64 0, .string (ba [])] 58)) gz 58 [.int .i64 0, .int .i64 0, .int .i64 0, .string (ba []), .int .i64 0, .int .i64 0, .string (ba [])]) := Lib.hid (Blk.fresh hgz.symm rfl); have HRz := Lib.hid ((HRa3.out).alloc (.cells #[.int .i64 0, .int .i64 0, .int .i64 0, .string (ba []), .int .i64 0, .int .i64 0, .string (ba [])] 58)); have HNE : Hid (gz ≠ gq) := Lib.hid (fun e => by have h9 := (HRa3.out).lt; rw [← e, ← hgz] at h9; exact Nat.lt_irrefl _ h9); have HZ : Hid (wq.heap.size ≤ gz) := Lib.hid (hgz ▸ (hHeld.1).size); clear hgz
         refine hK.out _ _ ⟨(only_trans hHeld.1 (only_below ((Below.refl _ _).alloc (Nat.le_refl _) _))), hHeld.2.alloc _⟩ (fun hHeld1 => ?_)
         clear hHeld hK K
         have hHeld := hHeld1
         clear hHeld1
         change wpAnyH _ _ _ _ _ _ _ (Act.put _ (some (10 : Nat)) (.pointer (some ⟨gz, 0, none⟩))) _
         simp only [Act.put, sq1, sq2, sq3]
         refine wpAnyH_ready (rs := [13]) (by kernel_rfl) (by simp) ?_
         refine AllReadyH.cons rfl (fun K hK => ?_) AllReadyH.nil
         go_simp
         refine (rnumber_rs (HRz.out) 8 rfl).mono ?_
         rintro e wa4 ⟨rfl, hr4, hg4⟩; have HRa4 := Lib.hid hr4; have HGa4 := Lib.hid hg4; have HBa4 := Lib.hid ((HBz.out).grown hg4 (fun e => HNE.out (Option.some.inj e))); clear hr4 hg4
         go_wp2_with fail
         refine hK.out _ _ ⟨(only_trans hHeld.1 HGa4.out), (HRz.out).by_keep hHeld.2 HGa4.out⟩ (fun hHeld1 => ?_)
         clear hHeld hK K
         have hHeld := hHeld1
         clear hHeld1
         refine tkq (i := 14) (d := 47) (v := (.int .i64 (sx 8 (nval 8 (rnext 1048576 (nnext 1 (nnext 8 (nnext 1 (some row))))))))) rfl rfl (yields_conv (by kernel_rfl) 70 2 (.tmp 46) rfl (.int .u64 ((nval 8 (rnext 1048576 (nnext 1 (nnext 8 (nnext 1 (some row))))) : Nat) : Int)) (by simp [Act.eval]) (.int .i64 (sx 8 (nval 8 (rnext 1048576 (nnext 1 (nnext 8 (nnext 1 (some row)))))))) (fun W _ => conv_i64 70 2 Try.underlying70 Try.underlying2 _ (by have := nval_lt 8 (rnext 1048576 (nnext 1 (nnext 8 (nnext 1 (some row))))); simp only [e8] at this; omega) W)) (by assumption) ?_
         simp only [Act.put, sq1, sq2, sq3]
         refine wpAnyH_ready (rs := [16]) (by kernel_rfl) (by simp) ?_
         refine AllReadyH.cons rfl (fun K hK => ?_) AllReadyH.nil
         go_simp
         refine (rnumber_rs (HRa4.out) 8 rfl).mono ?_
         rintro e wa5 ⟨rfl, hr5, hg5⟩; have HRa5 := Lib.hid hr5; have HGa5 := Lib.hid hg5; have HBa5 := Lib.hid ((HBa4.out).grown hg5 (fun e => HNE.out (Option.some.inj e))); clear hr5 hg5
         go_wp2_with fail
         refine hK.out _ _ ⟨(only_trans hHeld.1 HGa5.out), (HRa4.out).by_keep hHeld.2 HGa5.out⟩ (fun hHeld1 => ?_)
         clear hHeld hK K
         have hHeld := hHeld1
         clear hHeld1
         refine tkq (i := 17) (d := 50) (v := (.int .i64 (sx 8 (nval 8 (nnext 8 (rnext 1048576 (nnext 1 (nnext 8 (nnext 1 (some row)))))))))) rfl rfl (yields_conv (by kernel_rfl) 70 2 (.tmp 49) rfl (.int .u64 ((nval 8 (nnext 8 (rnext 1048576 (nnext 1 (nnext 8 (nnext 1 (some row)))))) : Nat) : Int)) (by simp [Act.eval]) (.int .i64 (sx 8 (nval 8 (nnext 8 (rnext 1048576 (nnext 1 (nnext 8 (nnext 1 (some row))))))))) (fun W _ => conv_i64 70 2 Try.underlying70 Try.underlying2 _ (by have := nval_lt 8 (nnext 8 (rnext 1048576 (nnext 1 (nnext 8 (nnext 1 (some row)))))); simp only [e8] at this; omega) W)) (by assumption) ?_
         simp only [Act.put, sq1, sq2, sq3]
         refine wpAnyH_ready (rs := [19]) (by kernel_rfl) (by simp) ?_
         refine AllReadyH.cons rfl (fun K hK => ?_) AllReadyH.nil
         go_simp
         refine (rrow_rs (HRa5.out) 1048576 (by omega)).mono ?_
         rintro e wa6 ⟨Ba6, ma6, ca6, rfl, hy6, hr6, hg6⟩; have HRa6 := Lib.hid hr6; have HGa6 := Lib.hid hg6; have HBa6 := Lib.hid ((HBa5.out).grown hg6 (fun e => HNE.out (Option.some.inj e))); have HYa6 := Lib.hid hy6; clear hr6 hg6 hy6
         go_wp2_with fail
         refine hK.out _ _ ⟨(only_trans hHeld.1 HGa6.out), (HRa5.out).by_keep hHeld.2 HGa6.out⟩ (fun hHeld1 => ?_)
         clear hHeld hK K
         have hHeld := hHeld1
         clear hHeld1
         refine wpAnyH_weaken (S' := fun W => ((wq.grownBy W (some gq)) ∧ By W (fun _ => True) Ba3 ma3 (rval 1048576 (nnext 1 (nnext 8 (nnext 1 (some row)))))) ∧ By W (fun _ => True) Ba6 ma6 (rval 1048576 (nnext 8 (nnext 8 (rnext 1048576 (nnext 1 (nnext 8 (nnext 1 (some row))))))))) (fun W h => h.1) _ _ _ _ ?_
         have hHeld2 := And.intro hHeld HYa6.out
         clear hHeld
         have hHeld := hHeld2
         clear hHeld2
         refine tkq (i := 20) (d := 53) (v := (.string (ba (rval 1048576 (nnext 8 (nnext 8 (rnext 1048576 (nnext 1 (nnext 8 (nnext 1 (some row))))))))))) rfl rfl (yields_conv (by kernel_rfl) 28 9 (.tmp 52) rfl (.slice Ba6 ma6 ca6) (by simp [Act.eval]) (.string (ba (rval 1048576 (nnext 8 (nnext 8 (rnext 1048576 (nnext 1 (nnext 8 (nnext 1 (some row)))))))))) (fun W hW => run_string_by W 28 9 5 Try.underlying28 Try.underlying5 Try.underlying9 _ _ _ _ _ hW.2)) (by assumption) ?_
         simp only [Act.put, sq1, sq2, sq3]
         obtain ⟨V, hV⟩ : ∃ V : Value, V = .agg #[.int .i64 ((nval 1 (some row) : Nat) : Int), .int .i64 (sx 8 (nval 8 (nnext 1 (some row)))), .int .i64 ((nval 1 (nnext 8 (nnext 1 (some row))) : Nat) : Int), .string (ba (rval 1048576 (nnext 1 (nnext 8 (nnext 1 (some row)))))), .int .i64 (sx 8 (nval 8 (rnext 1048576 (nnext 1 (nnext 8 (nnext 1 (some row))))))), .int .i64 (sx 8 (nval 8 (nnext 8 (rnext 1048576 (nnext 1 (nnext 8 (nnext 1 (some row)))))))), .string (ba (rval 1048576 (nnext 8 (nnext 8 (rnext 1048576 (nnext 1 (nnext 8 (nnext 1 (some row)))))))))] := ⟨_, rfl⟩
         have HV := Lib.hid hV
         clear hV
         refine tkq (i := 21) (d := 54) (v := V) rfl rfl (yields_build (by kernel_rfl) 58 _ rfl _ (by simp only [List.map_toArray, List.map_cons, List.map_nil, Act.eval]; rfl) V (fun w _ => by rw [HV.out]; exact Try.build_c7 _ _ _ _ _ _ _ w)) (by assumption) ?_
         simp only [Act.put, sq1, sq2, sq3]
         refine wpAnyH_ready (rs := [23]) (by kernel_rfl) (by simp) ?_
         refine AllReadyH.cons (o := ⟨none, .store 58 (.tmp 10) (.tmp 54), _, _, _, none⟩) rfl (fun K hK => ?_) AllReadyH.nil
         have HBp := Lib.hid (HBa6.out); refine step_store_blk rfl 58 (.tmp 10) (.tmp 54) rfl gz [.int .i64 ((nval 1 (some row) : Nat) : Int), .int .i64 (sx 8 (nval 8 (nnext 1 (some row)))), .int .i64 ((nval 1 (nnext 8 (nnext 1 (some row))) : Nat) : Int), .string (ba (rval 1048576 (nnext 1 (nnext 8 (nnext 1 (some row)))))), .int .i64 (sx 8 (nval 8 (rnext 1048576 (nnext 1 (nnext 8 (nnext 1 (some row))))))), .int .i64 (sx 8 (nval 8 (nnext 8 (rnext 1048576 (nnext 1 (nnext 8 (nnext 1 (some row)))))))), .string (ba (rval 1048576 (nnext 8 (nnext 8 (rnext 1048576 (nnext 1 (nnext 8 (nnext 1 (some row)))))))))] (by simp [Act.eval]) (by simp only [Act.eval]; exact HV.out) 58 [.int .i64 0, .int .i64 0, .int .i64 0, .string (ba []), .int .i64 0, .int .i64 0, .string (ba [])] (HBa6.out) (by kernel_rfl) rfl (one7 _ _ _ _ _ _ _) ?_; intro we hbe hge; have HBe := Lib.hid hbe; have HGe := Lib.hid hge; have HRe := Lib.hid ((HRa6.out).other hge (fun b hb => ⟨fun e => HNE.out (by rw [Option.some.inj hb]; exact e), by have := Option.some.inj hb; have := HZ.out; have := HSZ.out; omega⟩)); clear hbe hge
         refine hK.out _ _ ⟨⟨(only_new hHeld.1.1 HGe.out HZ.out), By.far hHeld.1.2 HGe.out HBp.out (no_u8c _ _ _ _ _ _ _)⟩, By.far hHeld.2 HGe.out HBp.out (no_u8c _ _ _ _ _ _ _)⟩ (fun hHeld1 => ?_)
         clear hHeld hK K
         have hHeld := hHeld1
         clear hHeld1
         change wpAnyH _ _ _ _ _ _ _ (Act.put _ none undef) _
         simp only [Act.put]
         refine wpAnyH_done (by kernel_rfl) ?_ _
         have HG6 := Lib.hid (only_new hHeld.1.1 (only_refl _ _) HZ.out)
         clear hHeld
         go_wp2
         go_meet
         case rel => exact ⟨gz, rfl, (by rw [← HC0.out]; exact HBe.out), (by rw [← HST0.out]; exact HRe.out), HZ.out, HG6.out⟩
       ·as_aux_lemma =>
        obtain ⟨gz, hgz⟩ : ∃ gz, wa2.heap.size = gz := ⟨_, rfl⟩; refine step_alloc (by simp [Region.wanted]) 58 rfl (.pointer (some ⟨gz, 0, none⟩)) (wa2.alloc (.cells #[.int .i64 0, .int .i64 0, .int .i64 0, .string (ba []), .int .i64 0, .int .i64 0, .string (ba [])] 58)) (Try.alloc_cr gz wa2 hgz) ?_; have HBz : Hid (Blk (wa2.alloc (.cells #[.int .i64 0, .int .i64 0, .int .i64 0, .string (ba []), .int .i64 0, .int .i64 0, .string (ba [])] 58)) gz 58 [.int .i64 0, .int .i64 0, .int .i64 0, .string (ba []), .int .i64 0, .int .i64 0, .string (ba [])]) := Lib.hid (Blk.fresh hgz.symm rfl); have HRz := Lib.hid ((HRa2.out).alloc (.cells #[.int .i64 0, .int .i64 0, .int .i64 0, .string (ba []), .int .i64 0, .int .i64 0, .string (ba [])] 58)); have HNE : Hid (gz ≠ gq) := Lib.hid (fun e => by have h9 := (HRa2.out).lt; rw [← e, ← hgz] at h9; exact Nat.lt_irrefl _ h9); have HZ : Hid (wq.heap.size ≤ gz) := Lib.hid (hgz ▸ (hHeld).size); clear hgz
        refine hK.out _ _ (only_trans hHeld (only_below ((Below.refl _ _).alloc (Nat.le_refl _) _))) (fun hHeld1 => ?_)
        clear hHeld hK K
        have hHeld := hHeld1
        clear hHeld1
        change wpAnyH _ _ _ _ _ _ _ (Act.put _ (some (10 : Nat)) (.pointer (some ⟨gz, 0, none⟩))) _
        simp only [Act.put, sq1, sq2, sq3]
        refine wpAnyH_ready (rs := [10]) (by kernel_rfl) (by simp) ?_
        refine AllReadyH.cons rfl (fun K hK => ?_) AllReadyH.nil
        go_simp
        refine (rrow_rs (HRz.out) 1048576 (by omega)).mono ?_
        rintro e wa3 ⟨Ba3, ma3, ca3, rfl, hy3, hr3, hg3⟩; have HRa3 := Lib.hid hr3; have HGa3 := Lib.hid hg3; have HBa3 := Lib.hid ((HBz.out).grown hg3 (fun e => HNE.out (Option.some.inj e))); have HYa3 := Lib.hid hy3; clear hr3 hg3 hy3
        go_wp2_with fail
        refine hK.out _ _ (only_trans hHeld HGa3.out) (fun hHeld1 => ?_)
        clear hHeld hK K
        have hHeld := hHeld1
        clear hHeld1
        refine wpAnyH_weaken (S' := fun W => (wq.grownBy W (some gq)) ∧ By W (fun _ => True) Ba3 ma3 (rval 1048576 (nnext 1 (nnext 8 (nnext 1 (some row)))))) (fun W h => h.1) _ _ _ _ ?_
        have hHeld2 := And.intro hHeld HYa3.out
        clear hHeld
        have hHeld := hHeld2
        clear hHeld2
        refine tkq (i := 11) (d := 44) (v := (.string (ba (rval 1048576 (nnext 1 (nnext 8 (nnext 1 (some row)))))))) rfl rfl (yields_conv (by kernel_rfl) 28 9 (.tmp 43) rfl (.slice Ba3 ma3 ca3) (by simp [Act.eval]) (.string (ba (rval 1048576 (nnext 1 (nnext 8 (nnext 1 (some row))))))) (fun W hW => run_string_by W 28 9 5 Try.underlying28 Try.underlying5 Try.underlying9 _ _ _ _ _ hW.2)) (by assumption) ?_
        simp only [Act.put, sq1, sq2, sq3]
        refine wpAnyH_ready (rs := [13]) (by kernel_rfl) (by simp) ?_
        refine AllReadyH.cons rfl (fun K hK => ?_) AllReadyH.nil
        go_simp
        refine (rnumber_rs (HRa3.out) 8 rfl).mono ?_
        rintro e wa4 ⟨rfl, hr4, hg4⟩; have HRa4 := Lib.hid hr4; have HGa4 := Lib.hid hg4; have HBa4 := Lib.hid ((HBa3.out).grown hg4 (fun e => HNE.out (Option.some.inj e))); clear hr4 hg4
        go_wp2_with fail
        refine hK.out _ _ ⟨(only_trans hHeld.1 HGa4.out), (HRa3.out).by_keep hHeld.2 HGa4.out⟩ (fun hHeld1 => ?_)
        clear hHeld hK K
        have hHeld := hHeld1
        clear hHeld1
        refine tkq (i := 14) (d := 47) (v := (.int .i64 (sx 8 (nval 8 (rnext 1048576 (nnext 1 (nnext 8 (nnext 1 (some row))))))))) rfl rfl (yields_conv (by kernel_rfl) 70 2 (.tmp 46) rfl (.int .u64 ((nval 8 (rnext 1048576 (nnext 1 (nnext 8 (nnext 1 (some row))))) : Nat) : Int)) (by simp [Act.eval]) (.int .i64 (sx 8 (nval 8 (rnext 1048576 (nnext 1 (nnext 8 (nnext 1 (some row)))))))) (fun W _ => conv_i64 70 2 Try.underlying70 Try.underlying2 _ (by have := nval_lt 8 (rnext 1048576 (nnext 1 (nnext 8 (nnext 1 (some row))))); simp only [e8] at this; omega) W)) (by assumption) ?_
        simp only [Act.put, sq1, sq2, sq3]
        refine wpAnyH_ready (rs := [16]) (by kernel_rfl) (by simp) ?_
        refine AllReadyH.cons rfl (fun K hK => ?_) AllReadyH.nil
        go_simp
        refine (rnumber_rs (HRa4.out) 8 rfl).mono ?_
        rintro e wa5 ⟨rfl, hr5, hg5⟩; have HRa5 := Lib.hid hr5; have HGa5 := Lib.hid hg5; have HBa5 := Lib.hid ((HBa4.out).grown hg5 (fun e => HNE.out (Option.some.inj e))); clear hr5 hg5
        go_wp2_with fail
        refine hK.out _ _ ⟨(only_trans hHeld.1 HGa5.out), (HRa4.out).by_keep hHeld.2 HGa5.out⟩ (fun hHeld1 => ?_)
        clear hHeld hK K
        have hHeld := hHeld1
        clear hHeld1
        refine tkq (i := 17) (d := 50) (v := (.int .i64 (sx 8 (nval 8 (nnext 8 (rnext 1048576 (nnext 1 (nnext 8 (nnext 1 (some row)))))))))) rfl rfl (yields_conv (by kernel_rfl) 70 2 (.tmp 49) rfl (.int .u64 ((nval 8 (nnext 8 (rnext 1048576 (nnext 1 (nnext 8 (nnext 1 (some row)))))) : Nat) : Int)) (by simp [Act.eval]) (.int .i64 (sx 8 (nval 8 (nnext 8 (rnext 1048576 (nnext 1 (nnext 8 (nnext 1 (some row))))))))) (fun W _ => conv_i64 70 2 Try.underlying70 Try.underlying2 _ (by have := nval_lt 8 (nnext 8 (rnext 1048576 (nnext 1 (nnext 8 (nnext 1 (some row)))))); simp only [e8] at this; omega) W)) (by assumption) ?_
        simp only [Act.put, sq1, sq2, sq3]
        refine wpAnyH_ready (rs := [19]) (by kernel_rfl) (by simp) ?_
        refine AllReadyH.cons rfl (fun K hK => ?_) AllReadyH.nil
        go_simp
        refine (rrow_rs (HRa5.out) 1048576 (by omega)).mono ?_
        rintro e wa6 ⟨Ba6, ma6, ca6, rfl, hy6, hr6, hg6⟩; have HRa6 := Lib.hid hr6; have HGa6 := Lib.hid hg6; have HBa6 := Lib.hid ((HBa5.out).grown hg6 (fun e => HNE.out (Option.some.inj e))); have HYa6 := Lib.hid hy6; clear hr6 hg6 hy6
        go_wp2_with fail
        refine hK.out _ _ ⟨(only_trans hHeld.1 HGa6.out), (HRa5.out).by_keep hHeld.2 HGa6.out⟩ (fun hHeld1 => ?_)
        clear hHeld hK K
        have hHeld := hHeld1
        clear hHeld1
        refine wpAnyH_weaken (S' := fun W => ((wq.grownBy W (some gq)) ∧ By W (fun _ => True) Ba3 ma3 (rval 1048576 (nnext 1 (nnext 8 (nnext 1 (some row)))))) ∧ By W (fun _ => True) Ba6 ma6 (rval 1048576 (nnext 8 (nnext 8 (rnext 1048576 (nnext 1 (nnext 8 (nnext 1 (some row))))))))) (fun W h => h.1) _ _ _ _ ?_
        have hHeld2 := And.intro hHeld HYa6.out
        clear hHeld
        have hHeld := hHeld2
        clear hHeld2
        refine tkq (i := 20) (d := 53) (v := (.string (ba (rval 1048576 (nnext 8 (nnext 8 (rnext 1048576 (nnext 1 (nnext 8 (nnext 1 (some row))))))))))) rfl rfl (yields_conv (by kernel_rfl) 28 9 (.tmp 52) rfl (.slice Ba6 ma6 ca6) (by simp [Act.eval]) (.string (ba (rval 1048576 (nnext 8 (nnext 8 (rnext 1048576 (nnext 1 (nnext 8 (nnext 1 (some row)))))))))) (fun W hW => run_string_by W 28 9 5 Try.underlying28 Try.underlying5 Try.underlying9 _ _ _ _ _ hW.2)) (by assumption) ?_
        simp only [Act.put, sq1, sq2, sq3]
        obtain ⟨V, hV⟩ : ∃ V : Value, V = .agg #[.int .i64 ((nval 1 (some row) : Nat) : Int), .int .i64 (sx 8 (nval 8 (nnext 1 (some row)))), .int .i64 ((nval 1 (nnext 8 (nnext 1 (some row))) : Nat) : Int), .string (ba (rval 1048576 (nnext 1 (nnext 8 (nnext 1 (some row)))))), .int .i64 (sx 8 (nval 8 (rnext 1048576 (nnext 1 (nnext 8 (nnext 1 (some row))))))), .int .i64 (sx 8 (nval 8 (nnext 8 (rnext 1048576 (nnext 1 (nnext 8 (nnext 1 (some row)))))))), .string (ba (rval 1048576 (nnext 8 (nnext 8 (rnext 1048576 (nnext 1 (nnext 8 (nnext 1 (some row)))))))))] := ⟨_, rfl⟩
        have HV := Lib.hid hV
        clear hV
        refine tkq (i := 21) (d := 54) (v := V) rfl rfl (yields_build (by kernel_rfl) 58 _ rfl _ (by simp only [List.map_toArray, List.map_cons, List.map_nil, Act.eval]; rfl) V (fun w _ => by rw [HV.out]; exact Try.build_c7 _ _ _ _ _ _ _ w)) (by assumption) ?_
        simp only [Act.put, sq1, sq2, sq3]
        refine wpAnyH_ready (rs := [23]) (by kernel_rfl) (by simp) ?_
        refine AllReadyH.cons (o := ⟨none, .store 58 (.tmp 10) (.tmp 54), _, _, _, none⟩) rfl (fun K hK => ?_) AllReadyH.nil
        have HBp := Lib.hid (HBa6.out); refine step_store_blk rfl 58 (.tmp 10) (.tmp 54) rfl gz [.int .i64 ((nval 1 (some row) : Nat) : Int), .int .i64 (sx 8 (nval 8 (nnext 1 (some row)))), .int .i64 ((nval 1 (nnext 8 (nnext 1 (some row))) : Nat) : Int), .string (ba (rval 1048576 (nnext 1 (nnext 8 (nnext 1 (some row)))))), .int .i64 (sx 8 (nval 8 (rnext 1048576 (nnext 1 (nnext 8 (nnext 1 (some row))))))), .int .i64 (sx 8 (nval 8 (nnext 8 (rnext 1048576 (nnext 1 (nnext 8 (nnext 1 (some row)))))))), .string (ba (rval 1048576 (nnext 8 (nnext 8 (rnext 1048576 (nnext 1 (nnext 8 (nnext 1 (some row)))))))))] (by simp [Act.eval]) (by simp only [Act.eval]; exact HV.out) 58 [.int .i64 0, .int .i64 0, .int .i64 0, .string (ba []), .int .i64 0, .int .i64 0, .string (ba [])] (HBa6.out) (by kernel_rfl) rfl (one7 _ _ _ _ _ _ _) ?_; intro we hbe hge; have HBe := Lib.hid hbe; have HGe := Lib.hid hge; have HRe := Lib.hid ((HRa6.out).other hge (fun b hb => ⟨fun e => HNE.out (by rw [Option.some.inj hb]; exact e), by have := Option.some.inj hb; have := HZ.out; have := HSZ.out; omega⟩)); clear hbe hge
        refine hK.out _ _ ⟨⟨(only_new hHeld.1.1 HGe.out HZ.out), By.far hHeld.1.2 HGe.out HBp.out (no_u8c _ _ _ _ _ _ _)⟩, By.far hHeld.2 HGe.out HBp.out (no_u8c _ _ _ _ _ _ _)⟩ (fun hHeld1 => ?_)
        clear hHeld hK K
        have hHeld := hHeld1
        clear hHeld1
        change wpAnyH _ _ _ _ _ _ _ (Act.put _ none undef) _
        simp only [Act.put]
        refine wpAnyH_done (by kernel_rfl) ?_ _
        have HG6 := Lib.hid (only_new hHeld.1.1 (only_refl _ _) HZ.out)
        clear hHeld
        go_wp2
        go_meet
        case rel => exact ⟨gz, rfl, (by rw [← HC0.out]; exact HBe.out), (by rw [← HST0.out]; exact HRe.out), HZ.out, HG6.out⟩
      ·as_aux_lemma =>
       obtain ⟨gz, hgz⟩ : ∃ gz, wa1.heap.size = gz := ⟨_, rfl⟩; refine step_alloc (by simp [Region.wanted]) 58 rfl (.pointer (some ⟨gz, 0, none⟩)) (wa1.alloc (.cells #[.int .i64 0, .int .i64 0, .int .i64 0, .string (ba []), .int .i64 0, .int .i64 0, .string (ba [])] 58)) (Try.alloc_cr gz wa1 hgz) ?_; have HBz : Hid (Blk (wa1.alloc (.cells #[.int .i64 0, .int .i64 0, .int .i64 0, .string (ba []), .int .i64 0, .int .i64 0, .string (ba [])] 58)) gz 58 [.int .i64 0, .int .i64 0, .int .i64 0, .string (ba []), .int .i64 0, .int .i64 0, .string (ba [])]) := Lib.hid (Blk.fresh hgz.symm rfl); have HRz := Lib.hid ((HRa1.out).alloc (.cells #[.int .i64 0, .int .i64 0, .int .i64 0, .string (ba []), .int .i64 0, .int .i64 0, .string (ba [])] 58)); have HNE : Hid (gz ≠ gq) := Lib.hid (fun e => by have h9 := (HRa1.out).lt; rw [← e, ← hgz] at h9; exact Nat.lt_irrefl _ h9); have HZ : Hid (wq.heap.size ≤ gz) := Lib.hid (hgz ▸ (hHeld).size); clear hgz
       refine hK.out _ _ (only_trans hHeld (only_below ((Below.refl _ _).alloc (Nat.le_refl _) _))) (fun hHeld1 => ?_)
       clear hHeld hK K
       have hHeld := hHeld1
       clear hHeld1
       change wpAnyH _ _ _ _ _ _ _ (Act.put _ (some (10 : Nat)) (.pointer (some ⟨gz, 0, none⟩))) _
       simp only [Act.put, sq1, sq2, sq3]
       refine wpAnyH_ready (rs := [7]) (by kernel_rfl) (by simp) ?_
       refine AllReadyH.cons rfl (fun K hK => ?_) AllReadyH.nil
       go_simp
       refine (rnumber_rs (HRz.out) 1 rfl).mono ?_
       rintro e wa2 ⟨rfl, hr2, hg2⟩; have HRa2 := Lib.hid hr2; have HGa2 := Lib.hid hg2; have HBa2 := Lib.hid ((HBz.out).grown hg2 (fun e => HNE.out (Option.some.inj e))); clear hr2 hg2
       go_wp2_with fail
       refine hK.out _ _ (only_trans hHeld HGa2.out) (fun hHeld1 => ?_)
       clear hHeld hK K
       have hHeld := hHeld1
       clear hHeld1
       refine tkq (i := 8) (d := 41) (v := (.int .i64 ((nval 1 (nnext 8 (nnext 1 (some row))) : Nat) : Int))) rfl rfl (yields_conv (by kernel_rfl) 70 3 (.tmp 40) rfl (.int .u64 ((nval 1 (nnext 8 (nnext 1 (some row))) : Nat) : Int)) (by simp [Act.eval]) (.int .i64 ((nval 1 (nnext 8 (nnext 1 (some row))) : Nat) : Int)) (fun W _ => conv_small 70 3 Try.underlying70 Try.underlying3 _ (by have := nval_lt 1 (nnext 8 (nnext 1 (some row))); simp only [e1] at this; omega) W)) (by assumption) ?_
       simp only [Act.put, sq1, sq2, sq3]
       refine wpAnyH_ready (rs := [10]) (by kernel_rfl) (by simp) ?_
       refine AllReadyH.cons rfl (fun K hK => ?_) AllReadyH.nil
       go_simp
       refine (rrow_rs (HRa2.out) 1048576 (by omega)).mono ?_
       rintro e wa3 ⟨Ba3, ma3, ca3, rfl, hy3, hr3, hg3⟩; have HRa3 := Lib.hid hr3; have HGa3 := Lib.hid hg3; have HBa3 := Lib.hid ((HBa2.out).grown hg3 (fun e => HNE.out (Option.some.inj e))); have HYa3 := Lib.hid hy3; clear hr3 hg3 hy3
       go_wp2_with fail
       refine hK.out _ _ (only_trans hHeld HGa3.out) (fun hHeld1 => ?_)
       clear hHeld hK K
       have hHeld := hHeld1
       clear hHeld1
       refine wpAnyH_weaken (S' := fun W => (wq.grownBy W (some gq)) ∧ By W (fun _ => True) Ba3 ma3 (rval 1048576 (nnext 1 (nnext 8 (nnext 1 (some row)))))) (fun W h => h.1) _ _ _ _ ?_
       have hHeld2 := And.intro hHeld HYa3.out
       clear hHeld
       have hHeld := hHeld2
       clear hHeld2
       refine tkq (i := 11) (d := 44) (v := (.string (ba (rval 1048576 (nnext 1 (nnext 8 (nnext 1 (some row)))))))) rfl rfl (yields_conv (by kernel_rfl) 28 9 (.tmp 43) rfl (.slice Ba3 ma3 ca3) (by simp [Act.eval]) (.string (ba (rval 1048576 (nnext 1 (nnext 8 (nnext 1 (some row))))))) (fun W hW => run_string_by W 28 9 5 Try.underlying28 Try.underlying5 Try.underlying9 _ _ _ _ _ hW.2)) (by assumption) ?_
       simp only [Act.put, sq1, sq2, sq3]
       refine wpAnyH_ready (rs := [13]) (by kernel_rfl) (by simp) ?_
       refine AllReadyH.cons rfl (fun K hK => ?_) AllReadyH.nil
       go_simp
       refine (rnumber_rs (HRa3.out) 8 rfl).mono ?_
       rintro e wa4 ⟨rfl, hr4, hg4⟩; have HRa4 := Lib.hid hr4; have HGa4 := Lib.hid hg4; have HBa4 := Lib.hid ((HBa3.out).grown hg4 (fun e => HNE.out (Option.some.inj e))); clear hr4 hg4
       go_wp2_with fail
       refine hK.out _ _ ⟨(only_trans hHeld.1 HGa4.out), (HRa3.out).by_keep hHeld.2 HGa4.out⟩ (fun hHeld1 => ?_)
       clear hHeld hK K
       have hHeld := hHeld1
       clear hHeld1
       refine tkq (i := 14) (d := 47) (v := (.int .i64 (sx 8 (nval 8 (rnext 1048576 (nnext 1 (nnext 8 (nnext 1 (some row))))))))) rfl rfl (yields_conv (by kernel_rfl) 70 2 (.tmp 46) rfl (.int .u64 ((nval 8 (rnext 1048576 (nnext 1 (nnext 8 (nnext 1 (some row))))) : Nat) : Int)) (by simp [Act.eval]) (.int .i64 (sx 8 (nval 8 (rnext 1048576 (nnext 1 (nnext 8 (nnext 1 (some row)))))))) (fun W _ => conv_i64 70 2 Try.underlying70 Try.underlying2 _ (by have := nval_lt 8 (rnext 1048576 (nnext 1 (nnext 8 (nnext 1 (some row))))); simp only [e8] at this; omega) W)) (by assumption) ?_
       simp only [Act.put, sq1, sq2, sq3]
       refine wpAnyH_ready (rs := [16]) (by kernel_rfl) (by simp) ?_
       refine AllReadyH.cons rfl (fun K hK => ?_) AllReadyH.nil
       go_simp
       refine (rnumber_rs (HRa4.out) 8 rfl).mono ?_
       rintro e wa5 ⟨rfl, hr5, hg5⟩; have HRa5 := Lib.hid hr5; have HGa5 := Lib.hid hg5; have HBa5 := Lib.hid ((HBa4.out).grown hg5 (fun e => HNE.out (Option.some.inj e))); clear hr5 hg5
       go_wp2_with fail
       refine hK.out _ _ ⟨(only_trans hHeld.1 HGa5.out), (HRa4.out).by_keep hHeld.2 HGa5.out⟩ (fun hHeld1 => ?_)
       clear hHeld hK K
       have hHeld := hHeld1
       clear hHeld1
       refine tkq (i := 17) (d := 50) (v := (.int .i64 (sx 8 (nval 8 (nnext 8 (rnext 1048576 (nnext 1 (nnext 8 (nnext 1 (some row)))))))))) rfl rfl (yields_conv (by kernel_rfl) 70 2 (.tmp 49) rfl (.int .u64 ((nval 8 (nnext 8 (rnext 1048576 (nnext 1 (nnext 8 (nnext 1 (some row)))))) : Nat) : Int)) (by simp [Act.eval]) (.int .i64 (sx 8 (nval 8 (nnext 8 (rnext 1048576 (nnext 1 (nnext 8 (nnext 1 (some row))))))))) (fun W _ => conv_i64 70 2 Try.underlying70 Try.underlying2 _ (by have := nval_lt 8 (nnext 8 (rnext 1048576 (nnext 1 (nnext 8 (nnext 1 (some row)))))); simp only [e8] at this; omega) W)) (by assumption) ?_
       simp only [Act.put, sq1, sq2, sq3]
       refine wpAnyH_ready (rs := [19]) (by kernel_rfl) (by simp) ?_
       refine AllReadyH.cons rfl (fun K hK => ?_) AllReadyH.nil
       go_simp
       refine (rrow_rs (HRa5.out) 1048576 (by omega)).mono ?_
       rintro e wa6 ⟨Ba6, ma6, ca6, rfl, hy6, hr6, hg6⟩; have HRa6 := Lib.hid hr6; have HGa6 := Lib.hid hg6; have HBa6 := Lib.hid ((HBa5.out).grown hg6 (fun e => HNE.out (Option.some.inj e))); have HYa6 := Lib.hid hy6; clear hr6 hg6 hy6
       go_wp2_with fail
       refine hK.out _ _ ⟨(only_trans hHeld.1 HGa6.out), (HRa5.out).by_keep hHeld.2 HGa6.out⟩ (fun hHeld1 => ?_)
       clear hHeld hK K
       have hHeld := hHeld1
       clear hHeld1
       refine wpAnyH_weaken (S' := fun W => ((wq.grownBy W (some gq)) ∧ By W (fun _ => True) Ba3 ma3 (rval 1048576 (nnext 1 (nnext 8 (nnext 1 (some row)))))) ∧ By W (fun _ => True) Ba6 ma6 (rval 1048576 (nnext 8 (nnext 8 (rnext 1048576 (nnext 1 (nnext 8 (nnext 1 (some row))))))))) (fun W h => h.1) _ _ _ _ ?_
       have hHeld2 := And.intro hHeld HYa6.out
       clear hHeld
       have hHeld := hHeld2
       clear hHeld2
       refine tkq (i := 20) (d := 53) (v := (.string (ba (rval 1048576 (nnext 8 (nnext 8 (rnext 1048576 (nnext 1 (nnext 8 (nnext 1 (some row))))))))))) rfl rfl (yields_conv (by kernel_rfl) 28 9 (.tmp 52) rfl (.slice Ba6 ma6 ca6) (by simp [Act.eval]) (.string (ba (rval 1048576 (nnext 8 (nnext 8 (rnext 1048576 (nnext 1 (nnext 8 (nnext 1 (some row)))))))))) (fun W hW => run_string_by W 28 9 5 Try.underlying28 Try.underlying5 Try.underlying9 _ _ _ _ _ hW.2)) (by assumption) ?_
       simp only [Act.put, sq1, sq2, sq3]
       obtain ⟨V, hV⟩ : ∃ V : Value, V = .agg #[.int .i64 ((nval 1 (some row) : Nat) : Int), .int .i64 (sx 8 (nval 8 (nnext 1 (some row)))), .int .i64 ((nval 1 (nnext 8 (nnext 1 (some row))) : Nat) : Int), .string (ba (rval 1048576 (nnext 1 (nnext 8 (nnext 1 (some row)))))), .int .i64 (sx 8 (nval 8 (rnext 1048576 (nnext 1 (nnext 8 (nnext 1 (some row))))))), .int .i64 (sx 8 (nval 8 (nnext 8 (rnext 1048576 (nnext 1 (nnext 8 (nnext 1 (some row)))))))), .string (ba (rval 1048576 (nnext 8 (nnext 8 (rnext 1048576 (nnext 1 (nnext 8 (nnext 1 (some row)))))))))] := ⟨_, rfl⟩
       have HV := Lib.hid hV
       clear hV
       refine tkq (i := 21) (d := 54) (v := V) rfl rfl (yields_build (by kernel_rfl) 58 _ rfl _ (by simp only [List.map_toArray, List.map_cons, List.map_nil, Act.eval]; rfl) V (fun w _ => by rw [HV.out]; exact Try.build_c7 _ _ _ _ _ _ _ w)) (by assumption) ?_
       simp only [Act.put, sq1, sq2, sq3]
       refine wpAnyH_ready (rs := [23]) (by kernel_rfl) (by simp) ?_
       refine AllReadyH.cons (o := ⟨none, .store 58 (.tmp 10) (.tmp 54), _, _, _, none⟩) rfl (fun K hK => ?_) AllReadyH.nil
       have HBp := Lib.hid (HBa6.out); refine step_store_blk rfl 58 (.tmp 10) (.tmp 54) rfl gz [.int .i64 ((nval 1 (some row) : Nat) : Int), .int .i64 (sx 8 (nval 8 (nnext 1 (some row)))), .int .i64 ((nval 1 (nnext 8 (nnext 1 (some row))) : Nat) : Int), .string (ba (rval 1048576 (nnext 1 (nnext 8 (nnext 1 (some row)))))), .int .i64 (sx 8 (nval 8 (rnext 1048576 (nnext 1 (nnext 8 (nnext 1 (some row))))))), .int .i64 (sx 8 (nval 8 (nnext 8 (rnext 1048576 (nnext 1 (nnext 8 (nnext 1 (some row)))))))), .string (ba (rval 1048576 (nnext 8 (nnext 8 (rnext 1048576 (nnext 1 (nnext 8 (nnext 1 (some row)))))))))] (by simp [Act.eval]) (by simp only [Act.eval]; exact HV.out) 58 [.int .i64 0, .int .i64 0, .int .i64 0, .string (ba []), .int .i64 0, .int .i64 0, .string (ba [])] (HBa6.out) (by kernel_rfl) rfl (one7 _ _ _ _ _ _ _) ?_; intro we hbe hge; have HBe := Lib.hid hbe; have HGe := Lib.hid hge; have HRe := Lib.hid ((HRa6.out).other hge (fun b hb => ⟨fun e => HNE.out (by rw [Option.some.inj hb]; exact e), by have := Option.some.inj hb; have := HZ.out; have := HSZ.out; omega⟩)); clear hbe hge
       refine hK.out _ _ ⟨⟨(only_new hHeld.1.1 HGe.out HZ.out), By.far hHeld.1.2 HGe.out HBp.out (no_u8c _ _ _ _ _ _ _)⟩, By.far hHeld.2 HGe.out HBp.out (no_u8c _ _ _ _ _ _ _)⟩ (fun hHeld1 => ?_)
       clear hHeld hK K
       have hHeld := hHeld1
       clear hHeld1
       change wpAnyH _ _ _ _ _ _ _ (Act.put _ none undef) _
       simp only [Act.put]
       refine wpAnyH_done (by kernel_rfl) ?_ _
       have HG6 := Lib.hid (only_new hHeld.1.1 (only_refl _ _) HZ.out)
       clear hHeld
       go_wp2
       go_meet
       case rel => exact ⟨gz, rfl, (by rw [← HC0.out]; exact HBe.out), (by rw [← HST0.out]; exact HRe.out), HZ.out, HG6.out⟩
     ·as_aux_lemma =>
      obtain ⟨gz, hgz⟩ : ∃ gz, wa0.heap.size = gz := ⟨_, rfl⟩; refine step_alloc (by simp [Region.wanted]) 58 rfl (.pointer (some ⟨gz, 0, none⟩)) (wa0.alloc (.cells #[.int .i64 0, .int .i64 0, .int .i64 0, .string (ba []), .int .i64 0, .int .i64 0, .string (ba [])] 58)) (Try.alloc_cr gz wa0 hgz) ?_; have HBz : Hid (Blk (wa0.alloc (.cells #[.int .i64 0, .int .i64 0, .int .i64 0, .string (ba []), .int .i64 0, .int .i64 0, .string (ba [])] 58)) gz 58 [.int .i64 0, .int .i64 0, .int .i64 0, .string (ba []), .int .i64 0, .int .i64 0, .string (ba [])]) := Lib.hid (Blk.fresh hgz.symm rfl); have HRz := Lib.hid ((HRa0.out).alloc (.cells #[.int .i64 0, .int .i64 0, .int .i64 0, .string (ba []), .int .i64 0, .int .i64 0, .string (ba [])] 58)); have HNE : Hid (gz ≠ gq) := Lib.hid (fun e => by have h9 := (HRa0.out).lt; rw [← e, ← hgz] at h9; exact Nat.lt_irrefl _ h9); have HZ : Hid (wq.heap.size ≤ gz) := Lib.hid (hgz ▸ (hHeld).size); clear hgz
      refine hK.out _ _ (only_trans hHeld (only_below ((Below.refl _ _).alloc (Nat.le_refl _) _))) (fun hHeld1 => ?_)
      clear hHeld hK K
      have hHeld := hHeld1
      clear hHeld1
      change wpAnyH _ _ _ _ _ _ _ (Act.put _ (some (10 : Nat)) (.pointer (some ⟨gz, 0, none⟩))) _
      simp only [Act.put, sq1, sq2, sq3]
      refine wpAnyH_ready (rs := [4]) (by kernel_rfl) (by simp) ?_
      refine AllReadyH.cons rfl (fun K hK => ?_) AllReadyH.nil
      go_simp
      refine (rnumber_rs (HRz.out) 8 rfl).mono ?_
      rintro e wa1 ⟨rfl, hr1, hg1⟩; have HRa1 := Lib.hid hr1; have HGa1 := Lib.hid hg1; have HBa1 := Lib.hid ((HBz.out).grown hg1 (fun e => HNE.out (Option.some.inj e))); clear hr1 hg1
      go_wp2_with fail
      refine hK.out _ _ (only_trans hHeld HGa1.out) (fun hHeld1 => ?_)
      clear hHeld hK K
      have hHeld := hHeld1
      clear hHeld1
      refine tkq (i := 5) (d := 38) (v := (.int .i64 (sx 8 (nval 8 (nnext 1 (some row)))))) rfl rfl (yields_conv (by kernel_rfl) 70 2 (.tmp 37) rfl (.int .u64 ((nval 8 (nnext 1 (some row)) : Nat) : Int)) (by simp [Act.eval]) (.int .i64 (sx 8 (nval 8 (nnext 1 (some row))))) (fun W _ => conv_i64 70 2 Try.underlying70 Try.underlying2 _ (by have := nval_lt 8 (nnext 1 (some row)); simp only [e8] at this; omega) W)) (by assumption) ?_
      simp only [Act.put, sq1, sq2, sq3]
      refine wpAnyH_ready (rs := [7]) (by kernel_rfl) (by simp) ?_
      refine AllReadyH.cons rfl (fun K hK => ?_) AllReadyH.nil
      go_simp
      refine (rnumber_rs (HRa1.out) 1 rfl).mono ?_
      rintro e wa2 ⟨rfl, hr2, hg2⟩; have HRa2 := Lib.hid hr2; have HGa2 := Lib.hid hg2; have HBa2 := Lib.hid ((HBa1.out).grown hg2 (fun e => HNE.out (Option.some.inj e))); clear hr2 hg2
      go_wp2_with fail
      refine hK.out _ _ (only_trans hHeld HGa2.out) (fun hHeld1 => ?_)
      clear hHeld hK K
      have hHeld := hHeld1
      clear hHeld1
      refine tkq (i := 8) (d := 41) (v := (.int .i64 ((nval 1 (nnext 8 (nnext 1 (some row))) : Nat) : Int))) rfl rfl (yields_conv (by kernel_rfl) 70 3 (.tmp 40) rfl (.int .u64 ((nval 1 (nnext 8 (nnext 1 (some row))) : Nat) : Int)) (by simp [Act.eval]) (.int .i64 ((nval 1 (nnext 8 (nnext 1 (some row))) : Nat) : Int)) (fun W _ => conv_small 70 3 Try.underlying70 Try.underlying3 _ (by have := nval_lt 1 (nnext 8 (nnext 1 (some row))); simp only [e1] at this; omega) W)) (by assumption) ?_
      simp only [Act.put, sq1, sq2, sq3]
      refine wpAnyH_ready (rs := [10]) (by kernel_rfl) (by simp) ?_
      refine AllReadyH.cons rfl (fun K hK => ?_) AllReadyH.nil
      go_simp
      refine (rrow_rs (HRa2.out) 1048576 (by omega)).mono ?_
      rintro e wa3 ⟨Ba3, ma3, ca3, rfl, hy3, hr3, hg3⟩; have HRa3 := Lib.hid hr3; have HGa3 := Lib.hid hg3; have HBa3 := Lib.hid ((HBa2.out).grown hg3 (fun e => HNE.out (Option.some.inj e))); have HYa3 := Lib.hid hy3; clear hr3 hg3 hy3
      go_wp2_with fail
      refine hK.out _ _ (only_trans hHeld HGa3.out) (fun hHeld1 => ?_)
      clear hHeld hK K
      have hHeld := hHeld1
      clear hHeld1
      refine wpAnyH_weaken (S' := fun W => (wq.grownBy W (some gq)) ∧ By W (fun _ => True) Ba3 ma3 (rval 1048576 (nnext 1 (nnext 8 (nnext 1 (some row)))))) (fun W h => h.1) _ _ _ _ ?_
      have hHeld2 := And.intro hHeld HYa3.out
      clear hHeld
      have hHeld := hHeld2
      clear hHeld2
      refine tkq (i := 11) (d := 44) (v := (.string (ba (rval 1048576 (nnext 1 (nnext 8 (nnext 1 (some row)))))))) rfl rfl (yields_conv (by kernel_rfl) 28 9 (.tmp 43) rfl (.slice Ba3 ma3 ca3) (by simp [Act.eval]) (.string (ba (rval 1048576 (nnext 1 (nnext 8 (nnext 1 (some row))))))) (fun W hW => run_string_by W 28 9 5 Try.underlying28 Try.underlying5 Try.underlying9 _ _ _ _ _ hW.2)) (by assumption) ?_
      simp only [Act.put, sq1, sq2, sq3]
      refine wpAnyH_ready (rs := [13]) (by kernel_rfl) (by simp) ?_
      refine AllReadyH.cons rfl (fun K hK => ?_) AllReadyH.nil
      go_simp
      refine (rnumber_rs (HRa3.out) 8 rfl).mono ?_
      rintro e wa4 ⟨rfl, hr4, hg4⟩; have HRa4 := Lib.hid hr4; have HGa4 := Lib.hid hg4; have HBa4 := Lib.hid ((HBa3.out).grown hg4 (fun e => HNE.out (Option.some.inj e))); clear hr4 hg4
      go_wp2_with fail
      refine hK.out _ _ ⟨(only_trans hHeld.1 HGa4.out), (HRa3.out).by_keep hHeld.2 HGa4.out⟩ (fun hHeld1 => ?_)
      clear hHeld hK K
      have hHeld := hHeld1
      clear hHeld1
      refine tkq (i := 14) (d := 47) (v := (.int .i64 (sx 8 (nval 8 (rnext 1048576 (nnext 1 (nnext 8 (nnext 1 (some row))))))))) rfl rfl (yields_conv (by kernel_rfl) 70 2 (.tmp 46) rfl (.int .u64 ((nval 8 (rnext 1048576 (nnext 1 (nnext 8 (nnext 1 (some row))))) : Nat) : Int)) (by simp [Act.eval]) (.int .i64 (sx 8 (nval 8 (rnext 1048576 (nnext 1 (nnext 8 (nnext 1 (some row)))))))) (fun W _ => conv_i64 70 2 Try.underlying70 Try.underlying2 _ (by have := nval_lt 8 (rnext 1048576 (nnext 1 (nnext 8 (nnext 1 (some row))))); simp only [e8] at this; omega) W)) (by assumption) ?_
      simp only [Act.put, sq1, sq2, sq3]
      refine wpAnyH_ready (rs := [16]) (by kernel_rfl) (by simp) ?_
      refine AllReadyH.cons rfl (fun K hK => ?_) AllReadyH.nil
      go_simp
      refine (rnumber_rs (HRa4.out) 8 rfl).mono ?_
      rintro e wa5 ⟨rfl, hr5, hg5⟩; have HRa5 := Lib.hid hr5; have HGa5 := Lib.hid hg5; have HBa5 := Lib.hid ((HBa4.out).grown hg5 (fun e => HNE.out (Option.some.inj e))); clear hr5 hg5
      go_wp2_with fail
      refine hK.out _ _ ⟨(only_trans hHeld.1 HGa5.out), (HRa4.out).by_keep hHeld.2 HGa5.out⟩ (fun hHeld1 => ?_)
      clear hHeld hK K
      have hHeld := hHeld1
      clear hHeld1
      refine tkq (i := 17) (d := 50) (v := (.int .i64 (sx 8 (nval 8 (nnext 8 (rnext 1048576 (nnext 1 (nnext 8 (nnext 1 (some row)))))))))) rfl rfl (yields_conv (by kernel_rfl) 70 2 (.tmp 49) rfl (.int .u64 ((nval 8 (nnext 8 (rnext 1048576 (nnext 1 (nnext 8 (nnext 1 (some row)))))) : Nat) : Int)) (by simp [Act.eval]) (.int .i64 (sx 8 (nval 8 (nnext 8 (rnext 1048576 (nnext 1 (nnext 8 (nnext 1 (some row))))))))) (fun W _ => conv_i64 70 2 Try.underlying70 Try.underlying2 _ (by have := nval_lt 8 (nnext 8 (rnext 1048576 (nnext 1 (nnext 8 (nnext 1 (some row)))))); simp only [e8] at this; omega) W)) (by assumption) ?_
      simp only [Act.put, sq1, sq2, sq3]
      refine wpAnyH_ready (rs := [19]) (by kernel_rfl) (by simp) ?_
      refine AllReadyH.cons rfl (fun K hK => ?_) AllReadyH.nil
      go_simp
      refine (rrow_rs (HRa5.out) 1048576 (by omega)).mono ?_
      rintro e wa6 ⟨Ba6, ma6, ca6, rfl, hy6, hr6, hg6⟩; have HRa6 := Lib.hid hr6; have HGa6 := Lib.hid hg6; have HBa6 := Lib.hid ((HBa5.out).grown hg6 (fun e => HNE.out (Option.some.inj e))); have HYa6 := Lib.hid hy6; clear hr6 hg6 hy6
      go_wp2_with fail
      refine hK.out _ _ ⟨(only_trans hHeld.1 HGa6.out), (HRa5.out).by_keep hHeld.2 HGa6.out⟩ (fun hHeld1 => ?_)
      clear hHeld hK K
      have hHeld := hHeld1
      clear hHeld1
      refine wpAnyH_weaken (S' := fun W => ((wq.grownBy W (some gq)) ∧ By W (fun _ => True) Ba3 ma3 (rval 1048576 (nnext 1 (nnext 8 (nnext 1 (some row)))))) ∧ By W (fun _ => True) Ba6 ma6 (rval 1048576 (nnext 8 (nnext 8 (rnext 1048576 (nnext 1 (nnext 8 (nnext 1 (some row))))))))) (fun W h => h.1) _ _ _ _ ?_
      have hHeld2 := And.intro hHeld HYa6.out
      clear hHeld
      have hHeld := hHeld2
      clear hHeld2
      refine tkq (i := 20) (d := 53) (v := (.string (ba (rval 1048576 (nnext 8 (nnext 8 (rnext 1048576 (nnext 1 (nnext 8 (nnext 1 (some row))))))))))) rfl rfl (yields_conv (by kernel_rfl) 28 9 (.tmp 52) rfl (.slice Ba6 ma6 ca6) (by simp [Act.eval]) (.string (ba (rval 1048576 (nnext 8 (nnext 8 (rnext 1048576 (nnext 1 (nnext 8 (nnext 1 (some row)))))))))) (fun W hW => run_string_by W 28 9 5 Try.underlying28 Try.underlying5 Try.underlying9 _ _ _ _ _ hW.2)) (by assumption) ?_
      simp only [Act.put, sq1, sq2, sq3]
      obtain ⟨V, hV⟩ : ∃ V : Value, V = .agg #[.int .i64 ((nval 1 (some row) : Nat) : Int), .int .i64 (sx 8 (nval 8 (nnext 1 (some row)))), .int .i64 ((nval 1 (nnext 8 (nnext 1 (some row))) : Nat) : Int), .string (ba (rval 1048576 (nnext 1 (nnext 8 (nnext 1 (some row)))))), .int .i64 (sx 8 (nval 8 (rnext 1048576 (nnext 1 (nnext 8 (nnext 1 (some row))))))), .int .i64 (sx 8 (nval 8 (nnext 8 (rnext 1048576 (nnext 1 (nnext 8 (nnext 1 (some row)))))))), .string (ba (rval 1048576 (nnext 8 (nnext 8 (rnext 1048576 (nnext 1 (nnext 8 (nnext 1 (some row)))))))))] := ⟨_, rfl⟩
      have HV := Lib.hid hV
      clear hV
      refine tkq (i := 21) (d := 54) (v := V) rfl rfl (yields_build (by kernel_rfl) 58 _ rfl _ (by simp only [List.map_toArray, List.map_cons, List.map_nil, Act.eval]; rfl) V (fun w _ => by rw [HV.out]; exact Try.build_c7 _ _ _ _ _ _ _ w)) (by assumption) ?_
      simp only [Act.put, sq1, sq2, sq3]
      refine wpAnyH_ready (rs := [23]) (by kernel_rfl) (by simp) ?_
      refine AllReadyH.cons (o := ⟨none, .store 58 (.tmp 10) (.tmp 54), _, _, _, none⟩) rfl (fun K hK => ?_) AllReadyH.nil
      have HBp := Lib.hid (HBa6.out); refine step_store_blk rfl 58 (.tmp 10) (.tmp 54) rfl gz [.int .i64 ((nval 1 (some row) : Nat) : Int), .int .i64 (sx 8 (nval 8 (nnext 1 (some row)))), .int .i64 ((nval 1 (nnext 8 (nnext 1 (some row))) : Nat) : Int), .string (ba (rval 1048576 (nnext 1 (nnext 8 (nnext 1 (some row)))))), .int .i64 (sx 8 (nval 8 (rnext 1048576 (nnext 1 (nnext 8 (nnext 1 (some row))))))), .int .i64 (sx 8 (nval 8 (nnext 8 (rnext 1048576 (nnext 1 (nnext 8 (nnext 1 (some row)))))))), .string (ba (rval 1048576 (nnext 8 (nnext 8 (rnext 1048576 (nnext 1 (nnext 8 (nnext 1 (some row)))))))))] (by simp [Act.eval]) (by simp only [Act.eval]; exact HV.out) 58 [.int .i64 0, .int .i64 0, .int .i64 0, .string (ba []), .int .i64 0, .int .i64 0, .string (ba [])] (HBa6.out) (by kernel_rfl) rfl (one7 _ _ _ _ _ _ _) ?_; intro we hbe hge; have HBe := Lib.hid hbe; have HGe := Lib.hid hge; have HRe := Lib.hid ((HRa6.out).other hge (fun b hb => ⟨fun e => HNE.out (by rw [Option.some.inj hb]; exact e), by have := Option.some.inj hb; have := HZ.out; have := HSZ.out; omega⟩)); clear hbe hge
      refine hK.out _ _ ⟨⟨(only_new hHeld.1.1 HGe.out HZ.out), By.far hHeld.1.2 HGe.out HBp.out (no_u8c _ _ _ _ _ _ _)⟩, By.far hHeld.2 HGe.out HBp.out (no_u8c _ _ _ _ _ _ _)⟩ (fun hHeld1 => ?_)
      clear hHeld hK K
      have hHeld := hHeld1
      clear hHeld1
      change wpAnyH _ _ _ _ _ _ _ (Act.put _ none undef) _
      simp only [Act.put]
      refine wpAnyH_done (by kernel_rfl) ?_ _
      have HG6 := Lib.hid (only_new hHeld.1.1 (only_refl _ _) HZ.out)
      clear hHeld
      go_wp2
      go_meet
      case rel => exact ⟨gz, rfl, (by rw [← HC0.out]; exact HBe.out), (by rw [← HST0.out]; exact HRe.out), HZ.out, HG6.out⟩
    ·as_aux_lemma =>
     obtain ⟨gz, hgz⟩ : ∃ gz, wq.drew.heap.size = gz := ⟨_, rfl⟩; refine step_alloc (by simp [Region.wanted]) 58 rfl (.pointer (some ⟨gz, 0, none⟩)) (wq.drew.alloc (.cells #[.int .i64 0, .int .i64 0, .int .i64 0, .string (ba []), .int .i64 0, .int .i64 0, .string (ba [])] 58)) (Try.alloc_cr gz wq.drew hgz) ?_; have HBz : Hid (Blk (wq.drew.alloc (.cells #[.int .i64 0, .int .i64 0, .int .i64 0, .string (ba []), .int .i64 0, .int .i64 0, .string (ba [])] 58)) gz 58 [.int .i64 0, .int .i64 0, .int .i64 0, .string (ba []), .int .i64 0, .int .i64 0, .string (ba [])]) := Lib.hid (Blk.fresh hgz.symm rfl); have HRz := Lib.hid ((HRq.out.drew).alloc (.cells #[.int .i64 0, .int .i64 0, .int .i64 0, .string (ba []), .int .i64 0, .int .i64 0, .string (ba [])] 58)); have HNE : Hid (gz ≠ gq) := Lib.hid (fun e => by have h9 := (HRq.out.drew).lt; rw [← e, ← hgz] at h9; exact Nat.lt_irrefl _ h9); have HZ : Hid (wq.heap.size ≤ gz) := Lib.hid (hgz ▸ (hHeld).size); clear hgz
     refine hK.out _ _ (only_trans hHeld (only_below ((Below.refl _ _).alloc (Nat.le_refl _) _))) (fun hHeld1 => ?_)
     clear hHeld hK K
     have hHeld := hHeld1
     clear hHeld1
     change wpAnyH _ _ _ _ _ _ _ (Act.put _ (some (10 : Nat)) (.pointer (some ⟨gz, 0, none⟩))) _
     simp only [Act.put, sq1, sq2, sq3]
     refine wpAnyH_ready (rs := [1]) (by kernel_rfl) (by simp) ?_
     refine AllReadyH.cons rfl (fun K hK => ?_) AllReadyH.nil
     go_simp
     refine (rnumber_rs (HRz.out) 1 rfl).mono ?_
     rintro e wa0 ⟨rfl, hr0, hg0⟩; have HRa0 := Lib.hid hr0; have HGa0 := Lib.hid hg0; have HBa0 := Lib.hid ((HBz.out).grown hg0 (fun e => HNE.out (Option.some.inj e))); clear hr0 hg0
     go_wp2_with fail
     refine hK.out _ _ (only_trans hHeld HGa0.out) (fun hHeld1 => ?_)
     clear hHeld hK K
     have hHeld := hHeld1
     clear hHeld1
     refine tkq (i := 2) (d := 35) (v := (.int .i64 ((nval 1 (some row) : Nat) : Int))) rfl rfl (yields_conv (by kernel_rfl) 70 3 (.tmp 34) rfl (.int .u64 ((nval 1 (some row) : Nat) : Int)) (by simp [Act.eval]) (.int .i64 ((nval 1 (some row) : Nat) : Int)) (fun W _ => conv_small 70 3 Try.underlying70 Try.underlying3 _ (by have := nval_lt 1 (some row); simp only [e1] at this; omega) W)) (by assumption) ?_
     simp only [Act.put, sq1, sq2, sq3]
     refine wpAnyH_ready (rs := [4]) (by kernel_rfl) (by simp) ?_
     refine AllReadyH.cons rfl (fun K hK => ?_) AllReadyH.nil
     go_simp
     refine (rnumber_rs (HRa0.out) 8 rfl).mono ?_
     rintro e wa1 ⟨rfl, hr1, hg1⟩; have HRa1 := Lib.hid hr1; have HGa1 := Lib.hid hg1; have HBa1 := Lib.hid ((HBa0.out).grown hg1 (fun e => HNE.out (Option.some.inj e))); clear hr1 hg1
     go_wp2_with fail
     refine hK.out _ _ (only_trans hHeld HGa1.out) (fun hHeld1 => ?_)
     clear hHeld hK K
     have hHeld := hHeld1
     clear hHeld1
     refine tkq (i := 5) (d := 38) (v := (.int .i64 (sx 8 (nval 8 (nnext 1 (some row)))))) rfl rfl (yields_conv (by kernel_rfl) 70 2 (.tmp 37) rfl (.int .u64 ((nval 8 (nnext 1 (some row)) : Nat) : Int)) (by simp [Act.eval]) (.int .i64 (sx 8 (nval 8 (nnext 1 (some row))))) (fun W _ => conv_i64 70 2 Try.underlying70 Try.underlying2 _ (by have := nval_lt 8 (nnext 1 (some row)); simp only [e8] at this; omega) W)) (by assumption) ?_
     simp only [Act.put, sq1, sq2, sq3]
     refine wpAnyH_ready (rs := [7]) (by kernel_rfl) (by simp) ?_
     refine AllReadyH.cons rfl (fun K hK => ?_) AllReadyH.nil
     go_simp
     refine (rnumber_rs (HRa1.out) 1 rfl).mono ?_
     rintro e wa2 ⟨rfl, hr2, hg2⟩; have HRa2 := Lib.hid hr2; have HGa2 := Lib.hid hg2; have HBa2 := Lib.hid ((HBa1.out).grown hg2 (fun e => HNE.out (Option.some.inj e))); clear hr2 hg2
     go_wp2_with fail
     refine hK.out _ _ (only_trans hHeld HGa2.out) (fun hHeld1 => ?_)
     clear hHeld hK K
     have hHeld := hHeld1
     clear hHeld1
     refine tkq (i := 8) (d := 41) (v := (.int .i64 ((nval 1 (nnext 8 (nnext 1 (some row))) : Nat) : Int))) rfl rfl (yields_conv (by kernel_rfl) 70 3 (.tmp 40) rfl (.int .u64 ((nval 1 (nnext 8 (nnext 1 (some row))) : Nat) : Int)) (by simp [Act.eval]) (.int .i64 ((nval 1 (nnext 8 (nnext 1 (some row))) : Nat) : Int)) (fun W _ => conv_small 70 3 Try.underlying70 Try.underlying3 _ (by have := nval_lt 1 (nnext 8 (nnext 1 (some row))); simp only [e1] at this; omega) W)) (by assumption) ?_
     simp only [Act.put, sq1, sq2, sq3]
     refine wpAnyH_ready (rs := [10]) (by kernel_rfl) (by simp) ?_
     refine AllReadyH.cons rfl (fun K hK => ?_) AllReadyH.nil
     go_simp
     refine (rrow_rs (HRa2.out) 1048576 (by omega)).mono ?_
     rintro e wa3 ⟨Ba3, ma3, ca3, rfl, hy3, hr3, hg3⟩; have HRa3 := Lib.hid hr3; have HGa3 := Lib.hid hg3; have HBa3 := Lib.hid ((HBa2.out).grown hg3 (fun e => HNE.out (Option.some.inj e))); have HYa3 := Lib.hid hy3; clear hr3 hg3 hy3
     go_wp2_with fail
     refine hK.out _ _ (only_trans hHeld HGa3.out) (fun hHeld1 => ?_)
     clear hHeld hK K
     have hHeld := hHeld1
     clear hHeld1
     refine wpAnyH_weaken (S' := fun W => (wq.grownBy W (some gq)) ∧ By W (fun _ => True) Ba3 ma3 (rval 1048576 (nnext 1 (nnext 8 (nnext 1 (some row)))))) (fun W h => h.1) _ _ _ _ ?_
     have hHeld2 := And.intro hHeld HYa3.out
     clear hHeld
     have hHeld := hHeld2
     clear hHeld2
     refine tkq (i := 11) (d := 44) (v := (.string (ba (rval 1048576 (nnext 1 (nnext 8 (nnext 1 (some row)))))))) rfl rfl (yields_conv (by kernel_rfl) 28 9 (.tmp 43) rfl (.slice Ba3 ma3 ca3) (by simp [Act.eval]) (.string (ba (rval 1048576 (nnext 1 (nnext 8 (nnext 1 (some row))))))) (fun W hW => run_string_by W 28 9 5 Try.underlying28 Try.underlying5 Try.underlying9 _ _ _ _ _ hW.2)) (by assumption) ?_
     simp only [Act.put, sq1, sq2, sq3]
     refine wpAnyH_ready (rs := [13]) (by kernel_rfl) (by simp) ?_
     refine AllReadyH.cons rfl (fun K hK => ?_) AllReadyH.nil
     go_simp
     refine (rnumber_rs (HRa3.out) 8 rfl).mono ?_
     rintro e wa4 ⟨rfl, hr4, hg4⟩; have HRa4 := Lib.hid hr4; have HGa4 := Lib.hid hg4; have HBa4 := Lib.hid ((HBa3.out).grown hg4 (fun e => HNE.out (Option.some.inj e))); clear hr4 hg4
     go_wp2_with fail
     refine hK.out _ _ ⟨(only_trans hHeld.1 HGa4.out), (HRa3.out).by_keep hHeld.2 HGa4.out⟩ (fun hHeld1 => ?_)
     clear hHeld hK K
     have hHeld := hHeld1
     clear hHeld1
     refine tkq (i := 14) (d := 47) (v := (.int .i64 (sx 8 (nval 8 (rnext 1048576 (nnext 1 (nnext 8 (nnext 1 (some row))))))))) rfl rfl (yields_conv (by kernel_rfl) 70 2 (.tmp 46) rfl (.int .u64 ((nval 8 (rnext 1048576 (nnext 1 (nnext 8 (nnext 1 (some row))))) : Nat) : Int)) (by simp [Act.eval]) (.int .i64 (sx 8 (nval 8 (rnext 1048576 (nnext 1 (nnext 8 (nnext 1 (some row)))))))) (fun W _ => conv_i64 70 2 Try.underlying70 Try.underlying2 _ (by have := nval_lt 8 (rnext 1048576 (nnext 1 (nnext 8 (nnext 1 (some row))))); simp only [e8] at this; omega) W)) (by assumption) ?_
     simp only [Act.put, sq1, sq2, sq3]
     refine wpAnyH_ready (rs := [16]) (by kernel_rfl) (by simp) ?_
     refine AllReadyH.cons rfl (fun K hK => ?_) AllReadyH.nil
     go_simp
     refine (rnumber_rs (HRa4.out) 8 rfl).mono ?_
     rintro e wa5 ⟨rfl, hr5, hg5⟩; have HRa5 := Lib.hid hr5; have HGa5 := Lib.hid hg5; have HBa5 := Lib.hid ((HBa4.out).grown hg5 (fun e => HNE.out (Option.some.inj e))); clear hr5 hg5
     go_wp2_with fail
     refine hK.out _ _ ⟨(only_trans hHeld.1 HGa5.out), (HRa4.out).by_keep hHeld.2 HGa5.out⟩ (fun hHeld1 => ?_)
     clear hHeld hK K
     have hHeld := hHeld1
     clear hHeld1
     refine tkq (i := 17) (d := 50) (v := (.int .i64 (sx 8 (nval 8 (nnext 8 (rnext 1048576 (nnext 1 (nnext 8 (nnext 1 (some row)))))))))) rfl rfl (yields_conv (by kernel_rfl) 70 2 (.tmp 49) rfl (.int .u64 ((nval 8 (nnext 8 (rnext 1048576 (nnext 1 (nnext 8 (nnext 1 (some row)))))) : Nat) : Int)) (by simp [Act.eval]) (.int .i64 (sx 8 (nval 8 (nnext 8 (rnext 1048576 (nnext 1 (nnext 8 (nnext 1 (some row))))))))) (fun W _ => conv_i64 70 2 Try.underlying70 Try.underlying2 _ (by have := nval_lt 8 (nnext 8 (rnext 1048576 (nnext 1 (nnext 8 (nnext 1 (some row)))))); simp only [e8] at this; omega) W)) (by assumption) ?_
     simp only [Act.put, sq1, sq2, sq3]
     refine wpAnyH_ready (rs := [19]) (by kernel_rfl) (by simp) ?_
     refine AllReadyH.cons rfl (fun K hK => ?_) AllReadyH.nil
     go_simp
     refine (rrow_rs (HRa5.out) 1048576 (by omega)).mono ?_
     rintro e wa6 ⟨Ba6, ma6, ca6, rfl, hy6, hr6, hg6⟩; have HRa6 := Lib.hid hr6; have HGa6 := Lib.hid hg6; have HBa6 := Lib.hid ((HBa5.out).grown hg6 (fun e => HNE.out (Option.some.inj e))); have HYa6 := Lib.hid hy6; clear hr6 hg6 hy6
     go_wp2_with fail
     refine hK.out _ _ ⟨(only_trans hHeld.1 HGa6.out), (HRa5.out).by_keep hHeld.2 HGa6.out⟩ (fun hHeld1 => ?_)
     clear hHeld hK K
     have hHeld := hHeld1
     clear hHeld1
     refine wpAnyH_weaken (S' := fun W => ((wq.grownBy W (some gq)) ∧ By W (fun _ => True) Ba3 ma3 (rval 1048576 (nnext 1 (nnext 8 (nnext 1 (some row)))))) ∧ By W (fun _ => True) Ba6 ma6 (rval 1048576 (nnext 8 (nnext 8 (rnext 1048576 (nnext 1 (nnext 8 (nnext 1 (some row))))))))) (fun W h => h.1) _ _ _ _ ?_
     have hHeld2 := And.intro hHeld HYa6.out
     clear hHeld
     have hHeld := hHeld2
     clear hHeld2
     refine tkq (i := 20) (d := 53) (v := (.string (ba (rval 1048576 (nnext 8 (nnext 8 (rnext 1048576 (nnext 1 (nnext 8 (nnext 1 (some row))))))))))) rfl rfl (yields_conv (by kernel_rfl) 28 9 (.tmp 52) rfl (.slice Ba6 ma6 ca6) (by simp [Act.eval]) (.string (ba (rval 1048576 (nnext 8 (nnext 8 (rnext 1048576 (nnext 1 (nnext 8 (nnext 1 (some row)))))))))) (fun W hW => run_string_by W 28 9 5 Try.underlying28 Try.underlying5 Try.underlying9 _ _ _ _ _ hW.2)) (by assumption) ?_
     simp only [Act.put, sq1, sq2, sq3]
     obtain ⟨V, hV⟩ : ∃ V : Value, V = .agg #[.int .i64 ((nval 1 (some row) : Nat) : Int), .int .i64 (sx 8 (nval 8 (nnext 1 (some row)))), .int .i64 ((nval 1 (nnext 8 (nnext 1 (some row))) : Nat) : Int), .string (ba (rval 1048576 (nnext 1 (nnext 8 (nnext 1 (some row)))))), .int .i64 (sx 8 (nval 8 (rnext 1048576 (nnext 1 (nnext 8 (nnext 1 (some row))))))), .int .i64 (sx 8 (nval 8 (nnext 8 (rnext 1048576 (nnext 1 (nnext 8 (nnext 1 (some row)))))))), .string (ba (rval 1048576 (nnext 8 (nnext 8 (rnext 1048576 (nnext 1 (nnext 8 (nnext 1 (some row)))))))))] := ⟨_, rfl⟩
     have HV := Lib.hid hV
     clear hV
     refine tkq (i := 21) (d := 54) (v := V) rfl rfl (yields_build (by kernel_rfl) 58 _ rfl _ (by simp only [List.map_toArray, List.map_cons, List.map_nil, Act.eval]; rfl) V (fun w _ => by rw [HV.out]; exact Try.build_c7 _ _ _ _ _ _ _ w)) (by assumption) ?_
     simp only [Act.put, sq1, sq2, sq3]
     refine wpAnyH_ready (rs := [23]) (by kernel_rfl) (by simp) ?_
     refine AllReadyH.cons (o := ⟨none, .store 58 (.tmp 10) (.tmp 54), _, _, _, none⟩) rfl (fun K hK => ?_) AllReadyH.nil
     have HBp := Lib.hid (HBa6.out); refine step_store_blk rfl 58 (.tmp 10) (.tmp 54) rfl gz [.int .i64 ((nval 1 (some row) : Nat) : Int), .int .i64 (sx 8 (nval 8 (nnext 1 (some row)))), .int .i64 ((nval 1 (nnext 8 (nnext 1 (some row))) : Nat) : Int), .string (ba (rval 1048576 (nnext 1 (nnext 8 (nnext 1 (some row)))))), .int .i64 (sx 8 (nval 8 (rnext 1048576 (nnext 1 (nnext 8 (nnext 1 (some row))))))), .int .i64 (sx 8 (nval 8 (nnext 8 (rnext 1048576 (nnext 1 (nnext 8 (nnext 1 (some row)))))))), .string (ba (rval 1048576 (nnext 8 (nnext 8 (rnext 1048576 (nnext 1 (nnext 8 (nnext 1 (some row)))))))))] (by simp [Act.eval]) (by simp only [Act.eval]; exact HV.out) 58 [.int .i64 0, .int .i64 0, .int .i64 0, .string (ba []), .int .i64 0, .int .i64 0, .string (ba [])] (HBa6.out) (by kernel_rfl) rfl (one7 _ _ _ _ _ _ _) ?_; intro we hbe hge; have HBe := Lib.hid hbe; have HGe := Lib.hid hge; have HRe := Lib.hid ((HRa6.out).other hge (fun b hb => ⟨fun e => HNE.out (by rw [Option.some.inj hb]; exact e), by have := Option.some.inj hb; have := HZ.out; have := HSZ.out; omega⟩)); clear hbe hge
     refine hK.out _ _ ⟨⟨(only_new hHeld.1.1 HGe.out HZ.out), By.far hHeld.1.2 HGe.out HBp.out (no_u8c _ _ _ _ _ _ _)⟩, By.far hHeld.2 HGe.out HBp.out (no_u8c _ _ _ _ _ _ _)⟩ (fun hHeld1 => ?_)
     clear hHeld hK K
     have hHeld := hHeld1
     clear hHeld1
     change wpAnyH _ _ _ _ _ _ _ (Act.put _ none undef) _
     simp only [Act.put]
     refine wpAnyH_done (by kernel_rfl) ?_ _
     have HG6 := Lib.hid (only_new hHeld.1.1 (only_refl _ _) HZ.out)
     clear hHeld
     go_wp2
     go_meet
     case rel => exact ⟨gz, rfl, (by rw [← HC0.out]; exact HBe.out), (by rw [← HST0.out]; exact HRe.out), HZ.out, HG6.out⟩
   case rest =>
    obtain ⟨gz, rfl, hbz, hrz, hgz, hgx⟩ := hcut
    have HBz := Lib.hid hbz
    have HRz := Lib.hid hrz
    have HRx := Lib.hid (HR4.out.other hgx (fun b hb => ⟨by have := Option.some.inj hb; have := HGQ.out; omega, fun h9 => by have := Option.some.inj hb; have := HQ.out b h9; have := HS4.out; omega⟩))
    have HOx : Hid (OEy wc w.heap.size (.slice A3 n3 d3) pre) := Lib.hid (by obtain ⟨cs, hcs⟩ := HRq.out.block; exact HO4.out.only hgx hcs tq_ne)
    have HGx := Lib.hid (only_own_ HG4.out hgx (fun h hh => by have := Option.some.inj hh; have := HS4.out; omega))
    clear hbz hrz hgz hgx
    cases b with
    | false =>
     have HD : Hid (docR 1048576 j false (pre ++ [⟨c0, ms⟩]) s2 = OUT) := Lib.hid HDD.out
     go_wp2_with (first
      | (refine wpList_load_blk rfl 58 (.tmp 10) rfl gz rfl 58 [.int .i64 c0.cl, .int .i64 c0.sp, .int .i64 c0.op, .string (ba c0.lt), .int .i64 c0.a, .int .i64 c0.b, .string (ba c0.tx)] _ HBz.out Try.underlying58 rfl (by kernel_rfl) ?_)
      | (refine wpList_build_el rfl Try.el_ey (.tmp 64) rfl [.int .i64 c0.cl, .int .i64 c0.sp, .int .i64 c0.op, .string (ba c0.lt), .int .i64 c0.a, .int .i64 c0.b, .string (ba c0.tx), .int .u32 (ms : Int)] rfl rfl ?_)
      | (at_builtin; refine wpList_append_el rfl Try.el_ey (.tmp 61) (.tmp 65) rfl w.heap.size _ (pre.map Ey.cells) rfl (HOx.out.1.alloc (.cells #[.int .i64 c0.cl, .int .i64 c0.sp, .int .i64 c0.op, .string (ba c0.lt), .int .i64 c0.a, .int .i64 c0.b, .string (ba c0.tx), .int .u32 (ms : Int)] 61)) _ [.int .i64 c0.cl, .int .i64 c0.sp, .int .i64 c0.op, .string (ba c0.lt), .int .i64 c0.a, .int .i64 c0.b, .string (ba c0.tx), .int .u32 (ms : Int)] rfl (Blk.fresh rfl rfl) rfl (Ey.one ⟨c0, ms⟩) (by rw [List.length_map]; have := HPl.out; omega) (by have := HGx.out.size; (try simp); omega) ?_; intro v6 w6 ho6 hg6; have HO6 : Hid (OEy w6 w.heap.size v6 (pre ++ [⟨c0, ms⟩])) := Lib.hid (OEy.snoc ho6 HOx.out.2 HMs.out); have HR6 := Lib.hid ((HRx.out.alloc (.cells #[.int .i64 c0.cl, .int .i64 c0.sp, .int .i64 c0.op, .string (ba c0.lt), .int .i64 c0.a, .int .i64 c0.b, .string (ba c0.tx), .int .u32 (ms : Int)] 61)).other hg6 (fun b hb => ⟨by have := (HOx.out.1.lt b hb).1; have := HLT.out; omega, fun h9 => by have := (HOx.out.1.lt b hb).1; have := HQ.out b h9; omega⟩)); have HG6 : Hid (w.grownBy w6 (some g)) := Lib.hid (only_own_ (only_trans HGx.out (only_below ((Below.refl _ _).alloc (Nat.le_refl _) (.cells #[.int .i64 c0.cl, .int .i64 c0.sp, .int .i64 c0.op, .string (ba c0.lt), .int .i64 c0.a, .int .i64 c0.b, .string (ba c0.tx), .int .u32 (ms : Int)] 61)))) hg6 (fun b hb => (HOx.out.1.lt b hb).1)); clear ho6 hg6))
     go_roundw
     case rel => exact ⟨j, false, pre ++ [⟨c0, ms⟩], s2, by go_num, rfl, HD.out, HO6.out, HR6.out, HS2.out, HG6.out, by (have := HPl.out; simp; omega)⟩
     case measure => simp [intOf]
    | true =>
     by_cases hs : st = some []
     case pos =>
      have HST := Lib.hid hs
      have HD : Hid (docR 1048576 j true (pre ++ [⟨c0, ms⟩]) s2 = OUT) := Lib.hid (by have h9 := HDD.out; rw [decide_eq_true hs] at h9; exact h9)
      clear hs
      go_wp2_with (first
       | (go_at_call 59; (refine (rend_rs HRz.out).mono ?_); rintro e w10 ⟨x, rfl, hx, hww⟩; obtain rfl : wc = w10 := hww; have hx0 : x = 0 := hx.2 HST.out; subst hx0; clear hx)
       | (refine wpList_load_blk rfl 58 (.tmp 10) rfl gz rfl 58 [.int .i64 c0.cl, .int .i64 c0.sp, .int .i64 c0.op, .string (ba c0.lt), .int .i64 c0.a, .int .i64 c0.b, .string (ba c0.tx)] _ HBz.out Try.underlying58 rfl (by kernel_rfl) ?_)
       | (refine wpList_build_el rfl Try.el_ey (.tmp 64) rfl [.int .i64 c0.cl, .int .i64 c0.sp, .int .i64 c0.op, .string (ba c0.lt), .int .i64 c0.a, .int .i64 c0.b, .string (ba c0.tx), .int .u32 (ms : Int)] rfl rfl ?_)
       | (at_builtin; refine wpList_append_el rfl Try.el_ey (.tmp 61) (.tmp 65) rfl w.heap.size _ (pre.map Ey.cells) rfl (HOx.out.1.alloc (.cells #[.int .i64 c0.cl, .int .i64 c0.sp, .int .i64 c0.op, .string (ba c0.lt), .int .i64 c0.a, .int .i64 c0.b, .string (ba c0.tx), .int .u32 (ms : Int)] 61)) _ [.int .i64 c0.cl, .int .i64 c0.sp, .int .i64 c0.op, .string (ba c0.lt), .int .i64 c0.a, .int .i64 c0.b, .string (ba c0.tx), .int .u32 (ms : Int)] rfl (Blk.fresh rfl rfl) rfl (Ey.one ⟨c0, ms⟩) (by rw [List.length_map]; have := HPl.out; omega) (by have := HGx.out.size; (try simp); omega) ?_; intro v6 w6 ho6 hg6; have HO6 : Hid (OEy w6 w.heap.size v6 (pre ++ [⟨c0, ms⟩])) := Lib.hid (OEy.snoc ho6 HOx.out.2 HMs.out); have HR6 := Lib.hid ((HRx.out.alloc (.cells #[.int .i64 c0.cl, .int .i64 c0.sp, .int .i64 c0.op, .string (ba c0.lt), .int .i64 c0.a, .int .i64 c0.b, .string (ba c0.tx), .int .u32 (ms : Int)] 61)).other hg6 (fun b hb => ⟨by have := (HOx.out.1.lt b hb).1; have := HLT.out; omega, fun h9 => by have := (HOx.out.1.lt b hb).1; have := HQ.out b h9; omega⟩)); have HG6 : Hid (w.grownBy w6 (some g)) := Lib.hid (only_own_ (only_trans HGx.out (only_below ((Below.refl _ _).alloc (Nat.le_refl _) (.cells #[.int .i64 c0.cl, .int .i64 c0.sp, .int .i64 c0.op, .string (ba c0.lt), .int .i64 c0.a, .int .i64 c0.b, .string (ba c0.tx), .int .u32 (ms : Int)] 61)))) hg6 (fun b hb => (HOx.out.1.lt b hb).1)); clear ho6 hg6))
      go_roundw
      case rel => exact ⟨j, true, pre ++ [⟨c0, ms⟩], s2, by go_num, rfl, HD.out, HO6.out, HR6.out, HS2.out, HG6.out, by (have := HPl.out; simp; omega)⟩
      case measure => simp [intOf]
     case neg =>
      have HST := Lib.hid hs
      have HD : Hid (docR 1048576 j false (pre ++ [⟨c0, ms⟩]) s2 = OUT) := Lib.hid (by have h9 := HDD.out; rw [decide_eq_false hs] at h9; exact h9)
      clear hs
      go_wp2_with (first
       | (go_at_call 59; (refine (rend_rs HRz.out).mono ?_); rintro e w10 ⟨x, rfl, hx, hww⟩; obtain rfl : wc = w10 := hww; have hx0 : ¬ x = 0 := (fun h9 => HST.out (hx.1 h9)); have hxb : (x == 0) = false := (by simpa using hx0); have hxd : (x != 0) = true := (by simpa using hx0); clear hx hx0)
       | (refine wpList_load_blk rfl 58 (.tmp 10) rfl gz rfl 58 [.int .i64 c0.cl, .int .i64 c0.sp, .int .i64 c0.op, .string (ba c0.lt), .int .i64 c0.a, .int .i64 c0.b, .string (ba c0.tx)] _ HBz.out Try.underlying58 rfl (by kernel_rfl) ?_)
       | (refine wpList_build_el rfl Try.el_ey (.tmp 64) rfl [.int .i64 c0.cl, .int .i64 c0.sp, .int .i64 c0.op, .string (ba c0.lt), .int .i64 c0.a, .int .i64 c0.b, .string (ba c0.tx), .int .u32 (ms : Int)] rfl rfl ?_)
       | (at_builtin; refine wpList_append_el rfl Try.el_ey (.tmp 61) (.tmp 65) rfl w.heap.size _ (pre.map Ey.cells) rfl (HOx.out.1.alloc (.cells #[.int .i64 c0.cl, .int .i64 c0.sp, .int .i64 c0.op, .string (ba c0.lt), .int .i64 c0.a, .int .i64 c0.b, .string (ba c0.tx), .int .u32 (ms : Int)] 61)) _ [.int .i64 c0.cl, .int .i64 c0.sp, .int .i64 c0.op, .string (ba c0.lt), .int .i64 c0.a, .int .i64 c0.b, .string (ba c0.tx), .int .u32 (ms : Int)] rfl (Blk.fresh rfl rfl) rfl (Ey.one ⟨c0, ms⟩) (by rw [List.length_map]; have := HPl.out; omega) (by have := HGx.out.size; (try simp); omega) ?_; intro v6 w6 ho6 hg6; have HO6 : Hid (OEy w6 w.heap.size v6 (pre ++ [⟨c0, ms⟩])) := Lib.hid (OEy.snoc ho6 HOx.out.2 HMs.out); have HR6 := Lib.hid ((HRx.out.alloc (.cells #[.int .i64 c0.cl, .int .i64 c0.sp, .int .i64 c0.op, .string (ba c0.lt), .int .i64 c0.a, .int .i64 c0.b, .string (ba c0.tx), .int .u32 (ms : Int)] 61)).other hg6 (fun b hb => ⟨by have := (HOx.out.1.lt b hb).1; have := HLT.out; omega, fun h9 => by have := (HOx.out.1.lt b hb).1; have := HQ.out b h9; omega⟩)); have HG6 : Hid (w.grownBy w6 (some g)) := Lib.hid (only_own_ (only_trans HGx.out (only_below ((Below.refl _ _).alloc (Nat.le_refl _) (.cells #[.int .i64 c0.cl, .int .i64 c0.sp, .int .i64 c0.op, .string (ba c0.lt), .int .i64 c0.a, .int .i64 c0.b, .string (ba c0.tx), .int .u32 (ms : Int)] 61)))) hg6 (fun b hb => (HOx.out.1.lt b hb).1)); clear ho6 hg6))
      go_roundw
      case rel => exact ⟨j, false, pre ++ [⟨c0, ms⟩], s2, by go_num, rfl, HD.out, HO6.out, HR6.out, HS2.out, HG6.out, by (have := HPl.out; simp; omega)⟩
      case measure => simp [intOf]

end Go.Proofs.Ytheecifgbkdecaa
