/-
  Joined: WlL.
-/
import Derived.Deep.CutBlock
import Derived.Deep.CutRange
import Derived.Test.YtponmfkddglopaaWV47
import Derived.Test.YtponmfkddglopaaWVT
namespace Go.Proofs.Ytponmfkddglopaa
open Go.RowKit

theorem Try.bld_lg (n : Int) (w : World) : (Instr.build 38 #[(0, .int .i64 n)]).run Try.prog w = .ok (.agg (lgC n 0 (.slice none 0 0) (.slice none 0 0)).toArray) w := by kernel_rfl
theorem Try.zero_wa (w : World) : (zeroValue 42).run Try.prog w = .ok (.agg (Wa.cells ⟨0, 0, 0, dgZ⟩).toArray) w := by kernel_rfl
theorem jh_first (n : Int) {w w1 w2 : World} {B gm : Nat} (h1 : Below w.heap.size w w1) (hp : PLg w2 B gm n 0 []) (h2 : Below w1.heap.size w1 w2) (hB : w.heap.size ≤ B) (hG : w.heap.size ≤ gm) :
  JH w (w2.alloc (.cells (lgC n 0 (.slice none 0 0) (.slice none 0 0)).toArray 38)) B gm w2.heap.size n 0 0 [] [] := by
 have x3 := below1_ w2 (.cells (lgC n 0 (.slice none 0 0) (.slice none 0 0)).toArray 38)
 have s1 := h1.size
 have s2 := h2.size
 have hd : DLg (w2.alloc (.cells (lgC n 0 (.slice none 0 0) (.slice none 0 0)).toArray 38)) w2.heap.size n 0 [] none none 0 0 := ⟨Blk.fresh rfl rfl, Nat.le_refl _, Nat.le_refl _, Sl.none_, Sl.none_, Fam.nil, fun b hb => (rowQ_nil hb).elim, fun b hb => (rowQ_nil hb).elim, FD.nil _⟩
 have hdd : ∀ b, DD w2.heap.size [] none none b → b = w2.heap.size := by
  rintro b (rfl | hb | hb | hb)
  ·rfl
  ·exact (rowQ_nil hb).elim
  ·exact (rowQ_nil hb).elim
  ·exact (FD.nil b hb).elim
 refine ⟨[], [], none, none, 0, 0, ⟨hp.through x3, hd, below_step (below_step h1 h2) x3, ?_, fun b hb => ?_, fun b hb hd => ?_⟩, List.Perm.refl _, rfl⟩
 ·rintro b (rfl | rfl | hb)
  ·exact hB
  ·exact hG
  ·exact (FD.nil b hb).elim
 ·rw [hdd b hb]; omega
 ·rw [hdd b hd] at hb
  exact Nat.lt_irrefl _ (hp.lt _ hb)
set_option maxHeartbeats 16000000 in
set_option maxRecDepth 100000 in
theorem plays22_nil (n : Int) (A : Option Addr) (m c : Nat) (w : World) (hm : m ≤ 100) (hn : n < 1 ∨ 7 < n) :
  Calls Try.prog 3 #[.int .i64 n, .slice A m c] w fun e w' => e = .returned (.bool true) ∧ Below w.heap.size w w' := by
 have HN := Lib.hid hn
 have g1 : ¬ 100 < m := by omega
 rcases hn with hn1 | hn1
 ·go_enter Try.func3, Try.ntmps3
  go_wp2_with (first
   | (go_at_call 5; (with_reducible refine (fixed22_of _).mono ?_); rintro e w1 ⟨rfl, hb9⟩; have HX1 := Lib.hid hb9; clear hb9)
   | (go_at_call 6; (with_reducible refine (new_lp_none n _ HN.out).mono ?_); rintro e w9 ⟨rfl, hw9⟩; have hw8 := hw9.symm; clear hw9; subst hw8)
   | (go_at_call 7; (with_reducible refine (at_lnil _ _).mono ?_); rintro e w9 ⟨rfl, hw9⟩; have hw8 := hw9.symm; clear hw9; subst hw8)
   | (go_at_call 8; (with_reducible refine (clear_lnil _).mono ?_); rintro e w9 ⟨rfl, hw9⟩; have hw8 := hw9.symm; clear hw9; subst hw8)
   | (go_at_call 9; (with_reducible refine (move_lnil _ _).mono ?_); rintro e w9 ⟨rfl, hw9⟩; have hw8 := hw9.symm; clear hw9; subst hw8)
   | (go_at_call 10; (with_reducible refine (in_lnil _ _).mono ?_); rintro e w9 ⟨rfl, hw9⟩; have hw8 := hw9.symm; clear hw9; subst hw8)
   | (go_at_call 11; (with_reducible refine (low_lnil _).mono ?_); rintro e w9 ⟨rfl, hw9⟩; have hw8 := hw9.symm; clear hw9; subst hw8)
   | (go_at_call 12; (with_reducible refine (seqs_lnil _).mono ?_); rintro e w9 ⟨rfl, hw9⟩; have hw8 := hw9.symm; clear hw9; subst hw8))
  go_ret
  exact ⟨rfl, HX1.out⟩
 ·have hn2 : ¬ n < 1 := by omega
  go_enter Try.func3, Try.ntmps3
  go_wp2_with (first
   | (go_at_call 5; (with_reducible refine (fixed22_of _).mono ?_); rintro e w1 ⟨rfl, hb9⟩; have HX1 := Lib.hid hb9; clear hb9)
   | (go_at_call 6; (with_reducible refine (new_lp_none n _ HN.out).mono ?_); rintro e w9 ⟨rfl, hw9⟩; have hw8 := hw9.symm; clear hw9; subst hw8)
   | (go_at_call 7; (with_reducible refine (at_lnil _ _).mono ?_); rintro e w9 ⟨rfl, hw9⟩; have hw8 := hw9.symm; clear hw9; subst hw8)
   | (go_at_call 8; (with_reducible refine (clear_lnil _).mono ?_); rintro e w9 ⟨rfl, hw9⟩; have hw8 := hw9.symm; clear hw9; subst hw8)
   | (go_at_call 9; (with_reducible refine (move_lnil _ _).mono ?_); rintro e w9 ⟨rfl, hw9⟩; have hw8 := hw9.symm; clear hw9; subst hw8)
   | (go_at_call 10; (with_reducible refine (in_lnil _ _).mono ?_); rintro e w9 ⟨rfl, hw9⟩; have hw8 := hw9.symm; clear hw9; subst hw8)
   | (go_at_call 11; (with_reducible refine (low_lnil _).mono ?_); rintro e w9 ⟨rfl, hw9⟩; have hw8 := hw9.symm; clear hw9; subst hw8)
   | (go_at_call 12; (with_reducible refine (seqs_lnil _).mono ?_); rintro e w9 ⟨rfl, hw9⟩; have hw8 := hw9.symm; clear hw9; subst hw8))
  go_ret
  exact ⟨rfl, HX1.out⟩
set_option maxHeartbeats 16000000 in
set_option maxRecDepth 100000 in
theorem plays22_any (n : Int) (l : List Wa) (A0 : Option Addr) (m c0 : Nat) (w : World) (h : WasIn w A0 m l) :
  Calls Try.prog 3 #[.int .i64 n, .slice A0 m c0] w fun e w' => e = .returned (.bool true) ∧ Below w.heap.size w w' := by
 by_cases g1 : 100 < m
 ·go_enter Try.func3, Try.ntmps3
  go_wp2_with (first
   | (go_at_call 5; (with_reducible refine (fixed22_of _).mono ?_); rintro e w1 ⟨rfl, hb9⟩; have HX1 := Lib.hid hb9; clear hb9))
  go_ret
  exact ⟨rfl, HX1.out⟩
 by_cases hn : n < 1 ∨ 7 < n
 ·exact plays22_nil n A0 m c0 w (by omega) hn
 have hn1 : ¬ n < 1 := by omega
 have hn7 : ¬ 7 < n := by omega
 have HN1 : Hid (1 ≤ n) := Lib.hid (by omega)
 have HN7 : Hid (n ≤ 7) := Lib.hid (by omega)
 have HM : Hid (m ≤ 100) := Lib.hid (by omega)
 have hza : ∀ W, (zeroValue 42).run Try.prog W = .ok (.agg (Wa.cells ⟨0, 0, 0, dgZ⟩).toArray) W := fun W => Try.zero_wa W
 have HI := Lib.hid h
 clear h hn
 go_enter Try.func3, Try.ntmps3
 go_wp2_with (first
  | (go_at_call 5; (with_reducible refine (fixed22_of _).mono ?_); rintro e w1 ⟨rfl, hb9⟩; have HX1 := Lib.hid hb9; clear hb9)
  | (go_at_call 6; (with_reducible refine (new_lp n _ HN1.out HN7.out).mono ?_); rintro e w2 ⟨B, gm, rfl, hp9, hb9, hB9, hG9⟩; have HP2 := Lib.hid hp9; have HX2 := Lib.hid hb9; have HBl := Lib.hid (Nat.le_trans HX1.out.size hB9); have HGl := Lib.hid (Nat.le_trans HX1.out.size hG9); clear hp9 hb9 hB9 hG9)
  | (refine wpList_build_to rfl 38 _ rfl [(0, .int .i64 n)] rfl (.agg (lgC n 0 (.slice none 0 0) (.slice none 0 0)).toArray) (Try.bld_lg n _) ?_))
 obtain ⟨L, hL⟩ : ∃ L, L = w2.heap.size := ⟨_, rfl⟩
 have HS0 : Hid (JH w (w2.alloc (.cells (lgC n 0 (.slice none 0 0) (.slice none 0 0)).toArray 38)) B gm L n 0 0 [] []) := Lib.hid (by rw [hL]; exact jh_first n HX1.out HP2.out HX2.out HBl.out HGl.out)
 try dsimp only [Act.put]
 rw [← hL]
 clear hL
 go_loopw [66] (fun iv wr => ∃ (i : Nat) (low : Int) (P : Lw), i ≤ m ∧ iv = .int .i64 (i : Int) ∧ JH w wr B gm L n low low P P ∧ WkOk n low P i ∧ 0 ≤ low ∧ low ≤ 1048576) (fun iv _ => m - (intOf iv).toNat)
 case atStart => exact ⟨0, 0, [], Nat.zero_le _, rfl, HS0.out, WkOk.nil _ _ _, Int.le_refl _, by omega⟩
 case round =>
  obtain ⟨i, low, P, hi, rfl, hs, hwk, hl0, hl1⟩ := hrel
  have HS := Lib.hid hs
  have HX := Lib.hid hs.be
  have HWk := Lib.hid hwk
  have HL0 := Lib.hid hl0
  have HL1 := Lib.hid hl1
  clear hs hwk hl0 hl1
  by_cases hlt : i < m
  ·obtain ⟨g0, o0, x, rfl, hok, hrx⟩ := HI.out.at HX.out hlt
   have HRx := Lib.hid hrx
   have HOk := Lib.hid hok
   have HXl : Hid (x.cells.length = 35) := Lib.hid (Wa.len hok.dg)
   have HVx : Hid ((vs x.dg).length = 32) := Lib.hid (D_len _ hok.dg)
   have hix := Try.ix_wa wr g0 o0 m c0 i hlt
   clear hok hrx
   obtain ⟨r, hr⟩ : ∃ r, x.kd.tmod 3 = r := ⟨_, rfl⟩
   have HR3 : Hid (r = 0 ∨ r = 1 ∨ r = 2) := Lib.hid (by
    have h0 := HOk.out.lo
    rw [Int.tmod_eq_emod_of_nonneg h0] at hr
    omega)
   go_upto_block 2 with (first
    | (refine wpList_load_mid rfl 42 (.tmp 68) rfl g0 (o0 + i * 35) rfl x.cells _ HRx.out Try.underlying42 rfl (by rw [HXl.out]; kernel_rfl) ?_)
    | (refine wpList_store_blk rfl 42 (.tmp 10) (.tmp 69) rfl wr.heap.size x.cells rfl rfl 42 (Wa.cells ⟨0, 0, 0, dgZ⟩) (Blk.fresh rfl rfl) (by rw [HXl.out]; kernel_rfl) (by rw [HXl.out]; rfl) (Wa.one x) ?_; simp only [Act.put]; intro wv hbv hgv; have HJv := Lib.hid (HS.out.withAct (Nat.le_refl _) (below_new hgv) hbv); have k0 := hbv.cellAt (i := 0) rfl; have k1 := hbv.cellAt (i := 1) rfl; clear hbv hgv))
   go_cut [66] from 66 to 169 (fun iv wx => iv = .int .i64 (i : Int) ∧ ∃ low2 P2, JG w wx B gm L n low2 low2 P2 P2 anyF anyF wr.heap.size x ∧ WkOk n low2 P2 (i + 1) ∧ 0 ≤ low2 ∧ low2 ≤ 1048576)
   case first =>
    rcases HR3.out with rfl | rfl | rfl
    ·clear HR3
     cases hin : inB low x.q with
     | true =>
      have HIn := Lib.hid hin
      have HRi := Lib.hid (HWk.out.ins hin).ris
      clear hin
      go_upto_region 18 with (first
       | (go_at_call 7; (with_reducible refine (HJv.out.atP x.q HN1.out HN7.out HL0.out HL1.out HIn.out HWk.out.ris).mono ?_); rintro e w4 ⟨Rp, s, rfl, hs9, hj9⟩; have HJ1 := Lib.hid hj9; have HSp := Lib.hid hs9; have k1_4 := hj9.blk.cellAt (i := 1) rfl; clear hs9 hj9)
       | (go_at_call 13; (with_reducible refine (HJ1.out.atD x.q HL0.out HL1.out HIn.out HWk.out.len).mono ?_); rintro e w5 ⟨Rd, s', rfl, hs9, hj9⟩; obtain rfl := mem_ris HRi.out HSp.out hs9; have HJ2 := Lib.hid hj9; clear hs9 hj9))
      have HLo := Lib.hid ((HWk.out.ins HIn.out).slow HSp.out HN1.out HN7.out (by have := HM.out; omega))
      refine wp_region_held_drew (S := fun W => Blk W wr.heap.size 42 x.cells) (by kernel_rfl) HJ2.out.blk.drew (fun hHeld => ?_)
      change wpAnyH _ _ _ _ _ _ #[false, false, false, false, false, false, false, false, false, false, false, false, false, false, false, false, false, false, false, false, false, false, false, false, false, false, false, false, false, false, false, false] _ _
      refine tkq (i := 0) (d := 86) (v := (.int .i64 0)) rfl rfl (Or.inl ⟨by kernel_rfl, fun w hSw => ?_⟩) (by assumption) ?_
      ·(try dsimp only at hSw); go_simp <;> (try rfl)
      simp only [Act.put, sq1, sq2, sq3]
      refine tkq (i := 1) (d := 87) (v := (.bool true)) rfl rfl (Or.inl ⟨by kernel_rfl, fun w hSw => ?_⟩) (by assumption) ?_
      ·(try dsimp only at hSw); go_simp <;> (try rfl)
      simp only [Act.put, sq1, sq2, sq3]
      refine tkq (i := 2) (d := 88) (v := (.pointer (some ⟨Rd, 0, none⟩))) rfl rfl (Or.inl ⟨by kernel_rfl, fun w hSw => ?_⟩) (by assumption) ?_
      ·(try dsimp only at hSw); go_simp <;> (try rfl)
      simp only [Act.put, sq1, sq2, sq3]
      refine tkq (i := 3) (d := 89) (v := (.bool true)) rfl rfl (Or.inl ⟨by kernel_rfl, fun w hSw => ?_⟩) (by assumption) ?_
      ·(try dsimp only at hSw); go_simp <;> (try rfl)
      simp only [Act.put, sq1, sq2, sq3]
      refine tkq (i := 4) (d := 90) (v := (.bool false)) rfl rfl (Or.inl ⟨by kernel_rfl, fun w hSw => ?_⟩) (by assumption) ?_
      ·(try dsimp only at hSw); go_simp <;> (try rfl)
      simp only [Act.put, sq1, sq2, sq3]
      refine tkq (i := 5) (d := 91) (v := (.bool false)) rfl rfl (Or.inl ⟨by kernel_rfl, fun w hSw => ?_⟩) (by assumption) ?_
      ·(try dsimp only at hSw); go_simp <;> (try rfl)
      simp only [Act.put, sq1, sq2, sq3]
      refine tkq (i := 6) (d := 92) (v := (.int .i64 0)) rfl rfl (Or.inl ⟨by kernel_rfl, fun w hSw => ?_⟩) (by assumption) ?_
      ·(try dsimp only at hSw); go_simp <;> (try rfl)
      simp only [Act.put, sq1, sq2, sq3]
      refine tkq (i := 7) (d := 93) (v := (.bool false)) rfl rfl (Or.inl ⟨by kernel_rfl, fun w hSw => ?_⟩) (by assumption) ?_
      ·(try dsimp only at hSw); go_simp <;> (try rfl)
      simp only [Act.put, sq1, sq2, sq3]
      refine tkq (i := 8) (d := 94) (v := (.bool false)) rfl rfl (Or.inl ⟨by kernel_rfl, fun w hSw => ?_⟩) (by assumption) ?_
      ·(try dsimp only at hSw); go_simp <;> (try rfl)
      simp only [Act.put, sq1, sq2, sq3]
      refine tkv (i := 9) (d := 95) rfl rfl (by assumption) ?_
      simp only [Act.put, sq1, sq2, sq3]
      refine tkv (i := 10) (d := 96) rfl rfl (by assumption) ?_
      simp only [Act.put, sq1, sq2, sq3]
      refine tkq (i := 11) (d := 97) (v := (.bool false)) rfl rfl (Or.inl ⟨by kernel_rfl, fun w hSw => ?_⟩) (by assumption) ?_
      ·(try dsimp only at hSw); go_simp <;> (try rfl)
      simp only [Act.put, sq1, sq2, sq3]
      refine tkq (i := 12) (d := 98) (v := (.bool false)) rfl rfl (Or.inl ⟨by kernel_rfl, fun w hSw => ?_⟩) (by assumption) ?_
      ·(try dsimp only at hSw); go_simp <;> (try rfl)
      simp only [Act.put, sq1, sq2, sq3]
      refine tkq (i := 13) (d := 99) (v := (.bool false)) rfl rfl (Or.inl ⟨by kernel_rfl, fun w hSw => ?_⟩) (by assumption) ?_
      ·(try dsimp only at hSw); go_simp <;> (try rfl)
      simp only [Act.put, sq1, sq2, sq3]
      refine tkq (i := 14) (d := 100) (v := (.pointer (some ⟨Rd, 0, none⟩))) rfl rfl (Or.inl ⟨by kernel_rfl, fun w hSw => ?_⟩) (by assumption) ?_
      ·(try dsimp only at hSw); go_simp <;> (try rfl)
      simp only [Act.put, sq1, sq2, sq3]
      refine tkq (i := 15) (d := 101) (v := (.bool true)) rfl rfl (Or.inl ⟨by kernel_rfl, fun w hSw => ?_⟩) (by assumption) ?_
      ·(try dsimp only at hSw); go_simp <;> (try rfl)
      simp only [Act.put, sq1, sq2, sq3]
      refine tkq (i := 16) (d := 102) (v := (.bool true)) rfl rfl (Or.inl ⟨by kernel_rfl, fun w hSw => ?_⟩) (by assumption) ?_
      ·(try dsimp only at hSw); go_simp <;> (try rfl)
      simp only [Act.put, sq1, sq2, sq3]
      refine tkq (i := 17) (d := 103) (v := (.pointer (some ⟨Rp, 0, none⟩))) rfl rfl (Or.inl ⟨by kernel_rfl, fun w hSw => ?_⟩) (by assumption) ?_
      ·(try dsimp only at hSw); go_simp <;> (try rfl)
      simp only [Act.put, sq1, sq2, sq3]
      refine tkq (i := 18) (d := 104) (v := (.pointer (some ⟨wr.heap.size, 2, none⟩))) rfl rfl (Or.inl ⟨by kernel_rfl, fun w hSw => ?_⟩) (by assumption) ?_
      ·(try dsimp only at hSw); go_simp <;> (try rfl)
      simp only [Act.put, sq1, sq2, sq3]
      refine tkq (i := 19) (d := 105) (v := (.int .i64 x.who)) rfl rfl (yields_load_at (by kernel_rfl) 3 (.tmp 104) rfl (.pointer (some ⟨wr.heap.size, 2, none⟩)) (by simp [Act.eval]) (.int .i64 x.who) (fun W hW => load_one' (Try.agg_int W) (Blk.cellAt (i := 2) hW rfl))) (by assumption) ?_
      simp only [Act.put, sq1, sq2, sq3]
      refine tkq (i := 20) (d := 106) (v := (.pointer (some ⟨wr.heap.size, 3, none⟩))) rfl rfl (Or.inl ⟨by kernel_rfl, fun w hSw => ?_⟩) (by assumption) ?_
      ·(try dsimp only at hSw); go_simp <;> (try rfl)
      simp only [Act.put, sq1, sq2, sq3]
      refine tkq (i := 21) (d := 107) (v := (.agg (vs x.dg).toArray)) rfl rfl (yieldsIf_load_mid (by kernel_rfl) 40 (.tmp 106) rfl wr.heap.size 3 (by simp [Act.eval]) (vs x.dg) _ (fun W hW => Blk.range (pre := [.int .u8 x.kd, .int .i64 x.q, .int .i64 x.who]) (post := []) (by simpa [Wa.cells] using hW)) Try.underlying40 rfl (by rw [HVx.out]; kernel_rfl)) (by assumption) ?_
      simp only [Act.put, sq1, sq2, sq3]
      refine tkq (i := 23) (d := 109) (v := (.pointer (some ⟨Rd, 0, none⟩))) rfl rfl (Or.inl ⟨by kernel_rfl, fun w hSw => ?_⟩) (by assumption) ?_
      ·(try dsimp only at hSw); go_simp <;> (try rfl)
      simp only [Act.put, sq1, sq2, sq3]
      refine tkq (i := 24) (d := 110) (v := (.pointer (some ⟨wr.heap.size, 2, none⟩))) rfl rfl (Or.inl ⟨by kernel_rfl, fun w hSw => ?_⟩) (by assumption) ?_
      ·(try dsimp only at hSw); go_simp <;> (try rfl)
      simp only [Act.put, sq1, sq2, sq3]
      refine tkq (i := 25) (d := 111) (v := (.int .i64 x.who)) rfl rfl (yields_load_at (by kernel_rfl) 3 (.tmp 110) rfl (.pointer (some ⟨wr.heap.size, 2, none⟩)) (by simp [Act.eval]) (.int .i64 x.who) (fun W hW => load_one' (Try.agg_int W) (Blk.cellAt (i := 2) hW rfl))) (by assumption) ?_
      simp only [Act.put, sq1, sq2, sq3]
      refine tkq (i := 26) (d := 112) (v := (.pointer (some ⟨wr.heap.size, 3, none⟩))) rfl rfl (Or.inl ⟨by kernel_rfl, fun w hSw => ?_⟩) (by assumption) ?_
      ·(try dsimp only at hSw); go_simp <;> (try rfl)
      simp only [Act.put, sq1, sq2, sq3]
      refine tkq (i := 27) (d := 113) (v := (.agg (vs x.dg).toArray)) rfl rfl (yieldsIf_load_mid (by kernel_rfl) 40 (.tmp 112) rfl wr.heap.size 3 (by simp [Act.eval]) (vs x.dg) _ (fun W hW => Blk.range (pre := [.int .u8 x.kd, .int .i64 x.q, .int .i64 x.who]) (post := []) (by simpa [Wa.cells] using hW)) Try.underlying40 rfl (by rw [HVx.out]; kernel_rfl)) (by assumption) ?_
      simp only [Act.put, sq1, sq2, sq3]
      refine wpAnyH_ready (rs := [22]) (by kernel_rfl) (by simp) ?_
      refine AllReadyH.cons rfl (fun K hK => ?_) AllReadyH.nil
      go_simp
      refine (JG.prepP (JG.through HJ2.out (Below.refl _ w5).drew) HLo.out x.who x.dg HOk.out.dg).mono ?_
      rintro e u1 ⟨rfl, hj9⟩; have HJ3 := Lib.hid hj9; clear hj9
      go_wp2_with fail
      refine hK.out _ _ HJ3.out.blk (fun hHeld1 => ?_)
      clear hHeld hK K
      have hHeld := hHeld1
      clear hHeld1
      refine wpAnyH_ready (rs := [28]) (by kernel_rfl) (by simp) ?_
      refine AllReadyH.cons rfl (fun K hK => ?_) AllReadyH.nil
      go_simp
      refine (JG.prepD HJ3.out HRi.out HLo.out x.who x.dg HOk.out.dg).mono ?_
      rintro e u2 ⟨rfl, hj9⟩; have HJ4 := Lib.hid hj9; clear hj9
      go_wp2_with fail
      refine hK.out _ _ HJ4.out.blk (fun hHeld1 => ?_)
      clear hHeld hK K
      have hHeld := hHeld1
      clear hHeld1
      refine tkq (i := 29) (d := 115) (v := (.bool false)) rfl rfl (Or.inl ⟨by kernel_rfl, fun w hSw => ?_⟩) (by assumption) ?_
      ·(try dsimp only at hSw); go_simp <;> (try rfl)
      simp only [Act.put, sq1, sq2, sq3]
      refine tkq (i := 30) (d := 116) (v := (.bool false)) rfl rfl (Or.inl ⟨by kernel_rfl, fun w hSw => ?_⟩) (by assumption) ?_
      ·(try dsimp only at hSw); go_simp <;> (try rfl)
      simp only [Act.put, sq1, sq2, sq3]
      refine tkq (i := 31) (d := 117) (v := (.bool false)) rfl rfl (Or.inl ⟨by kernel_rfl, fun w hSw => ?_⟩) (by assumption) ?_
      ·(try dsimp only at hSw); go_simp <;> (try rfl)
      simp only [Act.put, sq1, sq2, sq3]
      refine wpAnyH_done (by kernel_rfl) ?_ _
      go_wp2_with fail
      go_meet
      case rel => exact ⟨rfl, low, _, HJ4.out, (HWk.out.ins HIn.out).set HSp.out x.who x.dg, HL0.out, HL1.out⟩
     | false =>
      have HIn := Lib.hid hin
      clear hin
      go_upto_region 18 with (first
       | (go_at_call 7; (with_reducible refine (HJv.out.outP x.q HN1.out HL0.out HL1.out HIn.out).mono ?_); rintro e w9 ⟨rfl, hw9⟩; have hw8 := hw9.symm; clear hw9; subst hw8)
       | (go_at_call 13; (with_reducible refine (HJv.out.outD x.q HL0.out HL1.out HIn.out).mono ?_); rintro e w9 ⟨rfl, hw9⟩; have hw8 := hw9.symm; clear hw9; subst hw8))
      refine wp_region_held_drew (S := fun W => Blk W wr.heap.size 42 x.cells) (by kernel_rfl) HJv.out.blk.drew (fun hHeld => ?_)
      change wpAnyH _ _ _ _ _ _ #[false, false, false, false, false, false, false, false, false, false, false, false, false, false, false, false, false, false, false, false, false, false, false, false, false, false, false, false, false, false, false, false] _ _
      refine tkq (i := 0) (d := 86) (v := (.int .i64 14)) rfl rfl (Or.inl ⟨by kernel_rfl, fun w hSw => ?_⟩) (by assumption) ?_
      ·(try dsimp only at hSw); go_simp <;> (try rfl)
      simp only [Act.put, sq1, sq2, sq3]
      refine tkq (i := 1) (d := 87) (v := (.bool false)) rfl rfl (Or.inl ⟨by kernel_rfl, fun w hSw => ?_⟩) (by assumption) ?_
      ·(try dsimp only at hSw); go_simp <;> (try rfl)
      simp only [Act.put, sq1, sq2, sq3]
      refine tkq (i := 2) (d := 88) (v := (.pointer none)) rfl rfl (Or.inl ⟨by kernel_rfl, fun w hSw => ?_⟩) (by assumption) ?_
      ·(try dsimp only at hSw); go_simp <;> (try rfl)
      simp only [Act.put, sq1, sq2, sq3]
      refine tkq (i := 3) (d := 89) (v := (.bool false)) rfl rfl (Or.inl ⟨by kernel_rfl, fun w hSw => ?_⟩) (by assumption) ?_
      ·(try dsimp only at hSw); go_simp <;> (try rfl)
      simp only [Act.put, sq1, sq2, sq3]
      refine tkq (i := 4) (d := 90) (v := (.bool false)) rfl rfl (Or.inl ⟨by kernel_rfl, fun w hSw => ?_⟩) (by assumption) ?_
      ·(try dsimp only at hSw); go_simp <;> (try rfl)
      simp only [Act.put, sq1, sq2, sq3]
      refine tkq (i := 5) (d := 91) (v := (.bool false)) rfl rfl (Or.inl ⟨by kernel_rfl, fun w hSw => ?_⟩) (by assumption) ?_
      ·(try dsimp only at hSw); go_simp <;> (try rfl)
      simp only [Act.put, sq1, sq2, sq3]
      refine tkq (i := 6) (d := 92) (v := (.int .i64 14)) rfl rfl (Or.inl ⟨by kernel_rfl, fun w hSw => ?_⟩) (by assumption) ?_
      ·(try dsimp only at hSw); go_simp <;> (try rfl)
      simp only [Act.put, sq1, sq2, sq3]
      refine tkq (i := 7) (d := 93) (v := (.bool true)) rfl rfl (Or.inl ⟨by kernel_rfl, fun w hSw => ?_⟩) (by assumption) ?_
      ·(try dsimp only at hSw); go_simp <;> (try rfl)
      simp only [Act.put, sq1, sq2, sq3]
      refine tkq (i := 8) (d := 94) (v := (.bool true)) rfl rfl (Or.inl ⟨by kernel_rfl, fun w hSw => ?_⟩) (by assumption) ?_
      ·(try dsimp only at hSw); go_simp <;> (try rfl)
      simp only [Act.put, sq1, sq2, sq3]
      refine tkq (i := 9) (d := 95) (v := (.int .i64 14)) rfl rfl (Or.inl ⟨by kernel_rfl, fun w hSw => ?_⟩) (by assumption) ?_
      ·(try dsimp only at hSw); go_simp <;> (try rfl)
      simp only [Act.put, sq1, sq2, sq3]
      refine tkq (i := 10) (d := 96) (v := (.bool false)) rfl rfl (Or.inl ⟨by kernel_rfl, fun w hSw => ?_⟩) (by assumption) ?_
      ·(try dsimp only at hSw); go_simp <;> (try rfl)
      simp only [Act.put, sq1, sq2, sq3]
      refine tkq (i := 11) (d := 97) (v := (.bool false)) rfl rfl (Or.inl ⟨by kernel_rfl, fun w hSw => ?_⟩) (by assumption) ?_
      ·(try dsimp only at hSw); go_simp <;> (try rfl)
      simp only [Act.put, sq1, sq2, sq3]
      refine tkq (i := 12) (d := 98) (v := (.bool false)) rfl rfl (Or.inl ⟨by kernel_rfl, fun w hSw => ?_⟩) (by assumption) ?_
      ·(try dsimp only at hSw); go_simp <;> (try rfl)
      simp only [Act.put, sq1, sq2, sq3]
      refine tkq (i := 13) (d := 99) (v := (.bool false)) rfl rfl (Or.inl ⟨by kernel_rfl, fun w hSw => ?_⟩) (by assumption) ?_
      ·(try dsimp only at hSw); go_simp <;> (try rfl)
      simp only [Act.put, sq1, sq2, sq3]
      refine tkq (i := 14) (d := 100) (v := (.pointer none)) rfl rfl (Or.inl ⟨by kernel_rfl, fun w hSw => ?_⟩) (by assumption) ?_
      ·(try dsimp only at hSw); go_simp <;> (try rfl)
      simp only [Act.put, sq1, sq2, sq3]
      refine tkq (i := 15) (d := 101) (v := (.bool false)) rfl rfl (Or.inl ⟨by kernel_rfl, fun w hSw => ?_⟩) (by assumption) ?_
      ·(try dsimp only at hSw); go_simp <;> (try rfl)
      simp only [Act.put, sq1, sq2, sq3]
      refine tkq (i := 16) (d := 102) (v := (.bool false)) rfl rfl (Or.inl ⟨by kernel_rfl, fun w hSw => ?_⟩) (by assumption) ?_
      ·(try dsimp only at hSw); go_simp <;> (try rfl)
      simp only [Act.put, sq1, sq2, sq3]
      refine tkv (i := 17) (d := 103) rfl rfl (by assumption) ?_
      simp only [Act.put, sq1, sq2, sq3]
      refine tkv (i := 18) (d := 104) rfl rfl (by assumption) ?_
      simp only [Act.put, sq1, sq2, sq3]
      refine tkv (i := 19) (d := 105) rfl rfl (by assumption) ?_
      simp only [Act.put, sq1, sq2, sq3]
      refine tkv (i := 20) (d := 106) rfl rfl (by assumption) ?_
      simp only [Act.put, sq1, sq2, sq3]
      refine tkv (i := 21) (d := 107) rfl rfl (by assumption) ?_
      simp only [Act.put, sq1, sq2, sq3]
      refine tkv (i := 22) (d := 108) rfl rfl (by assumption) ?_
      simp only [Act.put, sq1, sq2, sq3]
      refine tkv (i := 23) (d := 109) rfl rfl (by assumption) ?_
      simp only [Act.put, sq1, sq2, sq3]
      refine tkv (i := 24) (d := 110) rfl rfl (by assumption) ?_
      simp only [Act.put, sq1, sq2, sq3]
      refine tkv (i := 25) (d := 111) rfl rfl (by assumption) ?_
      simp only [Act.put, sq1, sq2, sq3]
      refine tkv (i := 26) (d := 112) rfl rfl (by assumption) ?_
      simp only [Act.put, sq1, sq2, sq3]
      refine tkv (i := 27) (d := 113) rfl rfl (by assumption) ?_
      simp only [Act.put, sq1, sq2, sq3]
      refine tkv (i := 28) (d := 114) rfl rfl (by assumption) ?_
      simp only [Act.put, sq1, sq2, sq3]
      refine tkv (i := 29) (d := 115) rfl rfl (by assumption) ?_
      simp only [Act.put, sq1, sq2, sq3]
      refine tkq (i := 30) (d := 116) (v := (.bool false)) rfl rfl (Or.inl ⟨by kernel_rfl, fun w hSw => ?_⟩) (by assumption) ?_
      ·(try dsimp only at hSw); go_simp <;> (try rfl)
      simp only [Act.put, sq1, sq2, sq3]
      refine tkq (i := 31) (d := 117) (v := (.bool false)) rfl rfl (Or.inl ⟨by kernel_rfl, fun w hSw => ?_⟩) (by assumption) ?_
      ·(try dsimp only at hSw); go_simp <;> (try rfl)
      simp only [Act.put, sq1, sq2, sq3]
      refine wpAnyH_done (by kernel_rfl) ?_ _
      go_wp2_with fail
      go_meet
      case rel => exact ⟨rfl, low, P, JG.through HJv.out (Below.refl _ wv).drew, HWk.out.mono (Nat.le_succ _), HL0.out, HL1.out⟩
    ·clear HR3
     by_cases hq : x.q < low ∨ 1048576 < x.q
     ·skip
      go_upto_region 21 with fail
      refine wp_region_held_drew (S := fun W => Blk W wr.heap.size 42 x.cells) (by kernel_rfl) HJv.out.blk.drew (fun hHeld => ?_)
      change wpAnyH _ _ _ _ _ _ #[false, false, false, false, false, false, false, false, false] _ _
      refine tkq (i := 0) (d := 120) (v := (.pointer (some ⟨B, 0, none⟩))) rfl rfl (Or.inl ⟨by kernel_rfl, fun w hSw => ?_⟩) (by assumption) ?_
      ·(try dsimp only at hSw); go_simp <;> (try rfl)
      simp only [Act.put, sq1, sq2, sq3]
      refine tkq (i := 1) (d := 121) (v := (.pointer (some ⟨wr.heap.size, 1, none⟩))) rfl rfl (Or.inl ⟨by kernel_rfl, fun w hSw => ?_⟩) (by assumption) ?_
      ·(try dsimp only at hSw); go_simp <;> (try rfl)
      simp only [Act.put, sq1, sq2, sq3]
      refine tkq (i := 2) (d := 122) (v := (.int .i64 x.q)) rfl rfl (yields_load_at (by kernel_rfl) 2 (.tmp 121) rfl (.pointer (some ⟨wr.heap.size, 1, none⟩)) (by simp [Act.eval]) (.int .i64 x.q) (fun W hW => load_one' (Try.agg_i64 W) (Blk.cellAt (i := 1) hW rfl))) (by assumption) ?_
      simp only [Act.put, sq1, sq2, sq3]
      refine tkq (i := 4) (d := 124) (v := (.pointer (some ⟨L, 0, none⟩))) rfl rfl (Or.inl ⟨by kernel_rfl, fun w hSw => ?_⟩) (by assumption) ?_
      ·(try dsimp only at hSw); go_simp <;> (try rfl)
      simp only [Act.put, sq1, sq2, sq3]
      refine tkq (i := 5) (d := 125) (v := (.pointer (some ⟨wr.heap.size, 1, none⟩))) rfl rfl (Or.inl ⟨by kernel_rfl, fun w hSw => ?_⟩) (by assumption) ?_
      ·(try dsimp only at hSw); go_simp <;> (try rfl)
      simp only [Act.put, sq1, sq2, sq3]
      refine tkq (i := 6) (d := 126) (v := (.int .i64 x.q)) rfl rfl (yields_load_at (by kernel_rfl) 2 (.tmp 125) rfl (.pointer (some ⟨wr.heap.size, 1, none⟩)) (by simp [Act.eval]) (.int .i64 x.q) (fun W hW => load_one' (Try.agg_i64 W) (Blk.cellAt (i := 1) hW rfl))) (by assumption) ?_
      simp only [Act.put, sq1, sq2, sq3]
      refine wpAnyH_ready (rs := [3]) (by kernel_rfl) (by simp) ?_
      refine AllReadyH.cons rfl (fun K hK => ?_) AllReadyH.nil
      go_simp
      refine (JG.moveN (JG.through HJv.out (Below.refl _ wv).drew) x.q HN1.out hq).mono ?_
      rintro e u1 ⟨rfl, hw9⟩; subst hw9
      go_wp2_with fail
      refine hK.out _ _ HJv.out.blk.drew (fun hHeld1 => ?_)
      clear hHeld hK K
      have hHeld := hHeld1
      clear hHeld1
      refine wpAnyH_ready (rs := [7]) (by kernel_rfl) (by simp) ?_
      refine AllReadyH.cons rfl (fun K hK => ?_) AllReadyH.nil
      go_simp
      refine (JG.moveD (JG.through HJv.out (Below.refl _ wv).drew) x.q HWk.out.len).mono ?_
      rintro e u2 ⟨rfl, hw9⟩; rw [if_pos hq] at hw9; rw [if_pos hq]; subst hw9
      go_wp2_with fail
      refine hK.out _ _ HJv.out.blk.drew (fun hHeld1 => ?_)
      clear hHeld hK K
      have hHeld := hHeld1
      clear hHeld1
      refine tkq (i := 8) (d := 128) (v := (.bool false)) rfl rfl (Or.inl ⟨by kernel_rfl, fun w hSw => ?_⟩) (by assumption) ?_
      ·(try dsimp only at hSw); go_simp <;> (try rfl)
      simp only [Act.put, sq1, sq2, sq3]
      refine wpAnyH_done (by kernel_rfl) ?_ _
      go_wp2_with fail
      go_meet
      case rel => exact ⟨rfl, low, P, JG.through HJv.out (Below.refl _ wv).drew, HWk.out.mono (Nat.le_succ _), HL0.out, HL1.out⟩
     ·skip
      go_upto_region 21 with fail
      refine wp_region_held_drew (S := fun W => Blk W wr.heap.size 42 x.cells) (by kernel_rfl) HJv.out.blk.drew (fun hHeld => ?_)
      change wpAnyH _ _ _ _ _ _ #[false, false, false, false, false, false, false, false, false] _ _
      refine tkq (i := 0) (d := 120) (v := (.pointer (some ⟨B, 0, none⟩))) rfl rfl (Or.inl ⟨by kernel_rfl, fun w hSw => ?_⟩) (by assumption) ?_
      ·(try dsimp only at hSw); go_simp <;> (try rfl)
      simp only [Act.put, sq1, sq2, sq3]
      refine tkq (i := 1) (d := 121) (v := (.pointer (some ⟨wr.heap.size, 1, none⟩))) rfl rfl (Or.inl ⟨by kernel_rfl, fun w hSw => ?_⟩) (by assumption) ?_
      ·(try dsimp only at hSw); go_simp <;> (try rfl)
      simp only [Act.put, sq1, sq2, sq3]
      refine tkq (i := 2) (d := 122) (v := (.int .i64 x.q)) rfl rfl (yields_load_at (by kernel_rfl) 2 (.tmp 121) rfl (.pointer (some ⟨wr.heap.size, 1, none⟩)) (by simp [Act.eval]) (.int .i64 x.q) (fun W hW => load_one' (Try.agg_i64 W) (Blk.cellAt (i := 1) hW rfl))) (by assumption) ?_
      simp only [Act.put, sq1, sq2, sq3]
      refine tkq (i := 4) (d := 124) (v := (.pointer (some ⟨L, 0, none⟩))) rfl rfl (Or.inl ⟨by kernel_rfl, fun w hSw => ?_⟩) (by assumption) ?_
      ·(try dsimp only at hSw); go_simp <;> (try rfl)
      simp only [Act.put, sq1, sq2, sq3]
      refine tkq (i := 5) (d := 125) (v := (.pointer (some ⟨wr.heap.size, 1, none⟩))) rfl rfl (Or.inl ⟨by kernel_rfl, fun w hSw => ?_⟩) (by assumption) ?_
      ·(try dsimp only at hSw); go_simp <;> (try rfl)
      simp only [Act.put, sq1, sq2, sq3]
      refine tkq (i := 6) (d := 126) (v := (.int .i64 x.q)) rfl rfl (yields_load_at (by kernel_rfl) 2 (.tmp 125) rfl (.pointer (some ⟨wr.heap.size, 1, none⟩)) (by simp [Act.eval]) (.int .i64 x.q) (fun W hW => load_one' (Try.agg_i64 W) (Blk.cellAt (i := 1) hW rfl))) (by assumption) ?_
      simp only [Act.put, sq1, sq2, sq3]
      refine wpAnyH_ready (rs := [3]) (by kernel_rfl) (by simp) ?_
      refine AllReadyH.cons rfl (fun K hK => ?_) AllReadyH.nil
      go_simp
      refine (JG.moveP (JG.through HJv.out (Below.refl _ wv).drew) x.q HN1.out HWk.out.ris hq).mono ?_
      rintro e u1 ⟨rfl, hj9⟩; have HJ3 := Lib.hid hj9; clear hj9
      go_wp2_with fail
      refine hK.out _ _ HJ3.out.blk (fun hHeld1 => ?_)
      clear hHeld hK K
      have hHeld := hHeld1
      clear hHeld1
      refine wpAnyH_ready (rs := [7]) (by kernel_rfl) (by simp) ?_
      refine AllReadyH.cons rfl (fun K hK => ?_) AllReadyH.nil
      go_simp
      refine (JG.moveD HJ3.out x.q HWk.out.len).mono ?_
      rintro e u2 ⟨rfl, hj9⟩; rw [if_neg hq] at hj9; rw [if_neg hq]; have HJ4 := Lib.hid hj9; clear hj9
      go_wp2_with fail
      refine hK.out _ _ HJ4.out.blk (fun hHeld1 => ?_)
      clear hHeld hK K
      have hHeld := hHeld1
      clear hHeld1
      refine tkq (i := 8) (d := 128) (v := (.bool false)) rfl rfl (Or.inl ⟨by kernel_rfl, fun w hSw => ?_⟩) (by assumption) ?_
      ·(try dsimp only at hSw); go_simp <;> (try rfl)
      simp only [Act.put, sq1, sq2, sq3]
      refine wpAnyH_done (by kernel_rfl) ?_ _
      go_wp2_with fail
      go_meet
      case rel => exact ⟨rfl, x.q, _, HJ4.out.any, (HWk.out.drop (by omega)).mono (Nat.le_succ _), by have := HL0.out; omega, by omega⟩
    ·clear HR3
     go_wp2_with (first
      | (go_at_call 8; (with_reducible refine (HJv.out.clearP HN1.out).mono ?_); rintro e w4 ⟨rfl, hj9⟩; have HJ1 := Lib.hid hj9; clear hj9)
      | (go_at_call 17; (with_reducible refine (HJ1.out.clearD).mono ?_); rintro e w5 ⟨rfl, hj9⟩; have HJ2 := Lib.hid hj9; clear hj9))
     go_meet
     case rel => exact ⟨rfl, low, [], HJ2.out, WkOk.nil _ _ _, HL0.out, HL1.out⟩
   case rest =>
    obtain ⟨rfl, low2, P2, hj, hwk, hm0, hm1⟩ := hcut
    have HJx := Lib.hid hj
    have HWx := Lib.hid hwk
    have HM0 := Lib.hid hm0
    have HM1 := Lib.hid hm1
    obtain ⟨A, c, _, v, hbx, hqx, _, _⟩ := hj.docBox
    have HBx := Lib.hid hbx
    have HQx := Lib.hid hqx
    obtain ⟨bi, hbi⟩ : ∃ bi, inB low2 x.q = bi := ⟨_, rfl⟩
    have HBi := Lib.hid hbi
    have hl8 := hwk.len
    have hg8 : ¬ (8 : Int) < (P2.length : Int) := by omega
    clear hj hwk hm0 hm1 hbx hqx hbi k0 k1 hr HR3
    go_upto_region 26 with fail
    refine wp_region_held_drew (S := fun W => Below wc.heap.size wc W) (by kernel_rfl) (Below.refl _ wc).drew (fun hHeld => ?_)
    change wpAnyH _ _ _ _ _ _ #[false, false, false, false, false, false, false, false, false, false, false, false, false, false, false, false, false, false, false, false, false, false, false, false, false, false, false, false, false, false, false, false, false, false] _ _
    refine tkq (i := 0) (d := 135) (v := (.pointer (some ⟨B, 0, none⟩))) rfl rfl (Or.inl ⟨by kernel_rfl, fun w hSw => ?_⟩) (by assumption) ?_
    ·(try dsimp only at hSw); go_simp <;> (try rfl)
    simp only [Act.put, sq1, sq2, sq3]
    refine tkq (i := 2) (d := 137) (v := (.pointer (some ⟨L, 0, none⟩))) rfl rfl (Or.inl ⟨by kernel_rfl, fun w hSw => ?_⟩) (by assumption) ?_
    ·(try dsimp only at hSw); go_simp <;> (try rfl)
    simp only [Act.put, sq1, sq2, sq3]
    refine tkq (i := 3) (d := 138) (v := (.pointer (some ⟨L, 0, none⟩))) rfl rfl (Or.inl ⟨by kernel_rfl, fun w hSw => ?_⟩) (by assumption) ?_
    ·(try dsimp only at hSw); go_simp <;> (try rfl)
    simp only [Act.put, sq1, sq2, sq3]
    refine tkq (i := 4) (d := 139) (v := (.pointer (some ⟨L, 1, none⟩))) rfl rfl (Or.inl ⟨by kernel_rfl, fun w hSw => ?_⟩) (by assumption) ?_
    ·(try dsimp only at hSw); go_simp <;> (try rfl)
    simp only [Act.put, sq1, sq2, sq3]
    refine tkq (i := 5) (d := 140) (v := (.int .i64 low2)) rfl rfl (yields_load_at (by kernel_rfl) 2 (.tmp 139) rfl (.pointer (some ⟨L, 1, none⟩)) (by simp [Act.eval]) (.int .i64 low2) (fun W hW => load_one' (Try.agg_i64 W) (Blk.cellAt (i := 1) (HBx.out.through hW) rfl))) (by assumption) ?_
    simp only [Act.put, sq1, sq2, sq3]
    refine wpAnyH_ready (rs := [1]) (by kernel_rfl) (by simp) ?_
    refine AllReadyH.cons rfl (fun K hK => ?_) AllReadyH.nil
    go_simp
    refine (JG.lowP (HJx.out.through hHeld) HN1.out).mono ?_
    rintro e z1 ⟨rfl, hw9⟩; subst hw9
    go_wp2_with fail
    refine hK.out _ _ hHeld (fun hHeld1 => ?_)
    clear hHeld hK K
    have hHeld := hHeld1
    clear hHeld1
    refine tkq (i := 6) (d := 141) (v := (.bool false)) rfl rfl (Or.inl ⟨by kernel_rfl, fun w hSw => ?_⟩) (by assumption) ?_
    ·(try dsimp only at hSw); go_simp <;> (try rfl)
    simp only [Act.put, sq1, sq2, sq3]
    refine tkq (i := 7) (d := 142) (v := (.bool false)) rfl rfl (Or.inl ⟨by kernel_rfl, fun w hSw => ?_⟩) (by assumption) ?_
    ·(try dsimp only at hSw); go_simp <;> (try rfl)
    simp only [Act.put, sq1, sq2, sq3]
    refine tkq (i := 8) (d := 143) (v := (.pointer (some ⟨B, 0, none⟩))) rfl rfl (Or.inl ⟨by kernel_rfl, fun w hSw => ?_⟩) (by assumption) ?_
    ·(try dsimp only at hSw); go_simp <;> (try rfl)
    simp only [Act.put, sq1, sq2, sq3]
    refine tkq (i := 9) (d := 144) (v := (.pointer (some ⟨wr.heap.size, 1, none⟩))) rfl rfl (Or.inl ⟨by kernel_rfl, fun w hSw => ?_⟩) (by assumption) ?_
    ·(try dsimp only at hSw); go_simp <;> (try rfl)
    simp only [Act.put, sq1, sq2, sq3]
    refine tkq (i := 10) (d := 145) (v := (.int .i64 x.q)) rfl rfl (yields_load_at (by kernel_rfl) 2 (.tmp 144) rfl (.pointer (some ⟨wr.heap.size, 1, none⟩)) (by simp [Act.eval]) (.int .i64 x.q) (fun W hW => load_one' (Try.agg_i64 W) (Blk.cellAt (i := 1) ((HJx.out.blk).through hW) rfl))) (by assumption) ?_
    simp only [Act.put, sq1, sq2, sq3]
    refine tkq (i := 12) (d := 147) (v := (.pointer (some ⟨L, 0, none⟩))) rfl rfl (Or.inl ⟨by kernel_rfl, fun w hSw => ?_⟩) (by assumption) ?_
    ·(try dsimp only at hSw); go_simp <;> (try rfl)
    simp only [Act.put, sq1, sq2, sq3]
    refine tkq (i := 13) (d := 148) (v := (.pointer (some ⟨wr.heap.size, 1, none⟩))) rfl rfl (Or.inl ⟨by kernel_rfl, fun w hSw => ?_⟩) (by assumption) ?_
    ·(try dsimp only at hSw); go_simp <;> (try rfl)
    simp only [Act.put, sq1, sq2, sq3]
    refine tkq (i := 14) (d := 149) (v := (.int .i64 x.q)) rfl rfl (yields_load_at (by kernel_rfl) 2 (.tmp 148) rfl (.pointer (some ⟨wr.heap.size, 1, none⟩)) (by simp [Act.eval]) (.int .i64 x.q) (fun W hW => load_one' (Try.agg_i64 W) (Blk.cellAt (i := 1) ((HJx.out.blk).through hW) rfl))) (by assumption) ?_
    simp only [Act.put, sq1, sq2, sq3]
    refine wpAnyH_ready (rs := [11]) (by kernel_rfl) (by simp) ?_
    refine AllReadyH.cons rfl (fun K hK => ?_) AllReadyH.nil
    go_simp
    refine (JG.inP (HJx.out.through hHeld) x.q HN1.out HM0.out HM1.out).mono ?_
    rintro e z2 ⟨rfl, hw9⟩; rw [HBi.out]; subst hw9
    go_wp2_with fail
    refine hK.out _ _ hHeld (fun hHeld1 => ?_)
    clear hHeld hK K
    have hHeld := hHeld1
    clear hHeld1
    refine wpAnyH_ready (rs := [15]) (by kernel_rfl) (by simp) ?_
    refine AllReadyH.cons rfl (fun K hK => ?_) AllReadyH.nil
    go_simp
    refine (JG.inD (HJx.out.through hHeld) x.q HM0.out HM1.out).mono ?_
    rintro e z3 ⟨rfl, hw9⟩; rw [HBi.out]; subst hw9
    go_wp2_with fail
    refine hK.out _ _ hHeld (fun hHeld1 => ?_)
    clear hHeld hK K
    have hHeld := hHeld1
    clear hHeld1
    refine tkq (i := 16) (d := 151) (v := (.bool false)) rfl rfl (Or.inl ⟨by kernel_rfl, fun w hSw => ?_⟩) (by assumption) ?_
    ·(try dsimp only at hSw); go_simp <;> (try rfl)
    simp only [Act.put, sq1, sq2, sq3]
    refine tkq (i := 17) (d := 152) (v := (.bool false)) rfl rfl (Or.inl ⟨by kernel_rfl, fun w hSw => ?_⟩) (by assumption) ?_
    ·(try dsimp only at hSw); go_simp <;> (try rfl)
    simp only [Act.put, sq1, sq2, sq3]
    refine tkq (i := 18) (d := 153) (v := (.bool false)) rfl rfl (Or.inl ⟨by kernel_rfl, fun w hSw => ?_⟩) (by assumption) ?_
    ·(try dsimp only at hSw); go_simp <;> (try rfl)
    simp only [Act.put, sq1, sq2, sq3]
    refine tkq (i := 19) (d := 154) (v := (.pointer (some ⟨B, 0, none⟩))) rfl rfl (Or.inl ⟨by kernel_rfl, fun w hSw => ?_⟩) (by assumption) ?_
    ·(try dsimp only at hSw); go_simp <;> (try rfl)
    simp only [Act.put, sq1, sq2, sq3]
    refine tkq (i := 21) (d := 156) (v := (.pointer (some ⟨L, 0, none⟩))) rfl rfl (Or.inl ⟨by kernel_rfl, fun w hSw => ?_⟩) (by assumption) ?_
    ·(try dsimp only at hSw); go_simp <;> (try rfl)
    simp only [Act.put, sq1, sq2, sq3]
    refine tkq (i := 22) (d := 157) (v := (.pointer (some ⟨L, 0, none⟩))) rfl rfl (Or.inl ⟨by kernel_rfl, fun w hSw => ?_⟩) (by assumption) ?_
    ·(try dsimp only at hSw); go_simp <;> (try rfl)
    simp only [Act.put, sq1, sq2, sq3]
    refine tkq (i := 23) (d := 158) (v := (.pointer (some ⟨L, 2, none⟩))) rfl rfl (Or.inl ⟨by kernel_rfl, fun w hSw => ?_⟩) (by assumption) ?_
    ·(try dsimp only at hSw); go_simp <;> (try rfl)
    simp only [Act.put, sq1, sq2, sq3]
    refine tkq (i := 24) (d := 159) (v := (.slice A P2.length c)) rfl rfl (yields_load_at (by kernel_rfl) 33 (.tmp 158) rfl (.pointer (some ⟨L, 2, none⟩)) (by simp [Act.eval]) (.slice A P2.length c) (fun W hW => load_one' (Try.agg_qs W) (Blk.cellAt (i := 2) (HBx.out.through hW) rfl))) (by assumption) ?_
    simp only [Act.put, sq1, sq2, sq3]
    refine wpAnyH_ready (rs := [20]) (by kernel_rfl) (by simp) ?_
    refine AllReadyH.cons rfl (fun K hK => ?_) AllReadyH.nil
    go_simp
    refine (JG.seqsP (HJx.out.through hHeld) HN1.out HWx.out.ris HWx.out.len).mono ?_
    rintro e z4 ⟨A4, c4, rfl, hq9, hb9⟩; have X4 := Lib.hid (below_step hHeld hb9); have HQ4 := Lib.hid hq9; clear hq9 hb9
    go_wp2_with fail
    refine hK.out _ _ X4.out (fun hHeld1 => ?_)
    clear hHeld hK K
    have hHeld := hHeld1
    clear hHeld1
    refine wpAnyH_ready (rs := [25]) (by kernel_rfl) (by simp) ?_
    refine AllReadyH.cons rfl (fun K hK => ?_) AllReadyH.nil
    go_simp
    refine (rsameseqs_any (seqW P2) (seqW P2) A4 P2.length c4 A P2.length c _ HQ4.out (HQx.out.through hHeld) (by have := HWx.out.len; omega)).mono ?_
    rintro e z5 ⟨rfl, hb9⟩; rw [beq_self_eq_true]; have X5 := Lib.hid (below_step hHeld hb9); clear hb9
    go_wp2_with fail
    refine hK.out _ _ X5.out (fun hHeld1 => ?_)
    clear hHeld hK K
    have hHeld := hHeld1
    clear hHeld1
    refine tkq (i := 26) (d := 161) (v := (.bool false)) rfl rfl (Or.inl ⟨by kernel_rfl, fun w hSw => ?_⟩) (by assumption) ?_
    ·(try dsimp only at hSw); go_simp <;> (try rfl)
    simp only [Act.put, sq1, sq2, sq3]
    refine tkq (i := 27) (d := 162) (v := (.bool false)) rfl rfl (Or.inl ⟨by kernel_rfl, fun w hSw => ?_⟩) (by assumption) ?_
    ·(try dsimp only at hSw); go_simp <;> (try rfl)
    simp only [Act.put, sq1, sq2, sq3]
    refine tkq (i := 28) (d := 163) (v := (.bool false)) rfl rfl (Or.inl ⟨by kernel_rfl, fun w hSw => ?_⟩) (by assumption) ?_
    ·(try dsimp only at hSw); go_simp <;> (try rfl)
    simp only [Act.put, sq1, sq2, sq3]
    refine tkq (i := 29) (d := 164) (v := (.pointer (some ⟨B, 0, none⟩))) rfl rfl (Or.inl ⟨by kernel_rfl, fun w hSw => ?_⟩) (by assumption) ?_
    ·(try dsimp only at hSw); go_simp <;> (try rfl)
    simp only [Act.put, sq1, sq2, sq3]
    refine wpAnyH_ready (rs := [30]) (by kernel_rfl) (by simp) ?_
    refine AllReadyH.cons rfl (fun K hK => ?_) AllReadyH.nil
    go_simp
    refine (JG.seqsP (HJx.out.through hHeld) HN1.out HWx.out.ris HWx.out.len).mono ?_
    rintro e z6 ⟨A6, c6, rfl, hq9, hb9⟩; have X6 := Lib.hid (below_step hHeld hb9); clear hq9 hb9
    go_wp2_with fail
    refine hK.out _ _ X6.out (fun hHeld1 => ?_)
    clear hHeld hK K
    have hHeld := hHeld1
    clear hHeld1
    refine tkq (i := 31) (d := 166) (v := (.int .i64 (P2.length : Int))) rfl rfl (Or.inl ⟨by kernel_rfl, fun w hSw => ?_⟩) (by assumption) ?_
    ·(try dsimp only at hSw); go_simp <;> (try rfl)
    simp only [Act.put, sq1, sq2, sq3]
    refine tkq (i := 32) (d := 167) (v := (.bool false)) rfl rfl (Or.inl ⟨by kernel_rfl, fun w hSw => ?_⟩) (by assumption) ?_
    ·(try dsimp only at hSw); go_simp <;> (try rfl)
    simp only [Act.put, sq1, sq2, sq3]
    refine tkq (i := 33) (d := 168) (v := (.bool false)) rfl rfl (Or.inl ⟨by kernel_rfl, fun w hSw => ?_⟩) (by assumption) ?_
    ·(try dsimp only at hSw); go_simp <;> (try rfl)
    simp only [Act.put, sq1, sq2, sq3]
    refine wpAnyH_done (by kernel_rfl) ?_ _
    go_wp2_with fail
    go_roundw
    case rel => exact ⟨i + 1, low2, P2, by omega, by go_num, HJx.out.h.through X6.out, HWx.out, HM0.out, HM1.out⟩
    case measure => simp [intOf]; omega
  ·go_wp2
   go_ret
   exact ⟨rfl, HX.out⟩

end Go.Proofs.Ytponmfkddglopaa
