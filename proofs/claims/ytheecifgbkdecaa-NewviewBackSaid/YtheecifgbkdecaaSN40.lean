/-
  CwJ
-/
import Derived.Test.YtheecifgbkdecaaSN39
import Derived.Test.YtheecifgbkdecaaSNT
namespace Go.Proofs.Ytheecifgbkdecaa
open Go.RowKit

set_option maxHeartbeats 16000000 in
set_option maxRecDepth 100000 in
theorem isrowpf1_any (ps : List Pf) (A : Option Addr) (k c0 : Nat) (most : Nat) (gf : Nat) (w : World) (h : PfsIn w A k ps) (ch : Ch) (P Q R : Pl) (N : Int) (gc gn : Nat) (hc : Blk w gc 25 (Ch.cells ch P Q R)) (hN : Blk w gn 3 [.int .i64 N]) (hlw : isW ch.lw = true) (hl : ∀ p ∈ ps, ∀ y ∈ p.es, y.co.lt.length ≤ 1000000) (hf : Blk w gf 117 [(.func (.func 83) #[] #[])]) (hm : most ≤ 1000) (hk : k ≤ 9223372036854775807) :
  Calls Try.prog 86 #[.slice A k c0, .int .i64 (most : Int), (.func (.func 80) #[] #[.pointer (some ⟨gc, 0, none⟩), .pointer (some ⟨gn, 0, none⟩)]), .slice (some ⟨gf, 0, none⟩) 1 1] w fun e w' => e = .returned (.bool (decide (k ≤ most) && ppB ch.vw ch.lw N none ps)) ∧ Below w.heap.size w w' := by
 have HI := Lib.hid h
 have HLn := Lib.hid h.len
 have HF := Lib.hid hf
 have HC := Lib.hid hc
 have HN := Lib.hid hN
 have HLW := Lib.hid hlw
 have HL := Lib.hid hl
 by_cases hkm : k ≤ most
 ·have hd0 : decide ((most : Int) < (k : Int)) = false := by simp; omega
  have hd9 : decide (most < k) = false := by simp; omega
  rw [decide_eq_true hkm, Bool.true_and]
  have hkb : k ≤ 1000 := by omega
  obtain ⟨bb, hbb⟩ : ∃ bb, ppB ch.vw ch.lw N none ps = bb := ⟨_, rfl⟩
  have HB0 : Hid (bb = ppB ch.vw ch.lw N (prvO (fun p : Pf => p.sq) ps 0) (ps.drop 0)) := Lib.hid (by rw [← hbb, List.drop_zero]; rfl)
  rw [hbb]
  clear h hf hbb hm hk hc hN hlw hl
  go_enter Try.func86, Try.ntmps86
  go_wp2
  go_loopw [17] (fun iv wr => ∃ i : Nat, i ≤ k ∧ iv = .int .i64 (i : Int) ∧ bb = ppB ch.vw ch.lw N (prvO (fun p : Pf => p.sq) ps i) (ps.drop i) ∧ Below w.heap.size w wr) (fun iv _ => k - (intOf iv).toNat)
  case atStart => exact ⟨0, Nat.zero_le _, rfl, HB0.out, Below.refl _ _⟩
  case round =>
   obtain ⟨i, hi, rfl, hp, hx⟩ := hrel
   have HX := Lib.hid hx
   clear hx
   by_cases hlt : i < k
   ·obtain ⟨g, o, x, B, m, c, hA, hg, hmem, hd, hrx, he, hmc, hcm⟩ := (HI.out.through HX.out).at hlt
    subst hA
    have HRx := Lib.hid hrx
    have HEx := Lib.hid he
    have hix := fun W => Try.ix_pf W g o k c0 i hlt
    have hpn : prvO (fun p : Pf => p.sq) ps (i + 1) = some x.sq := prvO_succ _ hg
    obtain ⟨mk, hmk⟩ : ∃ b, prfB ch.vw ch.lw N x = b := ⟨_, rfl⟩
    have HMy : Hid (∀ W : World, Below wr.heap.size wr W → Calls Try.prog 80 #[.agg #[.int .i64 x.sq, .int .i64 x.vw, .slice B m c], .pointer (some ⟨gc, 0, none⟩), .pointer (some ⟨gn, 0, none⟩)] W fun e w' => e = .returned (.bool mk) ∧ Below W.heap.size W w') := Lib.hid (fun W hW => hmk ▸ cl2_any x B m c ch P Q R N gc gn W (HC.out.through (below_step HX.out hW)) (HN.out.through (below_step HX.out hW)) (HEx.out.through hW) hmc HLW.out (HL.out x hmem))
    rw [hd] at hp
    by_cases h0 : i = 0
    ·have hgt : decide ((0 : Int) < (i : Int)) = false := by simp; omega
     have HG0 := Lib.hid h0
     have hp2 : bb = (mk && ppB ch.vw ch.lw N (prvO (fun p : Pf => p.sq) ps (i + 1)) (ps.drop (i + 1))) := by rw [hp, hpn, h0, prvO_zero, ppB, hmk]; simp
     clear hp hpn hmk hd hrx hg hmem h0
     cases mk with
     | false =>
      have HPn : Hid (bb = false) := Lib.hid (by simpa using hp2)
      clear hp2
      go_wp2_with (first
       | (refine wpList_load_mid rfl 55 (.tmp 20) rfl g (o + i * 3) rfl [.int .i64 x.sq, .int .i64 x.vw, .slice B m c] _ HRx.out Try.underlying55 rfl (by kernel_rfl) ?_)
       | (refine wpList_store_blk rfl 55 (.tmp 10) (.tmp 21) rfl wr.heap.size [.int .i64 x.sq, .int .i64 x.vw, .slice B m c] rfl rfl 55 [.int .i64 0, .int .i64 0, .slice none 0 0] (Blk.fresh rfl rfl) (by kernel_rfl) rfl (one3p_ _ _ _ _ _) ?_; simp only [Act.put]; intro wv hbv hgv; have HB := Lib.hid hbv; have HXv : Hid (Below w.heap.size w wv) := Lib.hid (below_step HX.out (below_new hgv)); have HNv := Lib.hid (below_new hgv); clear hbv hgv))
      try dsimp only [Act.put]
      refine wp_region_held_drew (S := fun W => Below wv.heap.size wv W) (by kernel_rfl) (Below.refl _ _).drew (fun hHeld => ?_)
      change wpAnyH _ _ _ _ _ _ #[false, false, false, false, false, false, false, false, false, false, false, false, false, false, false, false, false, false, false] _ _
      refine tkq (i := 0) (d := 22) (v := (.func (.func 80) #[] #[.pointer (some ⟨gc, 0, none⟩), .pointer (some ⟨gn, 0, none⟩)])) rfl rfl (Or.inl ⟨by kernel_rfl, fun w hSw => ?_⟩) (by assumption) ?_
      ·(try dsimp only at hSw); go_simp <;> (first | (rfl; done) | exact HG0.out | skip)
      simp only [Act.put, sq1, sq2, sq3]
      refine tkq (i := 1) (d := 23) (v := (.agg #[.int .i64 x.sq, .int .i64 x.vw, .slice B m c])) rfl rfl (yieldsIf_load_mid (by kernel_rfl) 55 (.tmp 10) rfl wr.heap.size 0 (by simp [Act.eval]) [.int .i64 x.sq, .int .i64 x.vw, .slice B m c] _ (fun W hW => (HB.out.through hW).whl_) Try.underlying55 rfl (by kernel_rfl)) (by assumption) ?_
      simp only [Act.put, sq1, sq2, sq3]
      refine wpAnyH_ready (rs := [2]) (by kernel_rfl) (by simp) ?_
      refine AllReadyH.cons rfl (fun K hK => ?_) AllReadyH.nil
      go_simp
      refine (HMy.out _ (below_step HNv.out hHeld)).mono ?_
      rintro e w5 ⟨rfl, hb5⟩; have HK5 := Lib.hid (below_step hHeld hb5); clear hb5
      go_wp2_with fail
      refine hK.out _ _ HK5.out (fun hHeld1 => ?_)
      clear hHeld hK K
      have hHeld := hHeld1
      clear hHeld1
      refine tkq (i := 3) (d := 25) (v := (.bool true)) rfl rfl (Or.inl ⟨by kernel_rfl, fun w hSw => ?_⟩) (by assumption) ?_
      ·(try dsimp only at hSw); go_simp <;> (first | (rfl; done) | exact HG0.out | skip)
      simp only [Act.put, sq1, sq2, sq3]
      refine tkq (i := 4) (d := 26) (v := (.bool true)) rfl rfl (Or.inl ⟨by kernel_rfl, fun w hSw => ?_⟩) (by assumption) ?_
      ·(try dsimp only at hSw); go_simp <;> (first | (rfl; done) | exact HG0.out | skip)
      simp only [Act.put, sq1, sq2, sq3]
      refine tkv (i := 5) (d := 27) rfl rfl (by assumption) ?_
      simp only [Act.put, sq1, sq2, sq3]
      refine tkv (i := 6) (d := 28) rfl rfl (by assumption) ?_
      simp only [Act.put, sq1, sq2, sq3]
      refine tkv (i := 7) (d := 29) rfl rfl (by assumption) ?_
      simp only [Act.put, sq1, sq2, sq3]
      refine tkv (i := 8) (d := 30) rfl rfl (by assumption) ?_
      simp only [Act.put, sq1, sq2, sq3]
      refine tkv (i := 9) (d := 31) rfl rfl (by assumption) ?_
      simp only [Act.put, sq1, sq2, sq3]
      refine tkv (i := 10) (d := 32) rfl rfl (by assumption) ?_
      simp only [Act.put, sq1, sq2, sq3]
      refine tkv (i := 11) (d := 33) rfl rfl (by assumption) ?_
      simp only [Act.put, sq1, sq2, sq3]
      refine tkv (i := 12) (d := 34) rfl rfl (by assumption) ?_
      simp only [Act.put, sq1, sq2, sq3]
      refine tkv (i := 13) (d := 35) rfl rfl (by assumption) ?_
      simp only [Act.put, sq1, sq2, sq3]
      refine tkv (i := 14) (d := 36) rfl rfl (by assumption) ?_
      simp only [Act.put, sq1, sq2, sq3]
      refine tkv (i := 15) (d := 37) rfl rfl (by assumption) ?_
      simp only [Act.put, sq1, sq2, sq3]
      refine tkv (i := 16) (d := 38) rfl rfl (by assumption) ?_
      simp only [Act.put, sq1, sq2, sq3]
      refine tkv (i := 17) (d := 39) rfl rfl (by assumption) ?_
      simp only [Act.put, sq1, sq2, sq3]
      refine tkq (i := 18) (d := 40) (v := (.bool true)) rfl rfl (Or.inl ⟨by kernel_rfl, fun w hSw => ?_⟩) (by assumption) ?_
      ·(try dsimp only at hSw); go_simp <;> (first | (rfl; done) | exact HG0.out | skip)
      simp only [Act.put, sq1, sq2, sq3]
      refine wpAnyH_done (by kernel_rfl) ?_ _
      have HXe := Lib.hid (below_step HXv.out hHeld)
      clear hHeld
      go_wp2
      go_ret
      exact ⟨ret_bo (by rw [HPn.out]), HXe.out⟩
     | true =>
      have HPn : Hid (bb = ppB ch.vw ch.lw N (prvO (fun p : Pf => p.sq) ps (i + 1)) (ps.drop (i + 1))) := Lib.hid (by simpa using hp2)
      clear hp2
      go_wp2_with (first
       | (refine wpList_load_mid rfl 55 (.tmp 20) rfl g (o + i * 3) rfl [.int .i64 x.sq, .int .i64 x.vw, .slice B m c] _ HRx.out Try.underlying55 rfl (by kernel_rfl) ?_)
       | (refine wpList_store_blk rfl 55 (.tmp 10) (.tmp 21) rfl wr.heap.size [.int .i64 x.sq, .int .i64 x.vw, .slice B m c] rfl rfl 55 [.int .i64 0, .int .i64 0, .slice none 0 0] (Blk.fresh rfl rfl) (by kernel_rfl) rfl (one3p_ _ _ _ _ _) ?_; simp only [Act.put]; intro wv hbv hgv; have HB := Lib.hid hbv; have HXv : Hid (Below w.heap.size w wv) := Lib.hid (below_step HX.out (below_new hgv)); have HNv := Lib.hid (below_new hgv); clear hbv hgv))
      try dsimp only [Act.put]
      refine wp_region_held_drew (S := fun W => Below wv.heap.size wv W) (by kernel_rfl) (Below.refl _ _).drew (fun hHeld => ?_)
      change wpAnyH _ _ _ _ _ _ #[false, false, false, false, false, false, false, false, false, false, false, false, false, false, false, false, false, false, false] _ _
      refine tkq (i := 0) (d := 22) (v := (.func (.func 80) #[] #[.pointer (some ⟨gc, 0, none⟩), .pointer (some ⟨gn, 0, none⟩)])) rfl rfl (Or.inl ⟨by kernel_rfl, fun w hSw => ?_⟩) (by assumption) ?_
      ·(try dsimp only at hSw); go_simp <;> (first | (rfl; done) | exact HG0.out | skip)
      simp only [Act.put, sq1, sq2, sq3]
      refine tkq (i := 1) (d := 23) (v := (.agg #[.int .i64 x.sq, .int .i64 x.vw, .slice B m c])) rfl rfl (yieldsIf_load_mid (by kernel_rfl) 55 (.tmp 10) rfl wr.heap.size 0 (by simp [Act.eval]) [.int .i64 x.sq, .int .i64 x.vw, .slice B m c] _ (fun W hW => (HB.out.through hW).whl_) Try.underlying55 rfl (by kernel_rfl)) (by assumption) ?_
      simp only [Act.put, sq1, sq2, sq3]
      refine wpAnyH_ready (rs := [2]) (by kernel_rfl) (by simp) ?_
      refine AllReadyH.cons rfl (fun K hK => ?_) AllReadyH.nil
      go_simp
      refine (HMy.out _ (below_step HNv.out hHeld)).mono ?_
      rintro e w5 ⟨rfl, hb5⟩; have HK5 := Lib.hid (below_step hHeld hb5); clear hb5
      go_wp2_with fail
      refine hK.out _ _ HK5.out (fun hHeld1 => ?_)
      clear hHeld hK K
      have hHeld := hHeld1
      clear hHeld1
      refine tkq (i := 3) (d := 25) (v := (.bool false)) rfl rfl (Or.inl ⟨by kernel_rfl, fun w hSw => ?_⟩) (by assumption) ?_
      ·(try dsimp only at hSw); go_simp <;> (first | (rfl; done) | exact HG0.out | skip)
      simp only [Act.put, sq1, sq2, sq3]
      refine tkq (i := 4) (d := 26) (v := (.bool false)) rfl rfl (Or.inl ⟨by kernel_rfl, fun w hSw => ?_⟩) (by assumption) ?_
      ·(try dsimp only at hSw); go_simp <;> (first | (rfl; done) | exact HG0.out | skip)
      simp only [Act.put, sq1, sq2, sq3]
      refine tkq (i := 5) (d := 27) (v := (.int .i64 (i : Int))) rfl rfl (Or.inl ⟨by kernel_rfl, fun w hSw => ?_⟩) (by assumption) ?_
      ·(try dsimp only at hSw); go_simp <;> (first | (rfl; done) | exact HG0.out | skip)
      simp only [Act.put, sq1, sq2, sq3]
      refine tkq (i := 6) (d := 28) (v := (.bool false)) rfl rfl (Or.inl ⟨by kernel_rfl, fun w hSw => ?_⟩) (by assumption) ?_
      ·(try dsimp only at hSw); go_simp <;> (first | (rfl; done) | exact HG0.out | skip)
      simp only [Act.put, sq1, sq2, sq3]
      refine tkq (i := 7) (d := 29) (v := (.bool false)) rfl rfl (Or.inl ⟨by kernel_rfl, fun w hSw => ?_⟩) (by assumption) ?_
      ·(try dsimp only at hSw); go_simp <;> (first | (rfl; done) | exact HG0.out | skip)
      simp only [Act.put, sq1, sq2, sq3]
      refine tkv (i := 8) (d := 30) rfl rfl (by assumption) ?_
      simp only [Act.put, sq1, sq2, sq3]
      refine tkv (i := 9) (d := 31) rfl rfl (by assumption) ?_
      simp only [Act.put, sq1, sq2, sq3]
      refine tkv (i := 10) (d := 32) rfl rfl (by assumption) ?_
      simp only [Act.put, sq1, sq2, sq3]
      refine tkv (i := 11) (d := 33) rfl rfl (by assumption) ?_
      simp only [Act.put, sq1, sq2, sq3]
      refine tkv (i := 12) (d := 34) rfl rfl (by assumption) ?_
      simp only [Act.put, sq1, sq2, sq3]
      refine tkv (i := 13) (d := 35) rfl rfl (by assumption) ?_
      simp only [Act.put, sq1, sq2, sq3]
      refine tkv (i := 14) (d := 36) rfl rfl (by assumption) ?_
      simp only [Act.put, sq1, sq2, sq3]
      refine tkv (i := 15) (d := 37) rfl rfl (by assumption) ?_
      simp only [Act.put, sq1, sq2, sq3]
      refine tkv (i := 16) (d := 38) rfl rfl (by assumption) ?_
      simp only [Act.put, sq1, sq2, sq3]
      refine tkq (i := 17) (d := 39) (v := (.bool false)) rfl rfl (Or.inl ⟨by kernel_rfl, fun w hSw => ?_⟩) (by assumption) ?_
      ·(try dsimp only at hSw); go_simp <;> (first | (rfl; done) | exact HG0.out | skip)
      simp only [Act.put, sq1, sq2, sq3]
      refine tkq (i := 18) (d := 40) (v := (.bool false)) rfl rfl (Or.inl ⟨by kernel_rfl, fun w hSw => ?_⟩) (by assumption) ?_
      ·(try dsimp only at hSw); go_simp <;> (first | (rfl; done) | exact HG0.out | skip)
      simp only [Act.put, sq1, sq2, sq3]
      refine wpAnyH_done (by kernel_rfl) ?_ _
      have HXe := Lib.hid (below_step HXv.out hHeld)
      clear hHeld
      go_wp2
      go_roundw
      case rel => exact ⟨i + 1, by omega, by go_num, HPn.out, HXe.out⟩
      case measure => simp [intOf]; omega
    ·obtain ⟨j, hj⟩ : ∃ j, i = j + 1 := ⟨i - 1, by omega⟩
     have hjk : j < k := by omega
     obtain ⟨gy, oy, y, B', m', c', hAy, hgy, hmemy, hdy, hrxy, hey, hmcy, hcmy⟩ := (HI.out.through HX.out).at hjk
     have hAo : some (⟨g, o, none⟩ : Addr) = some ⟨gy, oy, none⟩ := hAy
     simp only [Option.some.injEq, Addr.mk.injEq, and_true] at hAo
     obtain ⟨rfl, rfl⟩ := hAo
     have HRy := Lib.hid hrxy
     have hixj := fun W => Try.ix_pf W g o k c0 j hjk
     have hgt : decide ((0 : Int) < (i : Int)) = true := by simp; omega
     have HG0 : Hid (0 < i) := Lib.hid (by omega)
     have hw1 : IntKind.i64.wrap ((i : Int) - 1) = (j : Int) := by rw [IntWalk.i64_in _ (by omega)]; omega
     have hpi : prvO (fun p : Pf => p.sq) ps i = some y.sq := by rw [hj]; exact prvO_succ _ hgy
     obtain ⟨lt, hlt2⟩ : ∃ b, (decide (y.sq < x.sq)) = b := ⟨_, rfl⟩
     have HRi : Hid (∀ W : World, Below wr.heap.size wr W → Calls Try.prog 107 #[.agg #[.int .i64 y.sq, .int .i64 y.vw, .slice B' m' c'], .agg #[.int .i64 x.sq, .int .i64 x.vw, .slice B m c], .slice (some ⟨gf, 0, none⟩) 1 1] W fun e w' => e = .returned (.bool lt) ∧ Below W.heap.size W w') := Lib.hid (fun W hW => hlt2 ▸ risespf1_any y x B' m' c' B m c gf W (HF.out.through (below_step HX.out hW)))
     have hp2 : bb = (mk && lt && ppB ch.vw ch.lw N (prvO (fun p : Pf => p.sq) ps (i + 1)) (ps.drop (i + 1))) := by rw [hp, hpn, hpi, ppB, hmk]; simp only [hlt2]
     clear hp hpn hpi hmk hd hrx hg hmem hrxy hgy hmemy hdy hlt2 hAy hj h0
     cases mk with
     | false =>
      have HPn : Hid (bb = false) := Lib.hid (by simpa using hp2)
      clear hp2
      go_wp2_with (first
       | (refine wpList_load_mid rfl 55 (.tmp 20) rfl g (o + i * 3) rfl [.int .i64 x.sq, .int .i64 x.vw, .slice B m c] _ HRx.out Try.underlying55 rfl (by kernel_rfl) ?_)
       | (refine wpList_store_blk rfl 55 (.tmp 10) (.tmp 21) rfl wr.heap.size [.int .i64 x.sq, .int .i64 x.vw, .slice B m c] rfl rfl 55 [.int .i64 0, .int .i64 0, .slice none 0 0] (Blk.fresh rfl rfl) (by kernel_rfl) rfl (one3p_ _ _ _ _ _) ?_; simp only [Act.put]; intro wv hbv hgv; have HB := Lib.hid hbv; have HXv : Hid (Below w.heap.size w wv) := Lib.hid (below_step HX.out (below_new hgv)); have HNv := Lib.hid (below_new hgv); clear hbv hgv))
      try dsimp only [Act.put]
      refine wp_region_held_drew (S := fun W => Below wv.heap.size wv W) (by kernel_rfl) (Below.refl _ _).drew (fun hHeld => ?_)
      change wpAnyH _ _ _ _ _ _ #[false, false, false, false, false, false, false, false, false, false, false, false, false, false, false, false, false, false, false] _ _
      refine tkq (i := 0) (d := 22) (v := (.func (.func 80) #[] #[.pointer (some ⟨gc, 0, none⟩), .pointer (some ⟨gn, 0, none⟩)])) rfl rfl (Or.inl ⟨by kernel_rfl, fun w hSw => ?_⟩) (by assumption) ?_
      ·(try dsimp only at hSw); go_simp <;> (first | (rfl; done) | exact HG0.out | skip)
      simp only [Act.put, sq1, sq2, sq3]
      refine tkq (i := 1) (d := 23) (v := (.agg #[.int .i64 x.sq, .int .i64 x.vw, .slice B m c])) rfl rfl (yieldsIf_load_mid (by kernel_rfl) 55 (.tmp 10) rfl wr.heap.size 0 (by simp [Act.eval]) [.int .i64 x.sq, .int .i64 x.vw, .slice B m c] _ (fun W hW => (HB.out.through hW).whl_) Try.underlying55 rfl (by kernel_rfl)) (by assumption) ?_
      simp only [Act.put, sq1, sq2, sq3]
      refine wpAnyH_ready (rs := [2]) (by kernel_rfl) (by simp) ?_
      refine AllReadyH.cons rfl (fun K hK => ?_) AllReadyH.nil
      go_simp
      refine (HMy.out _ (below_step HNv.out hHeld)).mono ?_
      rintro e w5 ⟨rfl, hb5⟩; have HK5 := Lib.hid (below_step hHeld hb5); clear hb5
      go_wp2_with fail
      refine hK.out _ _ HK5.out (fun hHeld1 => ?_)
      clear hHeld hK K
      have hHeld := hHeld1
      clear hHeld1
      refine tkq (i := 3) (d := 25) (v := (.bool true)) rfl rfl (Or.inl ⟨by kernel_rfl, fun w hSw => ?_⟩) (by assumption) ?_
      ·(try dsimp only at hSw); go_simp <;> (first | (rfl; done) | exact HG0.out | skip)
      simp only [Act.put, sq1, sq2, sq3]
      refine tkq (i := 4) (d := 26) (v := (.bool true)) rfl rfl (Or.inl ⟨by kernel_rfl, fun w hSw => ?_⟩) (by assumption) ?_
      ·(try dsimp only at hSw); go_simp <;> (first | (rfl; done) | exact HG0.out | skip)
      simp only [Act.put, sq1, sq2, sq3]
      refine tkv (i := 5) (d := 27) rfl rfl (by assumption) ?_
      simp only [Act.put, sq1, sq2, sq3]
      refine tkv (i := 6) (d := 28) rfl rfl (by assumption) ?_
      simp only [Act.put, sq1, sq2, sq3]
      refine tkv (i := 7) (d := 29) rfl rfl (by assumption) ?_
      simp only [Act.put, sq1, sq2, sq3]
      refine tkv (i := 8) (d := 30) rfl rfl (by assumption) ?_
      simp only [Act.put, sq1, sq2, sq3]
      refine tkv (i := 9) (d := 31) rfl rfl (by assumption) ?_
      simp only [Act.put, sq1, sq2, sq3]
      refine tkv (i := 10) (d := 32) rfl rfl (by assumption) ?_
      simp only [Act.put, sq1, sq2, sq3]
      refine tkv (i := 11) (d := 33) rfl rfl (by assumption) ?_
      simp only [Act.put, sq1, sq2, sq3]
      refine tkv (i := 12) (d := 34) rfl rfl (by assumption) ?_
      simp only [Act.put, sq1, sq2, sq3]
      refine tkv (i := 13) (d := 35) rfl rfl (by assumption) ?_
      simp only [Act.put, sq1, sq2, sq3]
      refine tkv (i := 14) (d := 36) rfl rfl (by assumption) ?_
      simp only [Act.put, sq1, sq2, sq3]
      refine tkv (i := 15) (d := 37) rfl rfl (by assumption) ?_
      simp only [Act.put, sq1, sq2, sq3]
      refine tkv (i := 16) (d := 38) rfl rfl (by assumption) ?_
      simp only [Act.put, sq1, sq2, sq3]
      refine tkv (i := 17) (d := 39) rfl rfl (by assumption) ?_
      simp only [Act.put, sq1, sq2, sq3]
      refine tkq (i := 18) (d := 40) (v := (.bool true)) rfl rfl (Or.inl ⟨by kernel_rfl, fun w hSw => ?_⟩) (by assumption) ?_
      ·(try dsimp only at hSw); go_simp <;> (first | (rfl; done) | exact HG0.out | skip)
      simp only [Act.put, sq1, sq2, sq3]
      refine wpAnyH_done (by kernel_rfl) ?_ _
      have HXe := Lib.hid (below_step HXv.out hHeld)
      clear hHeld
      go_wp2
      go_ret
      exact ⟨ret_bo (by rw [HPn.out]), HXe.out⟩
     | true =>
     cases lt with
     | false =>
      have HPn : Hid (bb = false) := Lib.hid (by simpa using hp2)
      clear hp2
      go_wp2_with (first
       | (refine wpList_load_mid rfl 55 (.tmp 20) rfl g (o + i * 3) rfl [.int .i64 x.sq, .int .i64 x.vw, .slice B m c] _ HRx.out Try.underlying55 rfl (by kernel_rfl) ?_)
       | (refine wpList_store_blk rfl 55 (.tmp 10) (.tmp 21) rfl wr.heap.size [.int .i64 x.sq, .int .i64 x.vw, .slice B m c] rfl rfl 55 [.int .i64 0, .int .i64 0, .slice none 0 0] (Blk.fresh rfl rfl) (by kernel_rfl) rfl (one3p_ _ _ _ _ _) ?_; simp only [Act.put]; intro wv hbv hgv; have HB := Lib.hid hbv; have HXv : Hid (Below w.heap.size w wv) := Lib.hid (below_step HX.out (below_new hgv)); have HNv := Lib.hid (below_new hgv); clear hbv hgv))
      try dsimp only [Act.put]
      refine wp_region_held_drew (S := fun W => Below wv.heap.size wv W) (by kernel_rfl) (Below.refl _ _).drew (fun hHeld => ?_)
      change wpAnyH _ _ _ _ _ _ #[false, false, false, false, false, false, false, false, false, false, false, false, false, false, false, false, false, false, false] _ _
      refine tkq (i := 0) (d := 22) (v := (.func (.func 80) #[] #[.pointer (some ⟨gc, 0, none⟩), .pointer (some ⟨gn, 0, none⟩)])) rfl rfl (Or.inl ⟨by kernel_rfl, fun w hSw => ?_⟩) (by assumption) ?_
      ·(try dsimp only at hSw); go_simp <;> (first | (rfl; done) | exact HG0.out | skip)
      simp only [Act.put, sq1, sq2, sq3]
      refine tkq (i := 1) (d := 23) (v := (.agg #[.int .i64 x.sq, .int .i64 x.vw, .slice B m c])) rfl rfl (yieldsIf_load_mid (by kernel_rfl) 55 (.tmp 10) rfl wr.heap.size 0 (by simp [Act.eval]) [.int .i64 x.sq, .int .i64 x.vw, .slice B m c] _ (fun W hW => (HB.out.through hW).whl_) Try.underlying55 rfl (by kernel_rfl)) (by assumption) ?_
      simp only [Act.put, sq1, sq2, sq3]
      refine wpAnyH_ready (rs := [2]) (by kernel_rfl) (by simp) ?_
      refine AllReadyH.cons rfl (fun K hK => ?_) AllReadyH.nil
      go_simp
      refine (HMy.out _ (below_step HNv.out hHeld)).mono ?_
      rintro e w5 ⟨rfl, hb5⟩; have HK5 := Lib.hid (below_step hHeld hb5); clear hb5
      go_wp2_with fail
      refine hK.out _ _ HK5.out (fun hHeld1 => ?_)
      clear hHeld hK K
      have hHeld := hHeld1
      clear hHeld1
      refine tkq (i := 3) (d := 25) (v := (.bool false)) rfl rfl (Or.inl ⟨by kernel_rfl, fun w hSw => ?_⟩) (by assumption) ?_
      ·(try dsimp only at hSw); go_simp <;> (first | (rfl; done) | exact HG0.out | skip)
      simp only [Act.put, sq1, sq2, sq3]
      refine tkq (i := 4) (d := 26) (v := (.bool false)) rfl rfl (Or.inl ⟨by kernel_rfl, fun w hSw => ?_⟩) (by assumption) ?_
      ·(try dsimp only at hSw); go_simp <;> (first | (rfl; done) | exact HG0.out | skip)
      simp only [Act.put, sq1, sq2, sq3]
      refine tkq (i := 5) (d := 27) (v := (.int .i64 (i : Int))) rfl rfl (Or.inl ⟨by kernel_rfl, fun w hSw => ?_⟩) (by assumption) ?_
      ·(try dsimp only at hSw); go_simp <;> (first | (rfl; done) | exact HG0.out | skip)
      simp only [Act.put, sq1, sq2, sq3]
      refine tkq (i := 6) (d := 28) (v := (.bool true)) rfl rfl (Or.inl ⟨by kernel_rfl, fun w hSw => ?_⟩) (by assumption) ?_
      ·(try dsimp only at hSw); go_simp <;> (first | (rfl; done) | exact HG0.out | skip)
      simp only [Act.put, sq1, sq2, sq3]
      refine tkq (i := 7) (d := 29) (v := (.bool true)) rfl rfl (Or.inl ⟨by kernel_rfl, fun w hSw => ?_⟩) (by assumption) ?_
      ·(try dsimp only at hSw); go_simp <;> (first | (rfl; done) | exact HG0.out | skip)
      simp only [Act.put, sq1, sq2, sq3]
      refine tkq (i := 8) (d := 30) (v := (.slice (some ⟨g, o, none⟩) k c0)) rfl rfl (Or.inl ⟨by kernel_rfl, fun w hSw => ?_⟩) (by assumption) ?_
      ·(try dsimp only at hSw); go_simp <;> (first | (rfl; done) | exact HG0.out | skip)
      simp only [Act.put, sq1, sq2, sq3]
      refine tkq (i := 9) (d := 31) (v := (.int .i64 (i : Int))) rfl rfl (Or.inl ⟨by kernel_rfl, fun w hSw => ?_⟩) (by assumption) ?_
      ·(try dsimp only at hSw); go_simp <;> (first | (rfl; done) | exact HG0.out | skip)
      simp only [Act.put, sq1, sq2, sq3]
      refine tkq (i := 10) (d := 32) (v := (.int .i64 (j : Int))) rfl rfl (Or.inl ⟨by kernel_rfl, fun w hSw => ?_⟩) (by assumption) ?_
      ·(try dsimp only at hSw); go_simp <;> (first | (rfl; done) | exact HG0.out | skip)
      simp only [Act.put, sq1, sq2, sq3]
      refine tkq (i := 11) (d := 33) (v := (.pointer (some ⟨g, o + j * 3, none⟩))) rfl rfl (Or.inl ⟨by kernel_rfl, fun w hSw => ?_⟩) (by assumption) ?_
      ·(try dsimp only at hSw); go_simp <;> (first | (rfl; done) | exact HG0.out | skip)
      simp only [Act.put, sq1, sq2, sq3]
      refine tkq (i := 12) (d := 34) (v := (.agg #[.int .i64 y.sq, .int .i64 y.vw, .slice B' m' c'])) rfl rfl (yieldsIf_load_mid (by kernel_rfl) 55 (.tmp 33) rfl g (o + j * 3) (by simp [Act.eval]) [.int .i64 y.sq, .int .i64 y.vw, .slice B' m' c'] _ (fun W hW => rangeAt.through HRy.out (below_step HNv.out hW)) Try.underlying55 rfl (by kernel_rfl)) (by assumption) ?_
      simp only [Act.put, sq1, sq2, sq3]
      refine tkq (i := 13) (d := 35) (v := (.agg #[.int .i64 x.sq, .int .i64 x.vw, .slice B m c])) rfl rfl (yieldsIf_load_mid (by kernel_rfl) 55 (.tmp 10) rfl wr.heap.size 0 (by simp [Act.eval]) [.int .i64 x.sq, .int .i64 x.vw, .slice B m c] _ (fun W hW => (HB.out.through hW).whl_) Try.underlying55 rfl (by kernel_rfl)) (by assumption) ?_
      simp only [Act.put, sq1, sq2, sq3]
      refine tkq (i := 14) (d := 36) (v := (.slice (some ⟨gf, 0, none⟩) 1 1)) rfl rfl (Or.inl ⟨by kernel_rfl, fun w hSw => ?_⟩) (by assumption) ?_
      ·(try dsimp only at hSw); go_simp <;> (first | (rfl; done) | exact HG0.out | skip)
      simp only [Act.put, sq1, sq2, sq3]
      refine wpAnyH_ready (rs := [15]) (by kernel_rfl) (by simp) ?_
      refine AllReadyH.cons rfl (fun K hK => ?_) AllReadyH.nil
      go_simp
      refine (HRi.out _ (below_step HNv.out hHeld)).mono ?_
      rintro e w6 ⟨rfl, hb6⟩; have HK6 := Lib.hid (below_step hHeld hb6); clear hb6
      go_wp2_with fail
      refine hK.out _ _ HK6.out (fun hHeld1 => ?_)
      clear hHeld hK K
      have hHeld := hHeld1
      clear hHeld1
      refine tkq (i := 16) (d := 38) (v := (.bool true)) rfl rfl (Or.inl ⟨by kernel_rfl, fun w hSw => ?_⟩) (by assumption) ?_
      ·(try dsimp only at hSw); go_simp <;> (first | (rfl; done) | exact HG0.out | skip)
      simp only [Act.put, sq1, sq2, sq3]
      refine tkq (i := 17) (d := 39) (v := (.bool true)) rfl rfl (Or.inl ⟨by kernel_rfl, fun w hSw => ?_⟩) (by assumption) ?_
      ·(try dsimp only at hSw); go_simp <;> (first | (rfl; done) | exact HG0.out | skip)
      simp only [Act.put, sq1, sq2, sq3]
      refine tkq (i := 18) (d := 40) (v := (.bool true)) rfl rfl (Or.inl ⟨by kernel_rfl, fun w hSw => ?_⟩) (by assumption) ?_
      ·(try dsimp only at hSw); go_simp <;> (first | (rfl; done) | exact HG0.out | skip)
      simp only [Act.put, sq1, sq2, sq3]
      refine wpAnyH_done (by kernel_rfl) ?_ _
      have HXe := Lib.hid (below_step HXv.out hHeld)
      clear hHeld
      go_wp2
      go_ret
      exact ⟨ret_bo (by rw [HPn.out]), HXe.out⟩
     | true =>
      have HPn : Hid (bb = ppB ch.vw ch.lw N (prvO (fun p : Pf => p.sq) ps (i + 1)) (ps.drop (i + 1))) := Lib.hid (by simpa using hp2)
      clear hp2
      go_wp2_with (first
       | (refine wpList_load_mid rfl 55 (.tmp 20) rfl g (o + i * 3) rfl [.int .i64 x.sq, .int .i64 x.vw, .slice B m c] _ HRx.out Try.underlying55 rfl (by kernel_rfl) ?_)
       | (refine wpList_store_blk rfl 55 (.tmp 10) (.tmp 21) rfl wr.heap.size [.int .i64 x.sq, .int .i64 x.vw, .slice B m c] rfl rfl 55 [.int .i64 0, .int .i64 0, .slice none 0 0] (Blk.fresh rfl rfl) (by kernel_rfl) rfl (one3p_ _ _ _ _ _) ?_; simp only [Act.put]; intro wv hbv hgv; have HB := Lib.hid hbv; have HXv : Hid (Below w.heap.size w wv) := Lib.hid (below_step HX.out (below_new hgv)); have HNv := Lib.hid (below_new hgv); clear hbv hgv))
      try dsimp only [Act.put]
      refine wp_region_held_drew (S := fun W => Below wv.heap.size wv W) (by kernel_rfl) (Below.refl _ _).drew (fun hHeld => ?_)
      change wpAnyH _ _ _ _ _ _ #[false, false, false, false, false, false, false, false, false, false, false, false, false, false, false, false, false, false, false] _ _
      refine tkq (i := 0) (d := 22) (v := (.func (.func 80) #[] #[.pointer (some ⟨gc, 0, none⟩), .pointer (some ⟨gn, 0, none⟩)])) rfl rfl (Or.inl ⟨by kernel_rfl, fun w hSw => ?_⟩) (by assumption) ?_
      ·(try dsimp only at hSw); go_simp <;> (first | (rfl; done) | exact HG0.out | skip)
      simp only [Act.put, sq1, sq2, sq3]
      refine tkq (i := 1) (d := 23) (v := (.agg #[.int .i64 x.sq, .int .i64 x.vw, .slice B m c])) rfl rfl (yieldsIf_load_mid (by kernel_rfl) 55 (.tmp 10) rfl wr.heap.size 0 (by simp [Act.eval]) [.int .i64 x.sq, .int .i64 x.vw, .slice B m c] _ (fun W hW => (HB.out.through hW).whl_) Try.underlying55 rfl (by kernel_rfl)) (by assumption) ?_
      simp only [Act.put, sq1, sq2, sq3]
      refine wpAnyH_ready (rs := [2]) (by kernel_rfl) (by simp) ?_
      refine AllReadyH.cons rfl (fun K hK => ?_) AllReadyH.nil
      go_simp
      refine (HMy.out _ (below_step HNv.out hHeld)).mono ?_
      rintro e w5 ⟨rfl, hb5⟩; have HK5 := Lib.hid (below_step hHeld hb5); clear hb5
      go_wp2_with fail
      refine hK.out _ _ HK5.out (fun hHeld1 => ?_)
      clear hHeld hK K
      have hHeld := hHeld1
      clear hHeld1
      refine tkq (i := 3) (d := 25) (v := (.bool false)) rfl rfl (Or.inl ⟨by kernel_rfl, fun w hSw => ?_⟩) (by assumption) ?_
      ·(try dsimp only at hSw); go_simp <;> (first | (rfl; done) | exact HG0.out | skip)
      simp only [Act.put, sq1, sq2, sq3]
      refine tkq (i := 4) (d := 26) (v := (.bool false)) rfl rfl (Or.inl ⟨by kernel_rfl, fun w hSw => ?_⟩) (by assumption) ?_
      ·(try dsimp only at hSw); go_simp <;> (first | (rfl; done) | exact HG0.out | skip)
      simp only [Act.put, sq1, sq2, sq3]
      refine tkq (i := 5) (d := 27) (v := (.int .i64 (i : Int))) rfl rfl (Or.inl ⟨by kernel_rfl, fun w hSw => ?_⟩) (by assumption) ?_
      ·(try dsimp only at hSw); go_simp <;> (first | (rfl; done) | exact HG0.out | skip)
      simp only [Act.put, sq1, sq2, sq3]
      refine tkq (i := 6) (d := 28) (v := (.bool true)) rfl rfl (Or.inl ⟨by kernel_rfl, fun w hSw => ?_⟩) (by assumption) ?_
      ·(try dsimp only at hSw); go_simp <;> (first | (rfl; done) | exact HG0.out | skip)
      simp only [Act.put, sq1, sq2, sq3]
      refine tkq (i := 7) (d := 29) (v := (.bool true)) rfl rfl (Or.inl ⟨by kernel_rfl, fun w hSw => ?_⟩) (by assumption) ?_
      ·(try dsimp only at hSw); go_simp <;> (first | (rfl; done) | exact HG0.out | skip)
      simp only [Act.put, sq1, sq2, sq3]
      refine tkq (i := 8) (d := 30) (v := (.slice (some ⟨g, o, none⟩) k c0)) rfl rfl (Or.inl ⟨by kernel_rfl, fun w hSw => ?_⟩) (by assumption) ?_
      ·(try dsimp only at hSw); go_simp <;> (first | (rfl; done) | exact HG0.out | skip)
      simp only [Act.put, sq1, sq2, sq3]
      refine tkq (i := 9) (d := 31) (v := (.int .i64 (i : Int))) rfl rfl (Or.inl ⟨by kernel_rfl, fun w hSw => ?_⟩) (by assumption) ?_
      ·(try dsimp only at hSw); go_simp <;> (first | (rfl; done) | exact HG0.out | skip)
      simp only [Act.put, sq1, sq2, sq3]
      refine tkq (i := 10) (d := 32) (v := (.int .i64 (j : Int))) rfl rfl (Or.inl ⟨by kernel_rfl, fun w hSw => ?_⟩) (by assumption) ?_
      ·(try dsimp only at hSw); go_simp <;> (first | (rfl; done) | exact HG0.out | skip)
      simp only [Act.put, sq1, sq2, sq3]
      refine tkq (i := 11) (d := 33) (v := (.pointer (some ⟨g, o + j * 3, none⟩))) rfl rfl (Or.inl ⟨by kernel_rfl, fun w hSw => ?_⟩) (by assumption) ?_
      ·(try dsimp only at hSw); go_simp <;> (first | (rfl; done) | exact HG0.out | skip)
      simp only [Act.put, sq1, sq2, sq3]
      refine tkq (i := 12) (d := 34) (v := (.agg #[.int .i64 y.sq, .int .i64 y.vw, .slice B' m' c'])) rfl rfl (yieldsIf_load_mid (by kernel_rfl) 55 (.tmp 33) rfl g (o + j * 3) (by simp [Act.eval]) [.int .i64 y.sq, .int .i64 y.vw, .slice B' m' c'] _ (fun W hW => rangeAt.through HRy.out (below_step HNv.out hW)) Try.underlying55 rfl (by kernel_rfl)) (by assumption) ?_
      simp only [Act.put, sq1, sq2, sq3]
      refine tkq (i := 13) (d := 35) (v := (.agg #[.int .i64 x.sq, .int .i64 x.vw, .slice B m c])) rfl rfl (yieldsIf_load_mid (by kernel_rfl) 55 (.tmp 10) rfl wr.heap.size 0 (by simp [Act.eval]) [.int .i64 x.sq, .int .i64 x.vw, .slice B m c] _ (fun W hW => (HB.out.through hW).whl_) Try.underlying55 rfl (by kernel_rfl)) (by assumption) ?_
      simp only [Act.put, sq1, sq2, sq3]
      refine tkq (i := 14) (d := 36) (v := (.slice (some ⟨gf, 0, none⟩) 1 1)) rfl rfl (Or.inl ⟨by kernel_rfl, fun w hSw => ?_⟩) (by assumption) ?_
      ·(try dsimp only at hSw); go_simp <;> (first | (rfl; done) | exact HG0.out | skip)
      simp only [Act.put, sq1, sq2, sq3]
      refine wpAnyH_ready (rs := [15]) (by kernel_rfl) (by simp) ?_
      refine AllReadyH.cons rfl (fun K hK => ?_) AllReadyH.nil
      go_simp
      refine (HRi.out _ (below_step HNv.out hHeld)).mono ?_
      rintro e w6 ⟨rfl, hb6⟩; have HK6 := Lib.hid (below_step hHeld hb6); clear hb6
      go_wp2_with fail
      refine hK.out _ _ HK6.out (fun hHeld1 => ?_)
      clear hHeld hK K
      have hHeld := hHeld1
      clear hHeld1
      refine tkq (i := 16) (d := 38) (v := (.bool false)) rfl rfl (Or.inl ⟨by kernel_rfl, fun w hSw => ?_⟩) (by assumption) ?_
      ·(try dsimp only at hSw); go_simp <;> (first | (rfl; done) | exact HG0.out | skip)
      simp only [Act.put, sq1, sq2, sq3]
      refine tkq (i := 17) (d := 39) (v := (.bool false)) rfl rfl (Or.inl ⟨by kernel_rfl, fun w hSw => ?_⟩) (by assumption) ?_
      ·(try dsimp only at hSw); go_simp <;> (first | (rfl; done) | exact HG0.out | skip)
      simp only [Act.put, sq1, sq2, sq3]
      refine tkq (i := 18) (d := 40) (v := (.bool false)) rfl rfl (Or.inl ⟨by kernel_rfl, fun w hSw => ?_⟩) (by assumption) ?_
      ·(try dsimp only at hSw); go_simp <;> (first | (rfl; done) | exact HG0.out | skip)
      simp only [Act.put, sq1, sq2, sq3]
      refine wpAnyH_done (by kernel_rfl) ?_ _
      have HXe := Lib.hid (below_step HXv.out hHeld)
      clear hHeld
      go_wp2
      go_roundw
      case rel => exact ⟨i + 1, by omega, by go_num, HPn.out, HXe.out⟩
      case measure => simp [intOf]; omega
   ·have e9 : ps.drop i = [] := List.drop_of_length_le (by have := HLn.out; omega)
    have HE : Hid (bb = true) := Lib.hid (by rw [hp, e9]; rfl)
    clear e9 hp
    go_wp2
    go_ret
    exact ⟨ret_bo (by rw [HE.out]), HX.out⟩
 ·have hd0 : decide ((most : Int) < (k : Int)) = true := by simp; omega
  have hd9 : decide (most < k) = true := by simp; omega
  rw [decide_eq_false hkm, Bool.false_and]
  clear h hf hm hk hc hN hlw hl
  go_enter Try.func86, Try.ntmps86
  go_wp2
  go_ret
  exact ⟨rfl, Below.refl _ _⟩

end Go.Proofs.Ytheecifgbkdecaa
