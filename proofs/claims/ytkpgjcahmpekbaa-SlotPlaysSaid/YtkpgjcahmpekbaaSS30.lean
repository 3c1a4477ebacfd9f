/-
  Joined: SlE.
-/
import Derived.Deep.RegionHeld
import Derived.Deep.CutBlock
import Derived.Test.YtkpgjcahmpekbaaSS23
import Derived.Test.YtkpgjcahmpekbaaSS18
import Derived.Test.YtkpgjcahmpekbaaSST
namespace Go.Proofs.Ytkpgjcahmpekbaa
open Go.RowKit

set_option maxHeartbeats 16000000 in
set_option maxRecDepth 100000 in
theorem rcommitted_any_ (s : Slt) (R : Nat) (bv pv : Value) (l : Wl) (A : Option Addr) (k c : Nat) (w : World) (hl : s.cm = l) (hR : Blk w R 80 (slC s bv pv (.slice A k c))) (h : WdIn w A k l) (hk : k ≤ 100000) (hs : s.dg.length = 32) (hn : s.n ≤ 300) :
  Calls Try.prog 50 #[.pointer (some ⟨R, 0, none⟩)] w fun e w' => e = .returned (.bool (commB s)) ∧ Below w.heap.size w w' := by
 have HI := Lib.hid h
 have HR := Lib.hid hR
 have HLn := Lib.hid h.len
 have HN := Lib.hid hn
 have HSd := Lib.hid hs
 have HVs : Hid ((vs s.dg).length = 32) := Lib.hid (by simpa [vs] using hs)
 obtain ⟨q, hq⟩ : ∃ q, cntW l s.dg = q := ⟨_, rfl⟩
 have HQ0 : Hid (0 + cntW (l.drop 0) s.dg = q) := Lib.hid (by rw [List.drop_zero, hq, Nat.zero_add])
 have HRes : Hid (commB s = (s.has && decide (2 * fltN s.n < ((q : Nat) : Int)))) := Lib.hid (by unfold commB; rw [hl, hq])
 have c35 := hR.cellAt (i := 36) (slC_c _ _ _ _ hs)
 clear h hR hn hq hl
 go_enter Try.func50, Try.ntmps50
 go_wp2
 clear c35
 go_loopw [3, 11] (fun nv iv wr => ∃ i m : Nat, i ≤ k ∧ iv = .int .i64 (i : Int) ∧ nv = .int .i64 (m : Int) ∧ m + cntW (l.drop i) s.dg = q ∧ m ≤ i ∧ Below w.heap.size w wr) (fun _ iv _ => k - (intOf iv).toNat)
 case atStart => exact ⟨0, 0, Nat.zero_le _, rfl, rfl, HQ0.out, Nat.le_refl _, Below.refl _ w⟩
 case round =>
  obtain ⟨i, m, hi, rfl, rfl, hp, hmi, hx⟩ := hrel
  have HX := Lib.hid hx
  clear hx
  by_cases hlt : i < k
  ·obtain ⟨g, o, x, rfl, _, hmem, hdr, hxl, hrx⟩ := (HI.out.through HX.out).at hlt
   have HRx := Lib.hid hrx
   have HXl : Hid ((wdC x).length = 33) := Lib.hid (wdC_len x hxl)
   have HVl : Hid ((vs x.2).length = 32) := Lib.hid (by simpa [vs] using hxl)
   have hix := Try.ix_wd wr g o k c i hlt
   have hxeq := fun (W : World) => eq_dgy x.2 s.dg hxl HSd.out W
   rw [hdr, cntW_cons] at hp
   cases he : x.2 == s.dg with
   | true =>
    rw [he] at hp hxeq
    have HQ : Hid (m + 1 + cntW (l.drop (i + 1)) s.dg = q) := Lib.hid (by simp at hp; omega)
    clear hp hdr hrx hxl hmem
    go_upto_region 5 with (first | (refine wpList_load_mid rfl 138 (.tmp 13) rfl g (o + i * 33) rfl (wdC x) _ HRx.out Try.underlying138 rfl (by rw [HXl.out]; kernel_rfl) ?_) | (refine wpList_store_blk rfl 138 (.tmp 5) (.tmp 14) rfl wr.heap.size (wdC x) rfl rfl 138 (wdC (0, dgZ)) (Blk.fresh rfl rfl) (by rw [HXl.out]; kernel_rfl) (by rw [HXl.out]; rfl) (wdC_one x) ?_; simp only [Act.put]; intro wv hbv hgv; have HBx := Lib.hid hbv; have HXv : Hid (Below w.heap.size w wv) := Lib.hid (below_step HX.out (below_new hgv)); have k0 := HBx.out.cellAt (i := 0) rfl; have HRv : Hid (wv.rangeAt wr.heap.size 1 (vs x.2)) := Lib.hid (Blk.range (pre := [.int .i64 x.1]) (post := []) (by simpa [wdC] using HBx.out)); clear hbv hgv))
    refine wp_region_held_drew (S := fun W => Below wv.heap.size wv W) (by kernel_rfl) (Below.refl _ wv).drew (fun hHeld => ?_)
    change wpAnyH _ _ _ _ _ _ #[false, false, false, false, false, false, false] _ _
    refine tkq (i := 0) (d := 15) (v := (.pointer (some ⟨wr.heap.size, 1, none⟩))) rfl rfl (Or.inl ⟨by kernel_rfl, fun w hSw => ?_⟩) (by assumption) ?_
    ·(try dsimp only at hSw); go_simp <;> (try rfl)
    simp only [Act.put, sq1, sq2, sq3]
    refine tkq (i := 1) (d := 16) (v := (.agg (vs x.2).toArray)) rfl rfl (yieldsIf_load_mid (by kernel_rfl) 27 (.tmp 15) rfl wr.heap.size 1 (by simp [Act.eval]) (vs x.2) _ (fun W hW => rangeAt.through HRv.out hW) Try.underlying27 rfl (by rw [HVl.out]; kernel_rfl)) (by assumption) ?_
    simp only [Act.put, sq1, sq2, sq3]
    refine tkq (i := 2) (d := 17) (v := (.pointer (some ⟨R, 0, none⟩))) rfl rfl (Or.inl ⟨by kernel_rfl, fun w hSw => ?_⟩) (by assumption) ?_
    ·(try dsimp only at hSw); go_simp <;> (try rfl)
    simp only [Act.put, sq1, sq2, sq3]
    refine tkq (i := 3) (d := 18) (v := (.pointer (some ⟨R, 0, none⟩))) rfl rfl (Or.inl ⟨by kernel_rfl, fun w hSw => ?_⟩) (by assumption) ?_
    ·(try dsimp only at hSw); go_simp <;> (try rfl)
    simp only [Act.put, sq1, sq2, sq3]
    refine tkq (i := 4) (d := 19) (v := (.pointer (some ⟨R, 2, none⟩))) rfl rfl (Or.inl ⟨by kernel_rfl, fun w hSw => ?_⟩) (by assumption) ?_
    ·(try dsimp only at hSw); go_simp <;> (try rfl)
    simp only [Act.put, sq1, sq2, sq3]
    refine tkq (i := 5) (d := 20) (v := (.agg (vs s.dg).toArray)) rfl rfl (yieldsIf_load_mid (by kernel_rfl) 27 (.tmp 19) rfl R 2 (by simp [Act.eval]) (vs s.dg) _ (fun W hW => rangeAt.through (slC_dg _ _ _ _ _ _ (HR.out.through HXv.out)) hW) Try.underlying27 rfl (by rw [HVs.out]; kernel_rfl)) (by assumption) ?_
    simp only [Act.put, sq1, sq2, sq3]
    refine tkq (i := 6) (d := 21) (v := (.bool true)) rfl rfl (Or.inl ⟨by kernel_rfl, fun w hSw => ?_⟩) (by assumption) ?_
    ·(try dsimp only at hSw); go_simp <;> (try rfl)
    simp only [Act.put, sq1, sq2, sq3]
    refine wpAnyH_done (by kernel_rfl) ?_ _
    go_wp2
    go_roundw
    case rel => exact ⟨i + 1, m + 1, by omega, by go_num, by go_num, by have := HQ.out; omega, by omega, HXv.out.drew⟩
    case measure => simp [intOf]; omega
   | false =>
    rw [he] at hp hxeq
    have HQ : Hid (m + cntW (l.drop (i + 1)) s.dg = q) := Lib.hid (by simpa using hp)
    clear hp hdr hrx hxl hmem
    go_upto_region 5 with (first | (refine wpList_load_mid rfl 138 (.tmp 13) rfl g (o + i * 33) rfl (wdC x) _ HRx.out Try.underlying138 rfl (by rw [HXl.out]; kernel_rfl) ?_) | (refine wpList_store_blk rfl 138 (.tmp 5) (.tmp 14) rfl wr.heap.size (wdC x) rfl rfl 138 (wdC (0, dgZ)) (Blk.fresh rfl rfl) (by rw [HXl.out]; kernel_rfl) (by rw [HXl.out]; rfl) (wdC_one x) ?_; simp only [Act.put]; intro wv hbv hgv; have HBx := Lib.hid hbv; have HXv : Hid (Below w.heap.size w wv) := Lib.hid (below_step HX.out (below_new hgv)); have k0 := HBx.out.cellAt (i := 0) rfl; have HRv : Hid (wv.rangeAt wr.heap.size 1 (vs x.2)) := Lib.hid (Blk.range (pre := [.int .i64 x.1]) (post := []) (by simpa [wdC] using HBx.out)); clear hbv hgv))
    refine wp_region_held_drew (S := fun W => Below wv.heap.size wv W) (by kernel_rfl) (Below.refl _ wv).drew (fun hHeld => ?_)
    change wpAnyH _ _ _ _ _ _ #[false, false, false, false, false, false, false] _ _
    refine tkq (i := 0) (d := 15) (v := (.pointer (some ⟨wr.heap.size, 1, none⟩))) rfl rfl (Or.inl ⟨by kernel_rfl, fun w hSw => ?_⟩) (by assumption) ?_
    ·(try dsimp only at hSw); go_simp <;> (try rfl)
    simp only [Act.put, sq1, sq2, sq3]
    refine tkq (i := 1) (d := 16) (v := (.agg (vs x.2).toArray)) rfl rfl (yieldsIf_load_mid (by kernel_rfl) 27 (.tmp 15) rfl wr.heap.size 1 (by simp [Act.eval]) (vs x.2) _ (fun W hW => rangeAt.through HRv.out hW) Try.underlying27 rfl (by rw [HVl.out]; kernel_rfl)) (by assumption) ?_
    simp only [Act.put, sq1, sq2, sq3]
    refine tkq (i := 2) (d := 17) (v := (.pointer (some ⟨R, 0, none⟩))) rfl rfl (Or.inl ⟨by kernel_rfl, fun w hSw => ?_⟩) (by assumption) ?_
    ·(try dsimp only at hSw); go_simp <;> (try rfl)
    simp only [Act.put, sq1, sq2, sq3]
    refine tkq (i := 3) (d := 18) (v := (.pointer (some ⟨R, 0, none⟩))) rfl rfl (Or.inl ⟨by kernel_rfl, fun w hSw => ?_⟩) (by assumption) ?_
    ·(try dsimp only at hSw); go_simp <;> (try rfl)
    simp only [Act.put, sq1, sq2, sq3]
    refine tkq (i := 4) (d := 19) (v := (.pointer (some ⟨R, 2, none⟩))) rfl rfl (Or.inl ⟨by kernel_rfl, fun w hSw => ?_⟩) (by assumption) ?_
    ·(try dsimp only at hSw); go_simp <;> (try rfl)
    simp only [Act.put, sq1, sq2, sq3]
    refine tkq (i := 5) (d := 20) (v := (.agg (vs s.dg).toArray)) rfl rfl (yieldsIf_load_mid (by kernel_rfl) 27 (.tmp 19) rfl R 2 (by simp [Act.eval]) (vs s.dg) _ (fun W hW => rangeAt.through (slC_dg _ _ _ _ _ _ (HR.out.through HXv.out)) hW) Try.underlying27 rfl (by rw [HVs.out]; kernel_rfl)) (by assumption) ?_
    simp only [Act.put, sq1, sq2, sq3]
    refine tkq (i := 6) (d := 21) (v := (.bool false)) rfl rfl (Or.inl ⟨by kernel_rfl, fun w hSw => ?_⟩) (by assumption) ?_
    ·(try dsimp only at hSw); go_simp <;> (try rfl)
    simp only [Act.put, sq1, sq2, sq3]
    refine wpAnyH_done (by kernel_rfl) ?_ _
    go_wp2
    go_roundw
    case rel => exact ⟨i + 1, m, by omega, by go_num, by go_num, by have := HQ.out; omega, by omega, HXv.out.drew⟩
    case measure => simp [intOf]; omega
  ·have e9 : l.drop i = [] := List.drop_of_length_le (by have := HLn.out; omega)
   rw [e9] at hp
   have e8 : m = q := by simpa [cntW] using hp
   subst e8
   have HR8 := Lib.hid (HR.out.through HX.out)
   have kn := HR8.out.cellAt (i := 0) rfl
   have kh := HR8.out.cellAt (i := 1) rfl
   obtain ⟨hf0, hf1⟩ := fltN_bd s.n HN.out
   clear hp e9
   cases hh : s.has with
   | false =>
    rw [hh] at kh
    go_wp2
    go_ret
    exact ⟨by rw [HRes.out, hh]; rfl, HX.out⟩
   | true =>
    rw [hh] at kh
    by_cases hc : 2 * fltN s.n < ((m : Nat) : Int)
    ·go_wp2_with (first
      | (go_at_call 78; (with_reducible refine (rfaults_any _ HN.out _).mono ?_); rintro e w9 ⟨rfl, rfl⟩))
     go_ret
     exact ⟨by rw [HRes.out, hh]; first | rfl | (rw [decide_eq_true hc]; rfl) | (rw [decide_eq_false hc]; rfl) | simp, HX.out⟩
    ·go_wp2_with (first
      | (go_at_call 78; (with_reducible refine (rfaults_any _ HN.out _).mono ?_); rintro e w9 ⟨rfl, rfl⟩))
     go_ret
     exact ⟨by rw [HRes.out, hh]; first | rfl | (rw [decide_eq_true hc]; rfl) | (rw [decide_eq_false hc]; rfl) | simp, HX.out⟩

end Go.Proofs.Ytkpgjcahmpekbaa
