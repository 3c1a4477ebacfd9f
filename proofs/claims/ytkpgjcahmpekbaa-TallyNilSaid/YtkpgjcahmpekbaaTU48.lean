/-
  Joined: TpR.
-/
import Derived.Deep.RegionHeld
import Derived.Test.YtkpgjcahmpekbaaTU44
import Derived.Test.YtkpgjcahmpekbaaTU47
namespace Go.Proofs.Ytkpgjcahmpekbaa
open Go.RowKit

set_option maxHeartbeats 16000000 in
set_option maxRecDepth 100000 in
theorem nil20_any (xs : List UInt8) (p : Int) (A0 : Option Addr) (m c0 : Nat) (w : World) (h : By w (fun _ => True) A0 m xs) :
  Calls Try.prog 4 #[.slice A0 m c0, .int .i64 p] w fun e w' => e = .returned (.bool true) ∧ Below w.heap.size w w' := by
 by_cases g1 : 100 < m
 ·go_enter Try.func4, Try.ntmps4
  go_wp2_with (first
   | (go_at_call 7; (with_reducible refine (fixed20_of _).mono ?_); rintro e w1 ⟨rfl, hb1⟩; have HX1 := Lib.hid hb1; clear hb1))
  go_ret
  exact ⟨rfl, HX1.out⟩
 have HM : Hid (m ≤ 100) := Lib.hid (by omega)
 have hz : ∀ W, (zeroValue 57).run Try.prog W = .ok (.agg (prC (0, 0)).toArray) W := fun W => Try.zero_p W
 have HZl : Hid ((prC (0, 0)).length = 2) := Lib.hid rfl
 have HI := Lib.hid h
 clear h
 go_enter Try.func4, Try.ntmps4
 go_wp2_with (first
  | (go_at_call 7; (with_reducible refine (fixed20_of _).mono ?_); rintro e w1 ⟨rfl, hb1⟩; have HX1 := Lib.hid hb1; clear hb1)
  | (go_at_call 21; (with_reducible refine (change_nil w1).mono ?_); rintro e w9 ⟨rfl, hw9⟩; have hw8 := hw9.symm; clear hw9; subst hw8)
  | (go_at_call 22; (with_reducible refine (least_nil p w1).mono ?_); rintro e w2 ⟨rfl, hb9⟩; have HX2 := Lib.hid (below_step HX1.out hb9); clear hb9)
  | (go_at_call 23; (with_reducible refine (of_nil w2).mono ?_); rintro e w3 ⟨rfl, hb9⟩; have HX3 := Lib.hid (below_step HX2.out hb9); clear hb9)
  | (go_at_call 24; (with_reducible refine (add_nil w3).mono ?_); rintro e w4 ⟨rfl, hb9⟩; have HX4 := Lib.hid (below_step HX3.out hb9); clear hb9)
  | (go_at_call 25; (with_reducible refine (len_nil w4).mono ?_); rintro e w9 ⟨rfl, hw9⟩; have hw8 := hw9.symm; clear hw9; subst hw8)
  | (go_at_call 26; (with_reducible refine (count_nil w4).mono ?_); rintro e w9 ⟨rfl, hw9⟩; have hw8 := hw9.symm; clear hw9; subst hw8)
  | (go_at_call 27; (with_reducible refine (who_nil w4).mono ?_); rintro e w9 ⟨rfl, hw9⟩; have hw8 := hw9.symm; clear hw9; subst hw8)
  | (go_at_call 28; (with_reducible refine (new_B w4).mono ?_); rintro e w5 ⟨g, gv, gc, rfl, ht9, hb9, hd9⟩; have HA5 := Lib.hid ht9; have HB5 := Lib.hid hb9; have HD5 := Lib.hid hd9; clear ht9 hb9 hd9)
  | (go_at_call 29; (with_reducible refine (new_P w5).mono ?_); rintro e w6 ⟨h, hv, hc, rfl, ht9, hb9, hd9⟩; have HJ0 := Lib.hid (JN.first HX4.out HA5.out HB5.out HD5.out ht9 hb9 hd9); clear ht9 hb9 hd9))
 go_loopw [62] (fun iv wr => ∃ (i : Nat) (M : Mb), i ≤ m ∧ iv = .int .i64 (i : Int) ∧ JN w wr g gv gc h hv hc M (pm M) ∧ M.length ≤ i ∧ ∀ p ∈ M, In64 p.1) (fun iv _ => m - (intOf iv).toNat)
 case atStart => exact ⟨0, [], Nat.zero_le _, rfl, HJ0.out, Nat.le_refl _, fun _ h => nomatch h⟩
 case round =>
  obtain ⟨i, M, hi, rfl, hj, hml, hin⟩ := hrel
  have HJ := Lib.hid hj
  have HX := Lib.hid hj.be
  have HMi := Lib.hid hml
  have HIn := Lib.hid hin
  have HMl : Hid (M.length ≤ 100000) := Lib.hid (by have := HM.out; omega)
  have HKl : Hid ((pm M).length ≤ 100000) := Lib.hid (by rw [pm_len]; exact HMl.out)
  have HM9 : Hid (M.length ≤ 1000) := Lib.hid (by have := HM.out; omega)
  clear hj hml hin
  by_cases hlt : i < m
  ·have hjn : i < xs.length := by have := HI.out.1; omega
   obtain ⟨g0, o0, rfl, hcl⟩ := (HI.out.through HX.out).cell i hjn
   generalize xs[i] = x at hcl
   have hcl' : (World.cell? wr ⟨g0, o0 + i, none⟩) = some (.int .u8 (x.toNat : Int)) := hcl
   clear hcl hjn
   have hix := fun (W : World) => Try.ix_u8 W g0 o0 m c0 i hlt
   have hi1 : i ≤ 100 := by have := HM.out; omega
   obtain ⟨v, hv1⟩ : ∃ v : UInt8, v.toNat = x.toNat % 3 := ⟨UInt8.ofNat (x.toNat % 3), by rw [UInt8.toNat_ofNat']; omega⟩
   obtain ⟨wh, hwh⟩ : ∃ wh : Int, ((i % 5 : Nat) : Int) = wh := ⟨_, rfl⟩
   have HWh : Hid (In64 wh) := Lib.hid (by unfold In64; omega)
   have hm5 : ((i : Nat) : Int).tmod 5 = wh := (tmod_nat i 5).trans hwh
   have hm3 : ((x.toNat : Nat) : Int).tmod 3 = (v.toNat : Int) := (tmod_nat x.toNat 3).trans (by rw [hv1])
   obtain ⟨bq, hbq⟩ : ∃ bq, addB wh v M = bq := ⟨_, rfl⟩
   have HAb := Lib.hid hbq
   clear hbq hwh hv1
   cases bq with
   | true =>
    go_wp2_with (first
     | (go_at_call 30; (with_reducible refine (add_B wh v HJ.out.a HMl.out).mono ?_); rintro e w7 ⟨rfl, ht9, hf9⟩; rw [HAb.out]; have HJ7 := Lib.hid (HJ.out.ona ht9 hf9); clear ht9 hf9)
     | (refine wpList_build_to rfl 57 _ rfl [(0, .int .u8 (v.toNat : Int)), (1, .int .u8 9)] rfl (.agg (prC (v, 9)).toArray) (Try.bld_pr v _) ?_)
     | (go_at_call 31; (with_reducible refine (add_P wh (v, 9) HJ7.out.b trivial HKl.out).mono ?_); rintro e w8 ⟨rfl, ht9, hf9⟩; rw [pm_addB, HAb.out]; rw [pm_add] at ht9; have HJ8 := Lib.hid (HJ7.out.onb ht9 hf9); clear ht9 hf9))
    go_roundw
    case rel => exact ⟨i + 1, addM wh v M, by omega, by go_num, HJ8.out, Nat.le_trans add_len (by have := HMi.out; omega), add_in HIn.out HWh.out⟩
    case measure => simp [intOf]; omega
   | false =>
    go_wp2_with (first
     | (go_at_call 30; (with_reducible refine (add_B wh v HJ.out.a HMl.out).mono ?_); rintro e w7 ⟨rfl, ht9, hf9⟩; rw [HAb.out]; have HJ7 := Lib.hid (HJ.out.ona ht9 hf9); clear ht9 hf9)
     | (refine wpList_build_to rfl 57 _ rfl [(0, .int .u8 (v.toNat : Int)), (1, .int .u8 9)] rfl (.agg (prC (v, 9)).toArray) (Try.bld_pr v _) ?_)
     | (go_at_call 31; (with_reducible refine (add_P wh (v, 9) HJ7.out.b trivial HKl.out).mono ?_); rintro e w8 ⟨rfl, ht9, hf9⟩; rw [pm_addB, HAb.out]; rw [pm_add] at ht9; have HJ8 := Lib.hid (HJ7.out.onb ht9 hf9); clear ht9 hf9))
    go_roundw
    case rel => exact ⟨i + 1, addM wh v M, by omega, by go_num, HJ8.out, Nat.le_trans add_len (by have := HMi.out; omega), add_in HIn.out HWh.out⟩
    case measure => simp [intOf]; omega
  ·have hlp0 := pm_least M p
   cases hl : leastT M 0 p with
   | none =>
    rw [hl] at hlp0
    obtain ⟨cs, hcs⟩ : ∃ cs, cs = prC (0, 0) := ⟨_, rfl⟩
    have HCl : Hid (cs.length = 2) := Lib.hid (by rw [hcs]; rfl)
    have HC1 : Hid (cs.toArray.all (·.oneCell') = true) := Lib.hid (by rw [hcs]; exact P_one _)
    have HCe : Hid (encP (0, 0) = .agg cs.toArray) := Lib.hid (by rw [hcs])
    have HLb := Lib.hid hl
    have HLp : Hid (leastT (pm M) (0, 0) p = none) := Lib.hid hlp0
    clear hl hlp0 hcs
    go_wp2_with (first
     | (go_at_call 32; (with_reducible refine (least_B p HJ.out.a HIn.out HMl.out).mono ?_); rintro e w7 ⟨rfl, hb9⟩; rw [HLb.out]; simp only [Option.getD_none, Option.isSome_none]; have HJ7 := Lib.hid (HJ.out.through hb9); clear hb9)
     | (go_at_call 33; (with_reducible refine (least_P p HJ7.out.b (pm_in HIn.out) HKl.out).mono ?_); rintro e w8 ⟨rfl, hb9⟩; rw [HLp.out]; simp only [Option.getD_none, Option.isSome_none]; rw [HCe.out]; have HJ8 := Lib.hid (HJ7.out.through hb9); clear hb9)
     | (refine wpList_store_blk rfl 57 (.tmp 18) (.tmp 92) rfl w8.heap.size cs rfl rfl 57 (prC (0, 0)) (Blk.fresh rfl rfl) (by rw [HCl.out]; kernel_rfl) (HZl.out.trans HCl.out.symm) HC1.out ?_; simp only [Act.put]; intro wa hb9 hg9; have HBa := Lib.hid hb9; have HJa := Lib.hid (HJ8.out.through (below_new hg9)); clear hb9 hg9)
     | (go_at_call 34; (with_reducible refine (len_B HJa.out.a).mono ?_); rintro e w9 ⟨rfl, hw9⟩; have hw8 := hw9.symm; clear hw9; subst hw8)
     | (go_at_call 35; (with_reducible refine (len_P HJa.out.b).mono ?_); rintro e w9 ⟨rfl, hw9⟩; have hw8 := hw9.symm; clear hw9; subst hw8; rw [pm_len]))
    go_ret
    exact ⟨by simp, HJa.out.be⟩
   | some k =>
    rw [hl] at hlp0
    obtain ⟨cs, hcs⟩ : ∃ cs, cs = prC (k, 9) := ⟨_, rfl⟩
    have HCl : Hid (cs.length = 2) := Lib.hid (by rw [hcs]; rfl)
    have HC1 : Hid (cs.toArray.all (·.oneCell') = true) := Lib.hid (by rw [hcs]; exact P_one _)
    have HCe : Hid (encP (k, 9) = .agg cs.toArray) := Lib.hid (by rw [hcs])
    have HBl : Hid (∀ W, (Instr.build 57 #[(0, .int .u8 (k.toNat : Int)), (1, .int .u8 9)]).run Try.prog W = .ok (.agg cs.toArray) W) := Lib.hid (fun W => by rw [hcs]; exact Try.bld_pr k W)
    have hpe : ∀ W, (Op.equalIn 10000 57 (.agg cs.toArray) (.agg cs.toArray)).run Try.prog W = .ok true W := fun W => by
     have h9 := eq_p_plain (k, 9) (k, 9) W
     rw [decide_eq_true rfl] at h9
     rw [hcs]
     exact h9
    have HLb := Lib.hid hl
    have HLp : Hid (leastT (pm M) (0, 0) p = some (k, 9)) := Lib.hid hlp0
    clear hl hlp0 hcs
    go_wp2_with (first
     | (go_at_call 32; (with_reducible refine (least_B p HJ.out.a HIn.out HMl.out).mono ?_); rintro e w7 ⟨rfl, hb9⟩; rw [HLb.out]; simp only [Option.getD_some, Option.isSome_some]; have HJ7 := Lib.hid (HJ.out.through hb9); clear hb9)
     | (go_at_call 33; (with_reducible refine (least_P p HJ7.out.b (pm_in HIn.out) HKl.out).mono ?_); rintro e w8 ⟨rfl, hb9⟩; rw [HLp.out]; simp only [Option.getD_some, Option.isSome_some]; rw [HCe.out]; have HJ8 := Lib.hid (HJ7.out.through hb9); clear hb9)
     | (refine wpList_store_blk rfl 57 (.tmp 18) (.tmp 92) rfl w8.heap.size cs rfl rfl 57 (prC (0, 0)) (Blk.fresh rfl rfl) (by rw [HCl.out]; kernel_rfl) (HZl.out.trans HCl.out.symm) HC1.out ?_; simp only [Act.put]; intro wa hb9 hg9; have HBa := Lib.hid hb9; have HJa := Lib.hid (HJ8.out.through (below_new hg9)); clear hb9 hg9)
     | (refine wpList_load_blk_g 57 (.tmp 18) rfl (by kernel_rfl) w8.heap.size rfl 57 cs _ HBa.out Try.underlying57 rfl (by rw [HCl.out]; kernel_rfl) ?_)
     | (refine wpList_build_to_g 57 _ rfl (by kernel_rfl) [(0, .int .u8 (k.toNat : Int)), (1, .int .u8 9)] rfl (.agg cs.toArray) (HBl.out _) ?_)
     | (go_at_call 34; (with_reducible refine (len_B HJa.out.a).mono ?_); rintro e w9 ⟨rfl, hw9⟩; have hw8 := hw9.symm; clear hw9; subst hw8)
     | (go_at_call 35; (with_reducible refine (len_P HJa.out.b).mono ?_); rintro e w9 ⟨rfl, hw9⟩; have hw8 := hw9.symm; clear hw9; subst hw8; rw [pm_len]))
    go_ret
    exact ⟨by simp, HJa.out.be⟩

end Go.Proofs.Ytkpgjcahmpekbaa
