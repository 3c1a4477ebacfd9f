/-
  Joined: TpL.
-/
import Derived.Deep.CutBlock
import Derived.Deep.CutRange
import Derived.Test.YtkpgjcahmpekbaaTT46
import Derived.Test.YtkpgjcahmpekbaaTTT
namespace Go.Proofs.Ytkpgjcahmpekbaa
open Go.RowKit

theorem JT.on {w0 W : World} {g gv gc : Nat} {M : List (Int × Vo)} {R : Tl} {A : Option Addr} {n c : Nat} (h : JT w0 W g gv gc M (.slice A n c) R) : OnIn W A n R := by
 obtain ⟨A', c', e, _, _, h1⟩ := h.ow.out
 injection e with e1 e2 e3
 subst e1 e2 e3
 exact h1
set_option maxHeartbeats 16000000 in
set_option maxRecDepth 100000 in
theorem plays20_any (l : List Ac) (p : Int) (A0 : Option Addr) (m c0 : Nat) (w : World) (h : AcsIn w A0 m l) :
  Calls Try.prog 3 #[.slice A0 m c0, .int .i64 p] w fun e w' => e = .returned (.bool true) ∧ Below w.heap.size w w' := by
 by_cases g1 : 100 < m
 ·go_enter Try.func3, Try.ntmps3
  go_wp2_with (first
   | (go_at_call 7; (with_reducible refine (fixed20_of _).mono ?_); rintro e w1 ⟨rfl, hb1⟩; have HB1 := Lib.hid hb1; clear hb1))
  go_ret
  exact ⟨rfl, HB1.out⟩
 have HM : Hid (m ≤ 100) := Lib.hid (by omega)
 have hz : ∀ W, (zeroValue 29).run Try.prog W = .ok (.agg (Vo.cells voZ).toArray) W := fun W => Try.zero_vo W
 have hza : ∀ W, (zeroValue 33).run Try.prog W = .ok (.agg (Ac.cells ⟨0, 0, voZ⟩).toArray) W := fun W => Try.zero_ac W
 have HZl : Hid ((Vo.cells voZ).length = 34) := Lib.hid (V_len _ V_okz)
 have HI := Lib.hid h
 clear h
 go_enter Try.func3, Try.ntmps3
 go_wp2_with (first
  | (go_at_call 7; (with_reducible refine (fixed20_of _).mono ?_); rintro e w1 ⟨rfl, hb1⟩; have HB1 := Lib.hid hb1; clear hb1)
  | (go_at_call 8; (with_reducible refine (new_V w1).mono ?_); rintro e w2 ⟨g, gv, gc, rfl, ht9, hb9, hd9⟩; have HJ0 := Lib.hid (JT.first HB1.out ht9 hb9 hd9); clear ht9 hb9 hd9))
 go_loopw [6, 27] (fun sv iv wr => ∃ (i : Nat) (M : List (Int × Vo)) (R : Tl), i ≤ m ∧ iv = .int .i64 (i : Int) ∧ JT w wr g gv gc M sv R ∧ Rep R M ∧ M.length ≤ i ∧ ∀ p ∈ M, In64 p.1) (fun _ iv _ => m - (intOf iv).toNat)
 case atStart => exact ⟨0, [], [], Nat.zero_le _, rfl, HJ0.out, Rep.nil, Nat.le_refl _, fun _ h => nomatch h⟩
 case round =>
  obtain ⟨i, M, R, hi, rfl, hj, hrep, hml, hin⟩ := hrel
  obtain ⟨A, c, rfl, _, _, _⟩ := hj.ow.out
  have HJ := Lib.hid hj
  have HX := Lib.hid hj.be
  have HRep := Lib.hid hrep
  have HMi := Lib.hid hml
  have HIn := Lib.hid hin
  have HMl : Hid (M.length ≤ 100000) := Lib.hid (by have := HM.out; omega)
  have HRk : Hid (R.length ≤ 100000) := Lib.hid (by rw [hrep.len]; exact HMl.out)
  have HRl : Hid (R.length ≤ 1000000) := Lib.hid (by have := HRk.out; omega)
  have HND : Hid (¬ D3 g gv gc wr.heap.size) := Lib.hid (fun h9 => Nat.lt_irrefl _ (hj.tl.lt _ h9))
  clear hj hrep hml hin
  by_cases hlt : i < m
  ·obtain ⟨g0, o0, x, rfl, hok, hrx⟩ := HI.out.at HX.out hlt
   have HRx := Lib.hid hrx
   have HOk := Lib.hid hok
   have HXl : Hid (x.cells.length = 36) := Lib.hid (Ac.len hok.dg)
   have HVl : Hid ((Vo.cells x.v).length = 34) := Lib.hid (V_len _ hok.dg)
   have hix := Try.ix_ac wr g0 o0 m c0 i hlt
   clear hok hrx
   obtain ⟨u, hu⟩ : ∃ u, (ofL R x.who).getD voZ = u := ⟨_, rfl⟩
   obtain ⟨bb, hbb⟩ : ∃ bb, (ofL R x.who).isSome = bb := ⟨_, rfl⟩
   have HU := Lib.hid hu
   have HBb := Lib.hid hbb
   have HUk : Hid (okV u) := Lib.hid (by rw [← hu, HRep.out.eq]; exact ok_get HJ.out.tl.vm V_okz _)
   have HUl : Hid ((Vo.cells u).length = 34) := Lib.hid (V_len _ HUk.out)
   obtain ⟨r, hr⟩ : ∃ r, x.kd.tmod 2 = r := ⟨_, rfl⟩
   have HR2 : Hid (r = 0 ∨ r = 1) := Lib.hid (by
    have h0 := HOk.out.lo
    rw [Int.tmod_eq_emod_of_nonneg h0] at hr
    omega)
   clear hu hbb
   go_upto_if 41 with (first
    | (refine wpList_load_mid rfl 33 (.tmp 29) rfl g0 (o0 + i * 36) rfl x.cells _ HRx.out Try.underlying33 rfl (by rw [HXl.out]; kernel_rfl) ?_)
    | (refine wpList_store_blk rfl 33 (.tmp 8) (.tmp 30) rfl wr.heap.size x.cells rfl rfl 33 (Ac.cells ⟨0, 0, voZ⟩) (Blk.fresh rfl rfl) (by rw [HXl.out]; kernel_rfl) (by rw [HXl.out]; rfl) (Ac.one x) ?_; simp only [Act.put]; intro wv hbv hgv; have HNv := Lib.hid (below_new hgv); have HJv := Lib.hid (HJ.out.through HNv.out); have HBv := Lib.hid hbv; have k0_v := HBv.out.cellAt (i := 0) rfl; have k1_v := HBv.out.cellAt (i := 1) rfl; clear hbv hgv)
    | (go_at_call 9; (with_reducible refine (rof_any_ R x.who A R.length c wv HJv.out.on HRl.out).mono ?_); rintro e w2 ⟨rfl, hb9⟩; rw [HU.out, HBb.out]; have HJ2 := Lib.hid (HJv.out.through hb9); have HB2 := Lib.hid (HBv.out.through hb9); have HNU := Lib.hid (fun h9 => Nat.lt_irrefl _ (HJ2.out.tl.lt w2.heap.size h9)); clear hb9)
    | (refine wpList_store_blk rfl 29 (.tmp 9) (.tmp 36) rfl w2.heap.size (Vo.cells u) rfl rfl 29 (Vo.cells voZ) (Blk.fresh rfl rfl) (by rw [HUl.out]; kernel_rfl) (HZl.out.trans HUl.out.symm) (V_one u) ?_; simp only [Act.put]; intro w3 hb9 hg9; have HU3 := Lib.hid hb9; have HN3 := below_new hg9; have HJ3 := Lib.hid (HJ2.out.through HN3); have HB3 := Lib.hid (HB2.out.through HN3); have k0_3 := HB3.out.cellAt (i := 0) rfl; have k1_3 := HB3.out.cellAt (i := 1) rfl; clear hb9 hg9 HN3))
   go_cut [6, 27] from 27 to 149 (fun sv iv wx => iv = .int .i64 (i : Int) ∧ ∃ M2 R2, JT w wx g gv gc M2 sv R2 ∧ Rep R2 M2 ∧ M2.length ≤ i + 1 ∧ (∀ p ∈ M2, In64 p.1) ∧ (getM x.who M2).isSome = true ∧ Blk wx wr.heap.size 33 x.cells ∧ Blk wx w2.heap.size 29 (Vo.cells u))
   case first =>
    rcases HR2.out with rfl | rfl
    ·clear HR2
     cases bb with
     | false =>
      have hgm : getM x.who M = none := by
       rw [← HRep.out.eq]
       exact Option.isNone_iff_eq_none.1 (by rw [← Option.not_isSome, HBb.out]; rfl)
      have HAm : Hid (addM x.who x.v M = putM x.who x.v M) := Lib.hid (by unfold addM; rw [hgm])
      have HAb : Hid (addB x.who x.v M = true) := Lib.hid (by unfold addB; rw [hgm])
      clear hgm
      go_wp2_with (first
       | (refine wpList_load_mid rfl 29 (.tmp 45) rfl wr.heap.size 2 rfl (Vo.cells x.v) _ (ac_v HB3.out) Try.underlying29 rfl (by rw [HVl.out]; kernel_rfl) ?_)
       | (go_at_call 10; (with_reducible refine (add_V x.who x.v HJ3.out.tl HOk.out.dg HMl.out).mono ?_); rintro e w4 ⟨rfl, ht9, hf9⟩; rw [HAm.out] at ht9; rw [HAb.out]; have HJ4 := Lib.hid (HJ3.out.prog ht9 hf9); have HB4 := Lib.hid (hf9.blk HB3.out HND.out); have HU4 := Lib.hid (hf9.blk HU3.out HNU.out); have k0_4 := HB4.out.cellAt (i := 0) rfl; have k1_4 := HB4.out.cellAt (i := 1) rfl; clear ht9 hf9)
       | (refine wpList_load_mid rfl 29 (.tmp 62) rfl wr.heap.size 2 rfl (Vo.cells x.v) _ (ac_v HB4.out) Try.underlying29 rfl (by rw [HVl.out]; kernel_rfl) ?_)
       | (go_at_call 11; (with_reducible refine (rchange_any_ R x.who x.v A R.length c w4 HJ4.out.on HRk.out HOk.out.dg).mono ?_); rintro e w5 ⟨A2, n2, c2, rfl, ho9, hb9⟩; have HJ5 := Lib.hid (HJ4.out.doc ho9 hb9); have HB5 := Lib.hid (HB4.out.through hb9); have HU5 := Lib.hid (HU4.out.through hb9); clear ho9 hb9))
      go_meet
      case rel => exact ⟨rfl, putM x.who x.v M, chL R x.who x.v, HJ5.out, HRep.out.put _ _, Nat.le_trans (put_len _ _ _) (by have := HMi.out; omega), put_in HIn.out HOk.out.who, by rw [get_putM, if_pos rfl]; rfl, HB5.out, HU5.out⟩
     | true =>
      obtain ⟨o, hof⟩ : ∃ o, ofL R x.who = some o := Option.isSome_iff_exists.1 HBb.out
      have huo : u = o := by rw [← HU.out, hof]; rfl
      have hgm : getM x.who M = some u := by rw [← HRep.out.eq, hof, huo]
      have HSm : Hid ((getM x.who M).isSome = true) := Lib.hid (by rw [hgm]; rfl)
      have HAm : Hid (addM x.who x.v M = M) := Lib.hid (by unfold addM; rw [hgm])
      obtain ⟨bq, hbq⟩ : ∃ bq, decide (u = x.v) = bq := ⟨_, rfl⟩
      have HAb : Hid (addB x.who x.v M = bq) := Lib.hid (by unfold addB; rw [hgm]; exact hbq)
      have hev := fun W => eq_dec u x.v HUk.out HOk.out.dg W
      rw [hbq] at hev
      clear hgm huo hof hbq
      cases bq with
      | true =>
       go_wp2_with (first
        | (refine wpList_load_mid rfl 29 (.tmp 45) rfl wr.heap.size 2 rfl (Vo.cells x.v) _ (ac_v HB3.out) Try.underlying29 rfl (by rw [HVl.out]; kernel_rfl) ?_)
        | (go_at_call 10; (with_reducible refine (add_V x.who x.v HJ3.out.tl HOk.out.dg HMl.out).mono ?_); rintro e w4 ⟨rfl, ht9, hf9⟩; rw [HAm.out] at ht9; rw [HAb.out]; have HJ4 := Lib.hid (HJ3.out.prog ht9 hf9); have HB4 := Lib.hid (hf9.blk HB3.out HND.out); have HU4 := Lib.hid (hf9.blk HU3.out HNU.out); have k0_4 := HB4.out.cellAt (i := 0) rfl; have k1_4 := HB4.out.cellAt (i := 1) rfl; clear ht9 hf9)
        | (refine wpList_load_blk_g 29 (.tmp 9) rfl (by kernel_rfl) w2.heap.size rfl 29 (Vo.cells u) _ HU4.out Try.underlying29 rfl (by rw [HUl.out]; kernel_rfl) ?_)
        | (refine wpList_load_mid_g 29 (.tmp 52) rfl (by kernel_rfl) wr.heap.size 2 rfl (Vo.cells x.v) _ (ac_v HB4.out) Try.underlying29 rfl (by rw [HVl.out]; kernel_rfl) ?_))
       go_meet
       case rel => exact ⟨rfl, M, R, HJ4.out, HRep.out, by have := HMi.out; omega, HIn.out, HSm.out, HB4.out, HU4.out⟩
      | false =>
       go_wp2_with (first
        | (refine wpList_load_mid rfl 29 (.tmp 45) rfl wr.heap.size 2 rfl (Vo.cells x.v) _ (ac_v HB3.out) Try.underlying29 rfl (by rw [HVl.out]; kernel_rfl) ?_)
        | (go_at_call 10; (with_reducible refine (add_V x.who x.v HJ3.out.tl HOk.out.dg HMl.out).mono ?_); rintro e w4 ⟨rfl, ht9, hf9⟩; rw [HAm.out] at ht9; rw [HAb.out]; have HJ4 := Lib.hid (HJ3.out.prog ht9 hf9); have HB4 := Lib.hid (hf9.blk HB3.out HND.out); have HU4 := Lib.hid (hf9.blk HU3.out HNU.out); have k0_4 := HB4.out.cellAt (i := 0) rfl; have k1_4 := HB4.out.cellAt (i := 1) rfl; clear ht9 hf9)
        | (refine wpList_load_blk_g 29 (.tmp 9) rfl (by kernel_rfl) w2.heap.size rfl 29 (Vo.cells u) _ HU4.out Try.underlying29 rfl (by rw [HUl.out]; kernel_rfl) ?_)
        | (refine wpList_load_mid_g 29 (.tmp 52) rfl (by kernel_rfl) wr.heap.size 2 rfl (Vo.cells x.v) _ (ac_v HB4.out) Try.underlying29 rfl (by rw [HVl.out]; kernel_rfl) ?_))
       go_meet
       case rel => exact ⟨rfl, M, R, HJ4.out, HRep.out, by have := HMi.out; omega, HIn.out, HSm.out, HB4.out, HU4.out⟩
    ·clear HR2
     go_wp2_with (first
      | (refine wpList_load_mid rfl 29 (.tmp 68) rfl wr.heap.size 2 rfl (Vo.cells x.v) _ (ac_v HB3.out) Try.underlying29 rfl (by rw [HVl.out]; kernel_rfl) ?_)
      | (go_at_call 12; (with_reducible refine (change_V x.who x.v HJ3.out.tl HOk.out.dg HMl.out).mono ?_); rintro e w4 ⟨rfl, ht9, hf9⟩; have HJ4 := Lib.hid (HJ3.out.prog ht9 hf9); have HB4 := Lib.hid (hf9.blk HB3.out HND.out); have HU4 := Lib.hid (hf9.blk HU3.out HNU.out); have k0_4 := HB4.out.cellAt (i := 0) rfl; have k1_4 := HB4.out.cellAt (i := 1) rfl; clear ht9 hf9)
      | (refine wpList_load_mid rfl 29 (.tmp 74) rfl wr.heap.size 2 rfl (Vo.cells x.v) _ (ac_v HB4.out) Try.underlying29 rfl (by rw [HVl.out]; kernel_rfl) ?_)
      | (go_at_call 11; (with_reducible refine (rchange_any_ R x.who x.v A R.length c w4 HJ4.out.on HRk.out HOk.out.dg).mono ?_); rintro e w5 ⟨A2, n2, c2, rfl, ho9, hb9⟩; have HJ5 := Lib.hid (HJ4.out.doc ho9 hb9); have HB5 := Lib.hid (HB4.out.through hb9); have HU5 := Lib.hid (HU4.out.through hb9); clear ho9 hb9))
     go_meet
     case rel => exact ⟨rfl, putM x.who x.v M, chL R x.who x.v, HJ5.out, HRep.out.put _ _, Nat.le_trans (put_len _ _ _) (by have := HMi.out; omega), put_in HIn.out HOk.out.who, by rw [get_putM, if_pos rfl]; rfl, HB5.out, HU5.out⟩
   case rest =>
    obtain ⟨rfl, M2, R2, hj, hrep, hml, hin, hsome, hB, hU⟩ := hcut
    obtain ⟨A2, c2, rfl, _, _, _⟩ := hj.ow.out
    have HJwx := Lib.hid hj
    have HBwx := Lib.hid hB
    have HUwx := Lib.hid hU
    have k1_wx := hB.cellAt (i := 1) rfl
    have HRe2 := Lib.hid hrep
    have HMi2 := Lib.hid hml
    have HIn2 := Lib.hid hin
    have HM2 : Hid (M2.length ≤ 100000) := Lib.hid (by have := HM.out; omega)
    have HLn : Hid (M2.length = R2.length) := Lib.hid hrep.len.symm
    clear HR2
    have HR2 : Hid (R2.length ≤ 1000000) := Lib.hid (by rw [hrep.len]; have := HM2.out; omega)
    have HLe : Hid (leastL R2 p = leastT M2 voZ p) := Lib.hid (hrep.least p)
    have HOe : Hid (ofL R2 x.who = getM x.who M2) := Lib.hid (hrep.eq x.who)
    have HWq : Hid (whoL R2 x.v = (whoG M2 voZ x.v (sKeys M2))) := Lib.hid (hrep.who x.v)
    have HYk0 := leastT_ok hj.tl.vm p
    have HQk0 := ok_get hj.tl.vm V_okz x.who
    obtain ⟨y, hy⟩ : ∃ y, (leastT M2 voZ p).getD voZ = y := ⟨_, rfl⟩
    obtain ⟨yb, hyb⟩ : ∃ yb, (leastT M2 voZ p).isSome = yb := ⟨_, rfl⟩
    obtain ⟨q, hq⟩ : ∃ q, (getM x.who M2).getD voZ = q := ⟨_, rfl⟩
    obtain ⟨cn, hcn⟩ : ∃ cn, cntM u M2 = cn := ⟨_, rfl⟩
    rw [hy] at HYk0
    rw [hq] at HQk0
    have HY := Lib.hid hy
    have HYb := Lib.hid hyb
    have HQ := Lib.hid hq
    have HCn := Lib.hid hcn
    have HSo := Lib.hid hsome
    have HYl : Hid ((Vo.cells y).length = 34) := Lib.hid (V_len _ HYk0)
    have HQl : Hid ((Vo.cells q).length = 34) := Lib.hid (V_len _ HQk0)
    have hny := fun W => neq_same y HYk0 W
    have hnq := fun W => neq_same q HQk0 W
    clear hj hrep hml hin hsome hB hU hy hyb hq hcn HYk0 HQk0 hr
    go_upto_region 22 with (first
     | (go_at_call 13; (with_reducible refine (least_V p HJwx.out.tl HIn2.out HM2.out).mono ?_); rintro e y1 ⟨rfl, hb9⟩; rw [HY.out, HYb.out]; have HJy1 := Lib.hid (HJwx.out.through hb9); have HBy1 := Lib.hid (HBwx.out.through hb9); have HUy1 := Lib.hid (HUwx.out.through hb9); have k1_y1 := HBy1.out.cellAt (i := 1) rfl; clear hb9)
     | (refine wpList_store_blk rfl 29 (.tmp 11) (.tmp 81) rfl y1.heap.size (Vo.cells y) rfl rfl 29 (Vo.cells voZ) (Blk.fresh rfl rfl) (by rw [HYl.out]; kernel_rfl) (HZl.out.trans HYl.out.symm) (V_one y) ?_; simp only [Act.put]; intro y2 hb8 hg9; have HPay2 := Lib.hid hb8; have hb9 := below_new hg9; have HJy2 := Lib.hid (HJy1.out.through hb9); have HBy2 := Lib.hid (HBy1.out.through hb9); have HUy2 := Lib.hid (HUy1.out.through hb9); have k1_y2 := HBy2.out.cellAt (i := 1) rfl; clear hb8 hb9 hg9)
     | (go_at_call 14; (with_reducible refine (rleast_any_ R2 p A2 R2.length c2 y2 HJy2.out.on HR2.out).mono ?_); rintro e y3 ⟨rfl, hb9⟩; rw [HLe.out, HY.out, HYb.out]; have HJy3 := Lib.hid (HJy2.out.through hb9); have HBy3 := Lib.hid (HBy2.out.through hb9); have HUy3 := Lib.hid (HUy2.out.through hb9); have HPay3 := Lib.hid (HPay2.out.through hb9); have k1_y3 := HBy3.out.cellAt (i := 1) rfl; clear hb9)
     | (refine wpList_store_blk rfl 29 (.tmp 13) (.tmp 87) rfl y3.heap.size (Vo.cells y) rfl rfl 29 (Vo.cells voZ) (Blk.fresh rfl rfl) (by rw [HYl.out]; kernel_rfl) (HZl.out.trans HYl.out.symm) (V_one y) ?_; simp only [Act.put]; intro y4 hb8 hg9; have HPby4 := Lib.hid hb8; have hb9 := below_new hg9; have HJy4 := Lib.hid (HJy3.out.through hb9); have HBy4 := Lib.hid (HBy3.out.through hb9); have HUy4 := Lib.hid (HUy3.out.through hb9); have HPay4 := Lib.hid (HPay3.out.through hb9); have k1_y4 := HBy4.out.cellAt (i := 1) rfl; clear hb8 hb9 hg9)
     | (go_at_call 15; (with_reducible refine (of_V x.who HJy4.out.tl).mono ?_); rintro e y5 ⟨rfl, hb9⟩; rw [HQ.out, HSo.out]; have HJy5 := Lib.hid (HJy4.out.through hb9); have HBy5 := Lib.hid (HBy4.out.through hb9); have HUy5 := Lib.hid (HUy4.out.through hb9); have HPay5 := Lib.hid (HPay4.out.through hb9); have HPby5 := Lib.hid (HPby4.out.through hb9); have k1_y5 := HBy5.out.cellAt (i := 1) rfl; clear hb9)
     | (refine wpList_store_blk rfl 29 (.tmp 15) (.tmp 94) rfl y5.heap.size (Vo.cells q) rfl rfl 29 (Vo.cells voZ) (Blk.fresh rfl rfl) (by rw [HQl.out]; kernel_rfl) (HZl.out.trans HQl.out.symm) (V_one q) ?_; simp only [Act.put]; intro y6 hb8 hg9; have HPcy6 := Lib.hid hb8; have hb9 := below_new hg9; have HJy6 := Lib.hid (HJy5.out.through hb9); have HBy6 := Lib.hid (HBy5.out.through hb9); have HUy6 := Lib.hid (HUy5.out.through hb9); have HPay6 := Lib.hid (HPay5.out.through hb9); have HPby6 := Lib.hid (HPby5.out.through hb9); have k1_y6 := HBy6.out.cellAt (i := 1) rfl; clear hb8 hb9 hg9)
     | (go_at_call 9; (with_reducible refine (rof_any_ R2 x.who A2 R2.length c2 y6 HJy6.out.on HR2.out).mono ?_); rintro e y7 ⟨rfl, hb9⟩; rw [HOe.out, HQ.out, HSo.out]; have HJy7 := Lib.hid (HJy6.out.through hb9); have HBy7 := Lib.hid (HBy6.out.through hb9); have HUy7 := Lib.hid (HUy6.out.through hb9); have HPay7 := Lib.hid (HPay6.out.through hb9); have HPby7 := Lib.hid (HPby6.out.through hb9); have HPcy7 := Lib.hid (HPcy6.out.through hb9); have k1_y7 := HBy7.out.cellAt (i := 1) rfl; clear hb9)
     | (refine wpList_store_blk rfl 29 (.tmp 17) (.tmp 101) rfl y7.heap.size (Vo.cells q) rfl rfl 29 (Vo.cells voZ) (Blk.fresh rfl rfl) (by rw [HQl.out]; kernel_rfl) (HZl.out.trans HQl.out.symm) (V_one q) ?_; simp only [Act.put]; intro y8 hb8 hg9; have HPdy8 := Lib.hid hb8; have hb9 := below_new hg9; have HJy8 := Lib.hid (HJy7.out.through hb9); have HBy8 := Lib.hid (HBy7.out.through hb9); have HUy8 := Lib.hid (HUy7.out.through hb9); have HPay8 := Lib.hid (HPay7.out.through hb9); have HPby8 := Lib.hid (HPby7.out.through hb9); have HPcy8 := Lib.hid (HPcy7.out.through hb9); clear hb8 hb9 hg9))
    cases yb with
    | true =>
     refine wp_region_held_drew (S := fun W => Below y8.heap.size y8 W) (by kernel_rfl) (Below.refl _ y8).drew (fun hHeld => ?_)
     change wpAnyH _ _ _ _ _ _ #[false, false, false, false, false, false, false, false, false, false, false, false, false, false, false, false, false, false, false, false, false, false, false, false, false, false, false, false, false, false, false, false, false, false, false, false, false, false, false, false, false, false, false, false, false, false] _ _
     refine tkq (i := 0) (d := 103) (v := (.agg (Vo.cells y).toArray)) rfl rfl (yieldsIf_load_mid (by kernel_rfl) 29 (.tmp 11) rfl y1.heap.size 0 (by simp [Act.eval]) (Vo.cells y) _ (fun W hW => Blk.range (pre := []) (post := []) (by simpa using (HPay8.out.through hW))) Try.underlying29 rfl (by rw [HYl.out]; kernel_rfl)) (by assumption) ?_
     simp only [Act.put, sq1, sq2, sq3]
     refine tkq (i := 1) (d := 104) (v := (.agg (Vo.cells y).toArray)) rfl rfl (yieldsIf_load_mid (by kernel_rfl) 29 (.tmp 13) rfl y3.heap.size 0 (by simp [Act.eval]) (Vo.cells y) _ (fun W hW => Blk.range (pre := []) (post := []) (by simpa using (HPby8.out.through hW))) Try.underlying29 rfl (by rw [HYl.out]; kernel_rfl)) (by assumption) ?_
     simp only [Act.put, sq1, sq2, sq3]
     refine tkq (i := 2) (d := 105) (v := (.bool false)) rfl rfl (Or.inl ⟨by kernel_rfl, fun w hSw => ?_⟩) (by assumption) ?_
     ·(try dsimp only at hSw); go_simp <;> (try rfl)
     simp only [Act.put, sq1, sq2, sq3]
     refine tkq (i := 3) (d := 106) (v := (.bool false)) rfl rfl (Or.inl ⟨by kernel_rfl, fun w hSw => ?_⟩) (by assumption) ?_
     ·(try dsimp only at hSw); go_simp <;> (try rfl)
     simp only [Act.put, sq1, sq2, sq3]
     refine tkq (i := 4) (d := 107) (v := (.bool true)) rfl rfl (Or.inl ⟨by kernel_rfl, fun w hSw => ?_⟩) (by assumption) ?_
     ·(try dsimp only at hSw); go_simp <;> (try rfl)
     simp only [Act.put, sq1, sq2, sq3]
     refine tkq (i := 5) (d := 108) (v := (.bool true)) rfl rfl (Or.inl ⟨by kernel_rfl, fun w hSw => ?_⟩) (by assumption) ?_
     ·(try dsimp only at hSw); go_simp <;> (try rfl)
     simp only [Act.put, sq1, sq2, sq3]
     refine tkq (i := 6) (d := 109) (v := (.bool false)) rfl rfl (Or.inl ⟨by kernel_rfl, fun w hSw => ?_⟩) (by assumption) ?_
     ·(try dsimp only at hSw); go_simp <;> (try rfl)
     simp only [Act.put, sq1, sq2, sq3]
     refine tkq (i := 7) (d := 110) (v := (.bool false)) rfl rfl (Or.inl ⟨by kernel_rfl, fun w hSw => ?_⟩) (by assumption) ?_
     ·(try dsimp only at hSw); go_simp <;> (try rfl)
     simp only [Act.put, sq1, sq2, sq3]
     refine tkq (i := 8) (d := 111) (v := (.bool false)) rfl rfl (Or.inl ⟨by kernel_rfl, fun w hSw => ?_⟩) (by assumption) ?_
     ·(try dsimp only at hSw); go_simp <;> (try rfl)
     simp only [Act.put, sq1, sq2, sq3]
     refine tkq (i := 9) (d := 112) (v := (.agg (Vo.cells q).toArray)) rfl rfl (yieldsIf_load_mid (by kernel_rfl) 29 (.tmp 15) rfl y5.heap.size 0 (by simp [Act.eval]) (Vo.cells q) _ (fun W hW => Blk.range (pre := []) (post := []) (by simpa using (HPcy8.out.through hW))) Try.underlying29 rfl (by rw [HQl.out]; kernel_rfl)) (by assumption) ?_
     simp only [Act.put, sq1, sq2, sq3]
     refine tkq (i := 10) (d := 113) (v := (.agg (Vo.cells q).toArray)) rfl rfl (yieldsIf_load_mid (by kernel_rfl) 29 (.tmp 17) rfl y7.heap.size 0 (by simp [Act.eval]) (Vo.cells q) _ (fun W hW => Blk.range (pre := []) (post := []) (by simpa using (HPdy8.out.through hW))) Try.underlying29 rfl (by rw [HQl.out]; kernel_rfl)) (by assumption) ?_
     simp only [Act.put, sq1, sq2, sq3]
     refine tkq (i := 11) (d := 114) (v := (.bool false)) rfl rfl (Or.inl ⟨by kernel_rfl, fun w hSw => ?_⟩) (by assumption) ?_
     ·(try dsimp only at hSw); go_simp <;> (try rfl)
     simp only [Act.put, sq1, sq2, sq3]
     refine tkq (i := 12) (d := 115) (v := (.bool false)) rfl rfl (Or.inl ⟨by kernel_rfl, fun w hSw => ?_⟩) (by assumption) ?_
     ·(try dsimp only at hSw); go_simp <;> (try rfl)
     simp only [Act.put, sq1, sq2, sq3]
     refine tkq (i := 13) (d := 116) (v := (.bool false)) rfl rfl (Or.inl ⟨by kernel_rfl, fun w hSw => ?_⟩) (by assumption) ?_
     ·(try dsimp only at hSw); go_simp <;> (try rfl)
     simp only [Act.put, sq1, sq2, sq3]
     refine tkq (i := 14) (d := 117) (v := (.bool true)) rfl rfl (Or.inl ⟨by kernel_rfl, fun w hSw => ?_⟩) (by assumption) ?_
     ·(try dsimp only at hSw); go_simp <;> (try rfl)
     simp only [Act.put, sq1, sq2, sq3]
     refine tkq (i := 15) (d := 118) (v := (.bool false)) rfl rfl (Or.inl ⟨by kernel_rfl, fun w hSw => ?_⟩) (by assumption) ?_
     ·(try dsimp only at hSw); go_simp <;> (try rfl)
     simp only [Act.put, sq1, sq2, sq3]
     refine tkq (i := 16) (d := 119) (v := (.bool false)) rfl rfl (Or.inl ⟨by kernel_rfl, fun w hSw => ?_⟩) (by assumption) ?_
     ·(try dsimp only at hSw); go_simp <;> (try rfl)
     simp only [Act.put, sq1, sq2, sq3]
     refine tkq (i := 17) (d := 120) (v := (.bool false)) rfl rfl (Or.inl ⟨by kernel_rfl, fun w hSw => ?_⟩) (by assumption) ?_
     ·(try dsimp only at hSw); go_simp <;> (try rfl)
     simp only [Act.put, sq1, sq2, sq3]
     refine tkq (i := 18) (d := 121) (v := (.pointer (some ⟨g, 0, none⟩))) rfl rfl (Or.inl ⟨by kernel_rfl, fun w hSw => ?_⟩) (by assumption) ?_
     ·(try dsimp only at hSw); go_simp <;> (try rfl)
     simp only [Act.put, sq1, sq2, sq3]
     refine tkq (i := 20) (d := 123) (v := (.slice A2 R2.length c2)) rfl rfl (Or.inl ⟨by kernel_rfl, fun w hSw => ?_⟩) (by assumption) ?_
     ·(try dsimp only at hSw); go_simp <;> (try rfl)
     simp only [Act.put, sq1, sq2, sq3]
     refine tkq (i := 21) (d := 124) (v := (.int .i64 (R2.length : Int))) rfl rfl (Or.inl ⟨by kernel_rfl, fun w hSw => ?_⟩) (by assumption) ?_
     ·(try dsimp only at hSw); go_simp <;> (try rfl)
     simp only [Act.put, sq1, sq2, sq3]
     refine wpAnyH_ready (rs := [19]) (by kernel_rfl) (by simp) ?_
     refine AllReadyH.cons rfl (fun K hK => ?_) AllReadyH.nil
     go_simp
     refine (len_V (HJy8.out.through hHeld).tl).mono ?_
     rintro e z1 ⟨rfl, hw9⟩; subst hw9; rw [HLn.out]
     go_wp2_with fail
     refine hK.out _ _ hHeld (fun hHeld1 => ?_)
     clear hHeld hK K
     have hHeld := hHeld1
     clear hHeld1
     refine tkq (i := 22) (d := 125) (v := (.bool false)) rfl rfl (Or.inl ⟨by kernel_rfl, fun w hSw => ?_⟩) (by assumption) ?_
     ·(try dsimp only at hSw); go_simp <;> (try rfl)
     simp only [Act.put, sq1, sq2, sq3]
     refine tkq (i := 23) (d := 126) (v := (.bool false)) rfl rfl (Or.inl ⟨by kernel_rfl, fun w hSw => ?_⟩) (by assumption) ?_
     ·(try dsimp only at hSw); go_simp <;> (try rfl)
     simp only [Act.put, sq1, sq2, sq3]
     refine tkq (i := 24) (d := 127) (v := (.bool false)) rfl rfl (Or.inl ⟨by kernel_rfl, fun w hSw => ?_⟩) (by assumption) ?_
     ·(try dsimp only at hSw); go_simp <;> (try rfl)
     simp only [Act.put, sq1, sq2, sq3]
     refine tkq (i := 25) (d := 128) (v := (.pointer (some ⟨g, 0, none⟩))) rfl rfl (Or.inl ⟨by kernel_rfl, fun w hSw => ?_⟩) (by assumption) ?_
     ·(try dsimp only at hSw); go_simp <;> (try rfl)
     simp only [Act.put, sq1, sq2, sq3]
     refine tkq (i := 26) (d := 129) (v := (.agg (Vo.cells u).toArray)) rfl rfl (yieldsIf_load_mid (by kernel_rfl) 29 (.tmp 9) rfl w2.heap.size 0 (by simp [Act.eval]) (Vo.cells u) _ (fun W hW => Blk.range (pre := []) (post := []) (by simpa using (HUy8.out.through hW))) Try.underlying29 rfl (by rw [HUl.out]; kernel_rfl)) (by assumption) ?_
     simp only [Act.put, sq1, sq2, sq3]
     refine tkq (i := 28) (d := 131) (v := (.slice A2 R2.length c2)) rfl rfl (Or.inl ⟨by kernel_rfl, fun w hSw => ?_⟩) (by assumption) ?_
     ·(try dsimp only at hSw); go_simp <;> (try rfl)
     simp only [Act.put, sq1, sq2, sq3]
     refine tkq (i := 29) (d := 132) (v := (.agg (Vo.cells u).toArray)) rfl rfl (yieldsIf_load_mid (by kernel_rfl) 29 (.tmp 9) rfl w2.heap.size 0 (by simp [Act.eval]) (Vo.cells u) _ (fun W hW => Blk.range (pre := []) (post := []) (by simpa using (HUy8.out.through hW))) Try.underlying29 rfl (by rw [HUl.out]; kernel_rfl)) (by assumption) ?_
     simp only [Act.put, sq1, sq2, sq3]
     refine wpAnyH_ready (rs := [27]) (by kernel_rfl) (by simp) ?_
     refine AllReadyH.cons rfl (fun K hK => ?_) AllReadyH.nil
     go_simp
     refine (cnt_V u (HJy8.out.through hHeld).tl HUk.out).mono ?_
     rintro e z2 ⟨rfl, hb9⟩; rw [HCn.out]; have X2 := Lib.hid (below_step hHeld hb9); clear hb9
     go_wp2_with fail
     refine hK.out _ _ X2.out (fun hHeld1 => ?_)
     clear hHeld hK K
     have hHeld := hHeld1
     clear hHeld1
     refine wpAnyH_ready (rs := [30]) (by kernel_rfl) (by simp) ?_
     refine AllReadyH.cons rfl (fun K hK => ?_) AllReadyH.nil
     go_simp
     refine (rwho_any_ R2 u A2 R2.length c2 _ (HJy8.out.through hHeld).on HR2.out HUk.out).mono ?_
     rintro e z3 ⟨A3, n3, c3, rfl, hi9, hl9, hb9⟩; rw [show n3 = cn from by rw [← HCn.out, ← HRe2.out.cnt u]; exact hi9.len.symm]; have X3 := Lib.hid (below_step hHeld hb9); clear hb9; clear hi9 hl9
     go_wp2_with fail
     refine hK.out _ _ X3.out (fun hHeld1 => ?_)
     clear hHeld hK K
     have hHeld := hHeld1
     clear hHeld1
     refine tkq (i := 31) (d := 134) (v := (.int .i64 (cn : Int))) rfl rfl (Or.inl ⟨by kernel_rfl, fun w hSw => ?_⟩) (by assumption) ?_
     ·(try dsimp only at hSw); go_simp <;> (try rfl)
     simp only [Act.put, sq1, sq2, sq3]
     refine tkq (i := 32) (d := 135) (v := (.bool false)) rfl rfl (Or.inl ⟨by kernel_rfl, fun w hSw => ?_⟩) (by assumption) ?_
     ·(try dsimp only at hSw); go_simp <;> (try rfl)
     simp only [Act.put, sq1, sq2, sq3]
     refine tkq (i := 33) (d := 136) (v := (.bool false)) rfl rfl (Or.inl ⟨by kernel_rfl, fun w hSw => ?_⟩) (by assumption) ?_
     ·(try dsimp only at hSw); go_simp <;> (try rfl)
     simp only [Act.put, sq1, sq2, sq3]
     refine tkq (i := 34) (d := 137) (v := (.bool false)) rfl rfl (Or.inl ⟨by kernel_rfl, fun w hSw => ?_⟩) (by assumption) ?_
     ·(try dsimp only at hSw); go_simp <;> (try rfl)
     simp only [Act.put, sq1, sq2, sq3]
     refine tkq (i := 35) (d := 138) (v := (.pointer (some ⟨g, 0, none⟩))) rfl rfl (Or.inl ⟨by kernel_rfl, fun w hSw => ?_⟩) (by assumption) ?_
     ·(try dsimp only at hSw); go_simp <;> (try rfl)
     simp only [Act.put, sq1, sq2, sq3]
     refine tkq (i := 36) (d := 139) (v := (.pointer (some ⟨wr.heap.size, 2, none⟩))) rfl rfl (Or.inl ⟨by kernel_rfl, fun w hSw => ?_⟩) (by assumption) ?_
     ·(try dsimp only at hSw); go_simp <;> (try rfl)
     simp only [Act.put, sq1, sq2, sq3]
     refine tkq (i := 37) (d := 140) (v := (.agg (Vo.cells x.v).toArray)) rfl rfl (yieldsIf_load_mid (by kernel_rfl) 29 (.tmp 139) rfl wr.heap.size 2 (by simp [Act.eval]) (Vo.cells x.v) _ (fun W hW => ac_v (HBy8.out.through hW)) Try.underlying29 rfl (by rw [HVl.out]; kernel_rfl)) (by assumption) ?_
     simp only [Act.put, sq1, sq2, sq3]
     refine tkq (i := 39) (d := 142) (v := (.slice A2 R2.length c2)) rfl rfl (Or.inl ⟨by kernel_rfl, fun w hSw => ?_⟩) (by assumption) ?_
     ·(try dsimp only at hSw); go_simp <;> (try rfl)
     simp only [Act.put, sq1, sq2, sq3]
     refine tkq (i := 40) (d := 143) (v := (.pointer (some ⟨wr.heap.size, 2, none⟩))) rfl rfl (Or.inl ⟨by kernel_rfl, fun w hSw => ?_⟩) (by assumption) ?_
     ·(try dsimp only at hSw); go_simp <;> (try rfl)
     simp only [Act.put, sq1, sq2, sq3]
     refine tkq (i := 41) (d := 144) (v := (.agg (Vo.cells x.v).toArray)) rfl rfl (yieldsIf_load_mid (by kernel_rfl) 29 (.tmp 143) rfl wr.heap.size 2 (by simp [Act.eval]) (Vo.cells x.v) _ (fun W hW => ac_v (HBy8.out.through hW)) Try.underlying29 rfl (by rw [HVl.out]; kernel_rfl)) (by assumption) ?_
     simp only [Act.put, sq1, sq2, sq3]
     refine wpAnyH_ready (rs := [38]) (by kernel_rfl) (by simp) ?_
     refine AllReadyH.cons rfl (fun K hK => ?_) AllReadyH.nil
     go_simp
     refine (who_V x.v (HJy8.out.through hHeld).tl HOk.out.dg HIn2.out HM2.out).mono ?_
     rintro e z4 ⟨A4, n4, c4, rfl, hn9, hc9, hi9, hb9⟩; have HI4 := Lib.hid hi9; have X4 := Lib.hid (below_step hHeld hb9); clear hb9; clear hn9 hc9 hi9
     go_wp2_with fail
     refine hK.out _ _ X4.out (fun hHeld1 => ?_)
     clear hHeld hK K
     have hHeld := hHeld1
     clear hHeld1
     refine wpAnyH_ready (rs := [42]) (by kernel_rfl) (by simp) ?_
     refine AllReadyH.cons rfl (fun K hK => ?_) AllReadyH.nil
     go_simp
     refine (rwho_any_ R2 x.v A2 R2.length c2 _ (HJy8.out.through hHeld).on HR2.out HOk.out.dg).mono ?_
     rintro e z5 ⟨A5, n5, c5, rfl, hi9, hl9, hb9⟩; rw [HWq.out] at hi9; have HI5 := Lib.hid hi9; have HI6 := Lib.hid (HI4.out.through hb9); have X5 := Lib.hid (below_step hHeld hb9); clear hb9; clear hi9 hl9
     go_wp2_with fail
     refine hK.out _ _ X5.out (fun hHeld1 => ?_)
     clear hHeld hK K
     have hHeld := hHeld1
     clear hHeld1
     refine wpAnyH_ready (rs := [43]) (by kernel_rfl) (by simp) ?_
     refine AllReadyH.cons rfl (fun K hK => ?_) AllReadyH.nil
     go_simp
     refine (sameints_any (whoG M2 voZ x.v (sKeys M2)) (whoG M2 voZ x.v (sKeys M2)) A4 n4 c4 A5 n5 c5 _ HI6.out HI5.out (by have h1 := HI6.out.len; have h2 := whoG_len M2 voZ x.v (sKeys M2); rw [sKeys_len] at h2; have := HM2.out; omega)).mono ?_
     rintro e z6 ⟨rfl, hb9⟩; rw [beq_self_eq_true]; have X6 := Lib.hid (below_step hHeld hb9); clear hb9
     go_wp2_with fail
     refine hK.out _ _ X6.out (fun hHeld1 => ?_)
     clear hHeld hK K
     have hHeld := hHeld1
     clear hHeld1
     refine tkq (i := 44) (d := 147) (v := (.bool false)) rfl rfl (Or.inl ⟨by kernel_rfl, fun w hSw => ?_⟩) (by assumption) ?_
     ·(try dsimp only at hSw); go_simp <;> (try rfl)
     simp only [Act.put, sq1, sq2, sq3]
     refine tkq (i := 45) (d := 148) (v := (.bool false)) rfl rfl (Or.inl ⟨by kernel_rfl, fun w hSw => ?_⟩) (by assumption) ?_
     ·(try dsimp only at hSw); go_simp <;> (try rfl)
     simp only [Act.put, sq1, sq2, sq3]
     refine wpAnyH_done (by kernel_rfl) ?_ _
     go_wp2_with fail
     go_roundw
     case rel => exact ⟨i + 1, M2, R2, by omega, by go_num, HJy8.out.through X6.out, HRe2.out, HMi2.out, HIn2.out⟩
     case measure => simp [intOf]; omega
    | false =>
     refine wp_region_held_drew (S := fun W => Below y8.heap.size y8 W) (by kernel_rfl) (Below.refl _ y8).drew (fun hHeld => ?_)
     change wpAnyH _ _ _ _ _ _ #[false, false, false, false, false, false, false, false, false, false, false, false, false, false, false, false, false, false, false, false, false, false, false, false, false, false, false, false, false, false, false, false, false, false, false, false, false, false, false, false, false, false, false, false, false, false] _ _
     refine tkq (i := 0) (d := 103) (v := (.agg (Vo.cells y).toArray)) rfl rfl (yieldsIf_load_mid (by kernel_rfl) 29 (.tmp 11) rfl y1.heap.size 0 (by simp [Act.eval]) (Vo.cells y) _ (fun W hW => Blk.range (pre := []) (post := []) (by simpa using (HPay8.out.through hW))) Try.underlying29 rfl (by rw [HYl.out]; kernel_rfl)) (by assumption) ?_
     simp only [Act.put, sq1, sq2, sq3]
     refine tkq (i := 1) (d := 104) (v := (.agg (Vo.cells y).toArray)) rfl rfl (yieldsIf_load_mid (by kernel_rfl) 29 (.tmp 13) rfl y3.heap.size 0 (by simp [Act.eval]) (Vo.cells y) _ (fun W hW => Blk.range (pre := []) (post := []) (by simpa using (HPby8.out.through hW))) Try.underlying29 rfl (by rw [HYl.out]; kernel_rfl)) (by assumption) ?_
     simp only [Act.put, sq1, sq2, sq3]
     refine tkq (i := 2) (d := 105) (v := (.bool false)) rfl rfl (Or.inl ⟨by kernel_rfl, fun w hSw => ?_⟩) (by assumption) ?_
     ·(try dsimp only at hSw); go_simp <;> (try rfl)
     simp only [Act.put, sq1, sq2, sq3]
     refine tkq (i := 3) (d := 106) (v := (.bool false)) rfl rfl (Or.inl ⟨by kernel_rfl, fun w hSw => ?_⟩) (by assumption) ?_
     ·(try dsimp only at hSw); go_simp <;> (try rfl)
     simp only [Act.put, sq1, sq2, sq3]
     refine tkq (i := 4) (d := 107) (v := (.bool false)) rfl rfl (Or.inl ⟨by kernel_rfl, fun w hSw => ?_⟩) (by assumption) ?_
     ·(try dsimp only at hSw); go_simp <;> (try rfl)
     simp only [Act.put, sq1, sq2, sq3]
     refine tkq (i := 5) (d := 108) (v := (.bool false)) rfl rfl (Or.inl ⟨by kernel_rfl, fun w hSw => ?_⟩) (by assumption) ?_
     ·(try dsimp only at hSw); go_simp <;> (try rfl)
     simp only [Act.put, sq1, sq2, sq3]
     refine tkq (i := 6) (d := 109) (v := (.bool false)) rfl rfl (Or.inl ⟨by kernel_rfl, fun w hSw => ?_⟩) (by assumption) ?_
     ·(try dsimp only at hSw); go_simp <;> (try rfl)
     simp only [Act.put, sq1, sq2, sq3]
     refine tkq (i := 7) (d := 110) (v := (.bool false)) rfl rfl (Or.inl ⟨by kernel_rfl, fun w hSw => ?_⟩) (by assumption) ?_
     ·(try dsimp only at hSw); go_simp <;> (try rfl)
     simp only [Act.put, sq1, sq2, sq3]
     refine tkq (i := 8) (d := 111) (v := (.bool false)) rfl rfl (Or.inl ⟨by kernel_rfl, fun w hSw => ?_⟩) (by assumption) ?_
     ·(try dsimp only at hSw); go_simp <;> (try rfl)
     simp only [Act.put, sq1, sq2, sq3]
     refine tkq (i := 9) (d := 112) (v := (.agg (Vo.cells q).toArray)) rfl rfl (yieldsIf_load_mid (by kernel_rfl) 29 (.tmp 15) rfl y5.heap.size 0 (by simp [Act.eval]) (Vo.cells q) _ (fun W hW => Blk.range (pre := []) (post := []) (by simpa using (HPcy8.out.through hW))) Try.underlying29 rfl (by rw [HQl.out]; kernel_rfl)) (by assumption) ?_
     simp only [Act.put, sq1, sq2, sq3]
     refine tkq (i := 10) (d := 113) (v := (.agg (Vo.cells q).toArray)) rfl rfl (yieldsIf_load_mid (by kernel_rfl) 29 (.tmp 17) rfl y7.heap.size 0 (by simp [Act.eval]) (Vo.cells q) _ (fun W hW => Blk.range (pre := []) (post := []) (by simpa using (HPdy8.out.through hW))) Try.underlying29 rfl (by rw [HQl.out]; kernel_rfl)) (by assumption) ?_
     simp only [Act.put, sq1, sq2, sq3]
     refine tkq (i := 11) (d := 114) (v := (.bool false)) rfl rfl (Or.inl ⟨by kernel_rfl, fun w hSw => ?_⟩) (by assumption) ?_
     ·(try dsimp only at hSw); go_simp <;> (try rfl)
     simp only [Act.put, sq1, sq2, sq3]
     refine tkq (i := 12) (d := 115) (v := (.bool false)) rfl rfl (Or.inl ⟨by kernel_rfl, fun w hSw => ?_⟩) (by assumption) ?_
     ·(try dsimp only at hSw); go_simp <;> (try rfl)
     simp only [Act.put, sq1, sq2, sq3]
     refine tkq (i := 13) (d := 116) (v := (.bool false)) rfl rfl (Or.inl ⟨by kernel_rfl, fun w hSw => ?_⟩) (by assumption) ?_
     ·(try dsimp only at hSw); go_simp <;> (try rfl)
     simp only [Act.put, sq1, sq2, sq3]
     refine tkq (i := 14) (d := 117) (v := (.bool true)) rfl rfl (Or.inl ⟨by kernel_rfl, fun w hSw => ?_⟩) (by assumption) ?_
     ·(try dsimp only at hSw); go_simp <;> (try rfl)
     simp only [Act.put, sq1, sq2, sq3]
     refine tkq (i := 15) (d := 118) (v := (.bool false)) rfl rfl (Or.inl ⟨by kernel_rfl, fun w hSw => ?_⟩) (by assumption) ?_
     ·(try dsimp only at hSw); go_simp <;> (try rfl)
     simp only [Act.put, sq1, sq2, sq3]
     refine tkq (i := 16) (d := 119) (v := (.bool false)) rfl rfl (Or.inl ⟨by kernel_rfl, fun w hSw => ?_⟩) (by assumption) ?_
     ·(try dsimp only at hSw); go_simp <;> (try rfl)
     simp only [Act.put, sq1, sq2, sq3]
     refine tkq (i := 17) (d := 120) (v := (.bool false)) rfl rfl (Or.inl ⟨by kernel_rfl, fun w hSw => ?_⟩) (by assumption) ?_
     ·(try dsimp only at hSw); go_simp <;> (try rfl)
     simp only [Act.put, sq1, sq2, sq3]
     refine tkq (i := 18) (d := 121) (v := (.pointer (some ⟨g, 0, none⟩))) rfl rfl (Or.inl ⟨by kernel_rfl, fun w hSw => ?_⟩) (by assumption) ?_
     ·(try dsimp only at hSw); go_simp <;> (try rfl)
     simp only [Act.put, sq1, sq2, sq3]
     refine tkq (i := 20) (d := 123) (v := (.slice A2 R2.length c2)) rfl rfl (Or.inl ⟨by kernel_rfl, fun w hSw => ?_⟩) (by assumption) ?_
     ·(try dsimp only at hSw); go_simp <;> (try rfl)
     simp only [Act.put, sq1, sq2, sq3]
     refine tkq (i := 21) (d := 124) (v := (.int .i64 (R2.length : Int))) rfl rfl (Or.inl ⟨by kernel_rfl, fun w hSw => ?_⟩) (by assumption) ?_
     ·(try dsimp only at hSw); go_simp <;> (try rfl)
     simp only [Act.put, sq1, sq2, sq3]
     refine wpAnyH_ready (rs := [19]) (by kernel_rfl) (by simp) ?_
     refine AllReadyH.cons rfl (fun K hK => ?_) AllReadyH.nil
     go_simp
     refine (len_V (HJy8.out.through hHeld).tl).mono ?_
     rintro e z1 ⟨rfl, hw9⟩; subst hw9; rw [HLn.out]
     go_wp2_with fail
     refine hK.out _ _ hHeld (fun hHeld1 => ?_)
     clear hHeld hK K
     have hHeld := hHeld1
     clear hHeld1
     refine tkq (i := 22) (d := 125) (v := (.bool false)) rfl rfl (Or.inl ⟨by kernel_rfl, fun w hSw => ?_⟩) (by assumption) ?_
     ·(try dsimp only at hSw); go_simp <;> (try rfl)
     simp only [Act.put, sq1, sq2, sq3]
     refine tkq (i := 23) (d := 126) (v := (.bool false)) rfl rfl (Or.inl ⟨by kernel_rfl, fun w hSw => ?_⟩) (by assumption) ?_
     ·(try dsimp only at hSw); go_simp <;> (try rfl)
     simp only [Act.put, sq1, sq2, sq3]
     refine tkq (i := 24) (d := 127) (v := (.bool false)) rfl rfl (Or.inl ⟨by kernel_rfl, fun w hSw => ?_⟩) (by assumption) ?_
     ·(try dsimp only at hSw); go_simp <;> (try rfl)
     simp only [Act.put, sq1, sq2, sq3]
     refine tkq (i := 25) (d := 128) (v := (.pointer (some ⟨g, 0, none⟩))) rfl rfl (Or.inl ⟨by kernel_rfl, fun w hSw => ?_⟩) (by assumption) ?_
     ·(try dsimp only at hSw); go_simp <;> (try rfl)
     simp only [Act.put, sq1, sq2, sq3]
     refine tkq (i := 26) (d := 129) (v := (.agg (Vo.cells u).toArray)) rfl rfl (yieldsIf_load_mid (by kernel_rfl) 29 (.tmp 9) rfl w2.heap.size 0 (by simp [Act.eval]) (Vo.cells u) _ (fun W hW => Blk.range (pre := []) (post := []) (by simpa using (HUy8.out.through hW))) Try.underlying29 rfl (by rw [HUl.out]; kernel_rfl)) (by assumption) ?_
     simp only [Act.put, sq1, sq2, sq3]
     refine tkq (i := 28) (d := 131) (v := (.slice A2 R2.length c2)) rfl rfl (Or.inl ⟨by kernel_rfl, fun w hSw => ?_⟩) (by assumption) ?_
     ·(try dsimp only at hSw); go_simp <;> (try rfl)
     simp only [Act.put, sq1, sq2, sq3]
     refine tkq (i := 29) (d := 132) (v := (.agg (Vo.cells u).toArray)) rfl rfl (yieldsIf_load_mid (by kernel_rfl) 29 (.tmp 9) rfl w2.heap.size 0 (by simp [Act.eval]) (Vo.cells u) _ (fun W hW => Blk.range (pre := []) (post := []) (by simpa using (HUy8.out.through hW))) Try.underlying29 rfl (by rw [HUl.out]; kernel_rfl)) (by assumption) ?_
     simp only [Act.put, sq1, sq2, sq3]
     refine wpAnyH_ready (rs := [27]) (by kernel_rfl) (by simp) ?_
     refine AllReadyH.cons rfl (fun K hK => ?_) AllReadyH.nil
     go_simp
     refine (cnt_V u (HJy8.out.through hHeld).tl HUk.out).mono ?_
     rintro e z2 ⟨rfl, hb9⟩; rw [HCn.out]; have X2 := Lib.hid (below_step hHeld hb9); clear hb9
     go_wp2_with fail
     refine hK.out _ _ X2.out (fun hHeld1 => ?_)
     clear hHeld hK K
     have hHeld := hHeld1
     clear hHeld1
     refine wpAnyH_ready (rs := [30]) (by kernel_rfl) (by simp) ?_
     refine AllReadyH.cons rfl (fun K hK => ?_) AllReadyH.nil
     go_simp
     refine (rwho_any_ R2 u A2 R2.length c2 _ (HJy8.out.through hHeld).on HR2.out HUk.out).mono ?_
     rintro e z3 ⟨A3, n3, c3, rfl, hi9, hl9, hb9⟩; rw [show n3 = cn from by rw [← HCn.out, ← HRe2.out.cnt u]; exact hi9.len.symm]; have X3 := Lib.hid (below_step hHeld hb9); clear hb9; clear hi9 hl9
     go_wp2_with fail
     refine hK.out _ _ X3.out (fun hHeld1 => ?_)
     clear hHeld hK K
     have hHeld := hHeld1
     clear hHeld1
     refine tkq (i := 31) (d := 134) (v := (.int .i64 (cn : Int))) rfl rfl (Or.inl ⟨by kernel_rfl, fun w hSw => ?_⟩) (by assumption) ?_
     ·(try dsimp only at hSw); go_simp <;> (try rfl)
     simp only [Act.put, sq1, sq2, sq3]
     refine tkq (i := 32) (d := 135) (v := (.bool false)) rfl rfl (Or.inl ⟨by kernel_rfl, fun w hSw => ?_⟩) (by assumption) ?_
     ·(try dsimp only at hSw); go_simp <;> (try rfl)
     simp only [Act.put, sq1, sq2, sq3]
     refine tkq (i := 33) (d := 136) (v := (.bool false)) rfl rfl (Or.inl ⟨by kernel_rfl, fun w hSw => ?_⟩) (by assumption) ?_
     ·(try dsimp only at hSw); go_simp <;> (try rfl)
     simp only [Act.put, sq1, sq2, sq3]
     refine tkq (i := 34) (d := 137) (v := (.bool false)) rfl rfl (Or.inl ⟨by kernel_rfl, fun w hSw => ?_⟩) (by assumption) ?_
     ·(try dsimp only at hSw); go_simp <;> (try rfl)
     simp only [Act.put, sq1, sq2, sq3]
     refine tkq (i := 35) (d := 138) (v := (.pointer (some ⟨g, 0, none⟩))) rfl rfl (Or.inl ⟨by kernel_rfl, fun w hSw => ?_⟩) (by assumption) ?_
     ·(try dsimp only at hSw); go_simp <;> (try rfl)
     simp only [Act.put, sq1, sq2, sq3]
     refine tkq (i := 36) (d := 139) (v := (.pointer (some ⟨wr.heap.size, 2, none⟩))) rfl rfl (Or.inl ⟨by kernel_rfl, fun w hSw => ?_⟩) (by assumption) ?_
     ·(try dsimp only at hSw); go_simp <;> (try rfl)
     simp only [Act.put, sq1, sq2, sq3]
     refine tkq (i := 37) (d := 140) (v := (.agg (Vo.cells x.v).toArray)) rfl rfl (yieldsIf_load_mid (by kernel_rfl) 29 (.tmp 139) rfl wr.heap.size 2 (by simp [Act.eval]) (Vo.cells x.v) _ (fun W hW => ac_v (HBy8.out.through hW)) Try.underlying29 rfl (by rw [HVl.out]; kernel_rfl)) (by assumption) ?_
     simp only [Act.put, sq1, sq2, sq3]
     refine tkq (i := 39) (d := 142) (v := (.slice A2 R2.length c2)) rfl rfl (Or.inl ⟨by kernel_rfl, fun w hSw => ?_⟩) (by assumption) ?_
     ·(try dsimp only at hSw); go_simp <;> (try rfl)
     simp only [Act.put, sq1, sq2, sq3]
     refine tkq (i := 40) (d := 143) (v := (.pointer (some ⟨wr.heap.size, 2, none⟩))) rfl rfl (Or.inl ⟨by kernel_rfl, fun w hSw => ?_⟩) (by assumption) ?_
     ·(try dsimp only at hSw); go_simp <;> (try rfl)
     simp only [Act.put, sq1, sq2, sq3]
     refine tkq (i := 41) (d := 144) (v := (.agg (Vo.cells x.v).toArray)) rfl rfl (yieldsIf_load_mid (by kernel_rfl) 29 (.tmp 143) rfl wr.heap.size 2 (by simp [Act.eval]) (Vo.cells x.v) _ (fun W hW => ac_v (HBy8.out.through hW)) Try.underlying29 rfl (by rw [HVl.out]; kernel_rfl)) (by assumption) ?_
     simp only [Act.put, sq1, sq2, sq3]
     refine wpAnyH_ready (rs := [38]) (by kernel_rfl) (by simp) ?_
     refine AllReadyH.cons rfl (fun K hK => ?_) AllReadyH.nil
     go_simp
     refine (who_V x.v (HJy8.out.through hHeld).tl HOk.out.dg HIn2.out HM2.out).mono ?_
     rintro e z4 ⟨A4, n4, c4, rfl, hn9, hc9, hi9, hb9⟩; have HI4 := Lib.hid hi9; have X4 := Lib.hid (below_step hHeld hb9); clear hb9; clear hn9 hc9 hi9
     go_wp2_with fail
     refine hK.out _ _ X4.out (fun hHeld1 => ?_)
     clear hHeld hK K
     have hHeld := hHeld1
     clear hHeld1
     refine wpAnyH_ready (rs := [42]) (by kernel_rfl) (by simp) ?_
     refine AllReadyH.cons rfl (fun K hK => ?_) AllReadyH.nil
     go_simp
     refine (rwho_any_ R2 x.v A2 R2.length c2 _ (HJy8.out.through hHeld).on HR2.out HOk.out.dg).mono ?_
     rintro e z5 ⟨A5, n5, c5, rfl, hi9, hl9, hb9⟩; rw [HWq.out] at hi9; have HI5 := Lib.hid hi9; have HI6 := Lib.hid (HI4.out.through hb9); have X5 := Lib.hid (below_step hHeld hb9); clear hb9; clear hi9 hl9
     go_wp2_with fail
     refine hK.out _ _ X5.out (fun hHeld1 => ?_)
     clear hHeld hK K
     have hHeld := hHeld1
     clear hHeld1
     refine wpAnyH_ready (rs := [43]) (by kernel_rfl) (by simp) ?_
     refine AllReadyH.cons rfl (fun K hK => ?_) AllReadyH.nil
     go_simp
     refine (sameints_any (whoG M2 voZ x.v (sKeys M2)) (whoG M2 voZ x.v (sKeys M2)) A4 n4 c4 A5 n5 c5 _ HI6.out HI5.out (by have h1 := HI6.out.len; have h2 := whoG_len M2 voZ x.v (sKeys M2); rw [sKeys_len] at h2; have := HM2.out; omega)).mono ?_
     rintro e z6 ⟨rfl, hb9⟩; rw [beq_self_eq_true]; have X6 := Lib.hid (below_step hHeld hb9); clear hb9
     go_wp2_with fail
     refine hK.out _ _ X6.out (fun hHeld1 => ?_)
     clear hHeld hK K
     have hHeld := hHeld1
     clear hHeld1
     refine tkq (i := 44) (d := 147) (v := (.bool false)) rfl rfl (Or.inl ⟨by kernel_rfl, fun w hSw => ?_⟩) (by assumption) ?_
     ·(try dsimp only at hSw); go_simp <;> (try rfl)
     simp only [Act.put, sq1, sq2, sq3]
     refine tkq (i := 45) (d := 148) (v := (.bool false)) rfl rfl (Or.inl ⟨by kernel_rfl, fun w hSw => ?_⟩) (by assumption) ?_
     ·(try dsimp only at hSw); go_simp <;> (try rfl)
     simp only [Act.put, sq1, sq2, sq3]
     refine wpAnyH_done (by kernel_rfl) ?_ _
     go_wp2_with fail
     go_roundw
     case rel => exact ⟨i + 1, M2, R2, by omega, by go_num, HJy8.out.through X6.out, HRe2.out, HMi2.out, HIn2.out⟩
     case measure => simp [intOf]; omega
  ·go_wp2
   go_ret
   exact ⟨rfl, HX.out⟩

end Go.Proofs.Ytkpgjcahmpekbaa
