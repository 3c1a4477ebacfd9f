/-
  The program's policy: what it answers is proP's.
-/
import Derived.Test.YtnpobhgecfjfgaaDoorPK
import Derived.Test.YtnpobhgecfjfgaaDoorPHow
namespace Go.Proofs.YtnpobhgecfjfgaaDoor
open Go.RowKit

set_option maxHeartbeats 2000000 in
set_option maxRecDepth 100000 in
theorem ppol_zero (g : Nat) (t : List UInt8) (w : World) (hb : Blk w g 39 [.string (ba t)]) :
    Calls Tryd.prog 15 #[.pointer (some ⟨g, 0, none⟩), .int .i64 11] w fun e w' => PQOut g w.heap.size (proP 0 t) e w' ∧ w.grownBy w' (some g) := by
  have HX := Lib.hid (only_below (g := g) ((Below.refl _ w).alloc (Nat.le_refl _) (.cells #[.int .i64 0, .int .i64 0, .slice none 0 0] 25)))
  have HB : Hid (Blk (w.alloc (.cells #[.int .i64 0, .int .i64 0, .slice none 0 0] 25)) w.heap.size 25 [.int .i64 0, .int .i64 0, .slice none 0 0]) := Lib.hid (Blk.fresh rfl rfl)
  have HPb := Lib.hid (hb.alloc (.cells #[.int .i64 0, .int .i64 0, .slice none 0 0] 25))
  have hgw : g ≠ w.heap.size := by have := hb.lt; omega
  clear hb
  go_enter Tryd.func15, Tryd.ntmps15
  go_wp2_with (first
    | (refine wpList_store_blk rfl 25 (.tmp 4) (.tmp 15) rfl w.heap.size [.int .i64 0, .int .i64 0, .slice none 0 0] rfl rfl 25 [.int .i64 0, .int .i64 0, .slice none 0 0] HB.out (by kernel_rfl) rfl (one3 _ _ _ _ _) ?_; intro wr hbr hgr; have HBr := Lib.hid hbr; have HGr := Lib.hid hgr; have HPr := Lib.hid (HPb.out.grown hgr (fun e => hgw (Option.some.inj e))); have HXr := Lib.hid (only_row' HX.out hgr (fun j hj => by have := Option.some.inj hj; omega)); clear hbr hgr))
  (try simp only [Exit.inBlock, Exit.then]); refine bodyPost_ret (results_cell_row_tmp1 rfl _ _ w.heap.size 25 _ (0, 0) _ rfl HBr.out Tryd.underlying25 rfl (by kernel_rfl)) rfl ?_
  exact ⟨PQOut.mk_bad rfl HPr.out, HXr.out⟩

set_option maxHeartbeats 8000000 in
set_option maxRecDepth 100000 in
theorem ppol_step (k : Nat) (d : Int) (hd : 0 ≤ d ∧ d ≤ 10) (g : Nat)
    (hP : ∀ (t : List UInt8) (w : World), Blk w g 39 [.string (ba t)] → EV w → t.length ≤ 1000 → Calls Tryd.prog 15 #[.pointer (some ⟨g, 0, none⟩), .int .i64 (d + 1)] w fun e w' => PQOut g w.heap.size (proP k t) e w' ∧ w.grownBy w' (some g))
    (t : List UInt8) (w : World) (hb : Blk w g 39 [.string (ba t)]) (he : EV w) (ht : t.length ≤ 1000) :
    Calls Tryd.prog 15 #[.pointer (some ⟨g, 0, none⟩), .int .i64 d] w fun e w' => PQOut g w.heap.size (proP (k + 1) t) e w' ∧ w.grownBy w' (some g) := by
  have hpro := proP_succ k t
  have hli := ba_list
  have c4 : (⟨#[]⟩ : ByteArray).toList = [] := ba_list _
  have hg0 := he.ne hb
  have hgw : g ≠ w.heap.size := by have := hb.lt; omega
  have HX := Lib.hid (only_below (g := g) ((Below.refl _ w).alloc (Nat.le_refl _) (.cells #[.int .i64 0, .int .i64 0, .slice none 0 0] 25)))
  have HB : Hid (Blk (w.alloc (.cells #[.int .i64 0, .int .i64 0, .slice none 0 0] 25)) w.heap.size 25 [.int .i64 0, .int .i64 0, .slice none 0 0]) := Lib.hid (Blk.fresh rfl rfl)
  have HPb := Lib.hid (hb.alloc (.cells #[.int .i64 0, .int .i64 0, .slice none 0 0] 25))
  have HE := Lib.hid (he.alloc (.cells #[.int .i64 0, .int .i64 0, .slice none 0 0] 25))
  have hrd := fun (W : World) h => runD g t W h
  rw [spanP_dg] at hrd
  have hrl := fun (W : World) h => runL g (t1Q t) W h
  have hl1 : (t1Q t).length ≤ t.length := by unfold t1Q; have := bareP_len (t.drop (digP t).length); rw [List.length_drop] at this; omega
  have hl2 : (t2Q t).length ≤ t.length := by unfold t2Q; have := bareP_len ((t1Q t).drop (wQ t).length); rw [List.length_drop] at this; omega
  have hdl := digP_le t
  have hdg : ∀ x, x ∈ digP t → isDg x = true := fun x hx => digP_mem hx
  have hkc := fun (W : World) h he => pkids_any k (d + 1) g hP (t2Q t) W h he (by omega)
  have HKids := Lib.hid hkc
  have HRD : Hid (∀ (W : World), Blk W g 39 [.string (ba t)] → Calls Tryd.prog 26 #[.pointer (some ⟨g, 0, none⟩), .func (.func 27) #[] #[]] W fun e w' => e = .returned (.string (ba (digP t))) ∧ Blk w' g 39 [.string (ba (t1Q t))] ∧ W.grownBy w' (some g)) := Lib.hid hrd
  have HRL : Hid (∀ (W : World), Blk W g 39 [.string (ba (t1Q t))] → Calls Tryd.prog 26 #[.pointer (some ⟨g, 0, none⟩), .func (.func 28) #[] #[]] W fun e w' => e = .returned (.string (ba (wQ t))) ∧ Blk w' g 39 [.string (ba (t2Q t))] ∧ W.grownBy w' (some g)) := Lib.hid hrl
  clear hb he hP hrd hrl hkc hl1
  generalize digP t = dd at *
  generalize t1Q t = t1 at *
  generalize wQ t = u at *
  generalize t2Q t = t2 at *
  go_enter Tryd.func15, Tryd.ntmps15
  cases u with
  | nil =>
    rw [if_pos rfl] at hpro
    have hnum := fun (W : World) he => pnum_any dd hdg (by omega) W he
    cases hn : numD dd with
    | none =>
      rw [hn] at hpro
      simp only at hpro
      have HFin := Lib.hid hpro
      have e1 : numDV dd = 0 := by unfold numDV; rw [hn]
      rw [hn, e1] at hnum
      have HN : Hid (∀ W, EV W → Calls Tryd.prog 29 #[.string (ba dd)] W fun e w' => e = .returned (.tuple #[.int .i64 0, .bool false]) ∧ Below W.heap.size W w') := Lib.hid hnum
      clear hpro hn e1 hnum
      go_wp2_with (first
        | (go_at_call 26; (with_reducible refine (HRD.out _ HPb.out).mono ?_); rintro e w1 ⟨rfl, hb1, hg1⟩; have HP1 := Lib.hid hb1; have HX1 := Lib.hid (only_trans HX.out hg1); have HB1 := Lib.hid (HB.out.grown hg1 (fun e => hgw (Option.some.inj e).symm)); have HE1 := Lib.hid (HE.out.only hg1 hg0); clear hb1 hg1)
        | (go_at_call 26; (with_reducible refine (HRL.out _ HP1.out).mono ?_); rintro e w2 ⟨rfl, hb2, hg2⟩; have HP2 := Lib.hid hb2; have HX2 := Lib.hid (only_trans HX1.out hg2); have HB2 := Lib.hid (HB1.out.grown hg2 (fun e => hgw (Option.some.inj e).symm)); have HE2 := Lib.hid (HE1.out.only hg2 hg0); clear hb2 hg2)
        | (go_at_call 29; (with_reducible refine (HN.out _ HE2.out).mono ?_); rintro e w3 ⟨rfl, hb⟩; have HP3 := Lib.hid (HP2.out.through hb); have HX3 := Lib.hid (only_trans HX2.out (only_below hb)); have HB3 := Lib.hid (HB2.out.through hb); clear hb)
        | (refine wpList_store_blk rfl 25 (.tmp 4) (.tmp 28) rfl w.heap.size [.int .i64 0, .int .i64 0, .slice none 0 0] rfl rfl 25 [.int .i64 0, .int .i64 0, .slice none 0 0] HB3.out (by kernel_rfl) rfl (one3 _ _ _ _ _) ?_; intro wr hbr hgr; have HBr := Lib.hid hbr; have HGr := Lib.hid hgr; have HPr := Lib.hid (HP3.out.grown hgr (fun e => hgw (Option.some.inj e))); have HXr := Lib.hid (only_row' HX3.out hgr (fun j hj => by have := Option.some.inj hj; omega)); clear hbr hgr))
      (try simp only [Exit.inBlock, Exit.then]); refine bodyPost_ret (results_cell_row_tmp1 rfl _ _ w.heap.size 25 _ (0, 0) _ rfl HBr.out Tryd.underlying25 rfl (by kernel_rfl)) rfl ?_
      exact ⟨PQOut.mk_bad HFin.out HPr.out, HXr.out⟩
    | some v =>
      have hv9 := numD_lt hdg hn
      rw [hn] at hpro
      simp only at hpro
      have HFin := Lib.hid hpro
      have e1 : numDV dd = (v : Int) := by unfold numDV; rw [hn]
      rw [hn, e1] at hnum
      have HN : Hid (∀ W, EV W → Calls Tryd.prog 29 #[.string (ba dd)] W fun e w' => e = .returned (.tuple #[.int .i64 (v : Int), .bool true]) ∧ Below W.heap.size W w') := Lib.hid hnum
      clear hpro hn e1 hnum
      go_wp2_with (first
        | (go_at_call 26; (with_reducible refine (HRD.out _ HPb.out).mono ?_); rintro e w1 ⟨rfl, hb1, hg1⟩; have HP1 := Lib.hid hb1; have HX1 := Lib.hid (only_trans HX.out hg1); have HB1 := Lib.hid (HB.out.grown hg1 (fun e => hgw (Option.some.inj e).symm)); have HE1 := Lib.hid (HE.out.only hg1 hg0); clear hb1 hg1)
        | (go_at_call 26; (with_reducible refine (HRL.out _ HP1.out).mono ?_); rintro e w2 ⟨rfl, hb2, hg2⟩; have HP2 := Lib.hid hb2; have HX2 := Lib.hid (only_trans HX1.out hg2); have HB2 := Lib.hid (HB1.out.grown hg2 (fun e => hgw (Option.some.inj e).symm)); have HE2 := Lib.hid (HE1.out.only hg2 hg0); clear hb2 hg2)
        | (go_at_call 29; (with_reducible refine (HN.out _ HE2.out).mono ?_); rintro e w3 ⟨rfl, hb⟩; have HP3 := Lib.hid (HP2.out.through hb); have HX3 := Lib.hid (only_trans HX2.out (only_below hb)); have HB3 := Lib.hid (HB2.out.through hb); clear hb)
        | (refine wpList_store_blk rfl 25 (.tmp 4) (.tmp 28) rfl w.heap.size [.int .i64 (v : Int), .int .i64 0, .slice none 0 0] rfl rfl 25 [.int .i64 0, .int .i64 0, .slice none 0 0] HB3.out (by kernel_rfl) rfl (one3 _ _ _ _ _) ?_; intro wr hbr hgr; have HBr := Lib.hid hbr; have HGr := Lib.hid hgr; have HPr := Lib.hid (HP3.out.grown hgr (fun e => hgw (Option.some.inj e))); have HXr := Lib.hid (only_row' HX3.out hgr (fun j hj => by have := Option.some.inj hj; omega)); clear hbr hgr))
      (try simp only [Exit.inBlock, Exit.then]); refine bodyPost_ret (results_cell_row_tmp1 rfl _ _ w.heap.size 25 _ (0, 0) _ rfl HBr.out Tryd.underlying25 rfl (by kernel_rfl)) rfl ?_
      exact ⟨PQOut.mk_good HFin.out ⟨rfl, by omega, fun h0 => absurd h0 (by omega)⟩ HPr.out, HXr.out⟩
  | cons x u =>
    rw [if_neg (by simp)] at hpro
    have hhow := fun (n : Nat) (W : World) he => how_any dd (x :: u) n hdg (by omega) W he
    have HH := Lib.hid hhow
    have hub : ((x :: u) == ([] : List UInt8)) = false := rfl
    clear hhow
    cases hk : kidsQ (proP k) t2 with
    | none =>
      rw [hk] at hpro
      simp only at hpro
      have HFin := Lib.hid hpro
      have HKp := Lib.hid hk
      have HK := HKids
      clear hpro hk
      go_wp2_with (first
        | (go_at_call 26; (with_reducible refine (HRD.out _ HPb.out).mono ?_); rintro e w1 ⟨rfl, hb1, hg1⟩; have HP1 := Lib.hid hb1; have HX1 := Lib.hid (only_trans HX.out hg1); have HB1 := Lib.hid (HB.out.grown hg1 (fun e => hgw (Option.some.inj e).symm)); have HE1 := Lib.hid (HE.out.only hg1 hg0); clear hb1 hg1)
        | (go_at_call 26; (with_reducible refine (HRL.out _ HP1.out).mono ?_); rintro e w2 ⟨rfl, hb2, hg2⟩; have HP2 := Lib.hid hb2; have HX2 := Lib.hid (only_trans HX1.out hg2); have HB2 := Lib.hid (HB1.out.grown hg2 (fun e => hgw (Option.some.inj e).symm)); have HE2 := Lib.hid (HE1.out.only hg2 hg0); clear hb2 hg2)
        | (go_at_call 30; (with_reducible refine (HK.out _ HP2.out HE2.out).mono ?_); rintro e w3 ⟨ho, hg3⟩; obtain ⟨⟨A, n, c, rfl⟩, s, hb3⟩ := KQOut.bad ho HKp.out; have HP3 := Lib.hid hb3; have HX3 := Lib.hid (only_trans HX2.out hg3); have HB3 := Lib.hid (HB2.out.grown hg3 (fun e => hgw (Option.some.inj e).symm)); clear ho hb3 hg3)
        | (refine wpList_store_blk rfl 25 (.tmp 4) (.tmp 39) rfl w.heap.size [.int .i64 0, .int .i64 0, .slice none 0 0] rfl rfl 25 [.int .i64 0, .int .i64 0, .slice none 0 0] HB3.out (by kernel_rfl) rfl (one3 _ _ _ _ _) ?_; intro wr hbr hgr; have HBr := Lib.hid hbr; have HGr := Lib.hid hgr; have HPr := Lib.hid (HP3.out.grown hgr (fun e => hgw (Option.some.inj e))); have HXr := Lib.hid (only_row' HX3.out hgr (fun j hj => by have := Option.some.inj hj; omega)); clear hbr hgr))
      (try simp only [Exit.inBlock, Exit.then]); refine bodyPost_ret (results_cell_row_tmp1 rfl _ _ w.heap.size 25 _ (0, 0) _ rfl HBr.out Tryd.underlying25 rfl (by kernel_rfl)) rfl ?_
      exact ⟨PQOut.mk_bad HFin.out HPr.out, HXr.out⟩
    | some q =>
      obtain ⟨l, r⟩ := q
      rw [hk] at hpro
      simp only at hpro
      have HKp := Lib.hid hk
      have HK := HKids
      clear hk
      cases hq : howQ dd (x :: u) l.length with
      | none =>
        rw [hq] at hpro
        have HFin := Lib.hid hpro
        have HQ := Lib.hid hq
        clear hpro hq
        go_wp2_with (first
          | (go_at_call 26; (with_reducible refine (HRD.out _ HPb.out).mono ?_); rintro e w1 ⟨rfl, hb1, hg1⟩; have HP1 := Lib.hid hb1; have HX1 := Lib.hid (only_trans HX.out hg1); have HB1 := Lib.hid (HB.out.grown hg1 (fun e => hgw (Option.some.inj e).symm)); have HE1 := Lib.hid (HE.out.only hg1 hg0); clear hb1 hg1)
          | (go_at_call 26; (with_reducible refine (HRL.out _ HP1.out).mono ?_); rintro e w2 ⟨rfl, hb2, hg2⟩; have HP2 := Lib.hid hb2; have HX2 := Lib.hid (only_trans HX1.out hg2); have HB2 := Lib.hid (HB1.out.grown hg2 (fun e => hgw (Option.some.inj e).symm)); have HE2 := Lib.hid (HE1.out.only hg2 hg0); clear hb2 hg2)
          | (go_at_call 30; (with_reducible refine (HK.out _ HP2.out HE2.out).mono ?_); rintro e w3 ⟨ho, hg3⟩; obtain ⟨⟨A, c, rfl, hin⟩, hb3⟩ := KQOut.good ho HKp.out; have HLt := Lib.hid HB2.out.lt; have HIN := Lib.hid hin; have HP3 := Lib.hid hb3; have HX3 := Lib.hid (only_trans HX2.out hg3); have HB3 := Lib.hid (HB2.out.grown hg3 (fun e => hgw (Option.some.inj e).symm)); have HE3 := Lib.hid (HE2.out.only hg3 hg0); clear ho hb3 hg3 hin)
          | (go_at_call 31; (with_reducible refine (HH.out _ _ HE3.out).mono ?_); rintro e w4 ⟨ho, hb⟩; obtain ⟨v, rfl⟩ := HowOut.bad ho HQ.out; have HP4 := Lib.hid (HP3.out.through hb); have HX4 := Lib.hid (only_trans HX3.out (only_below hb)); have HB4 := Lib.hid (HB3.out.through hb); have HI4 := Lib.hid (fun o a => (HIN.out o a).through hb); clear ho hb)
          | (refine wpList_store_blk rfl 25 (.tmp 4) (.tmp 50) rfl w.heap.size [.int .i64 0, .int .i64 v, .slice A l.length c] rfl rfl 25 [.int .i64 0, .int .i64 0, .slice none 0 0] HB4.out (by kernel_rfl) rfl (one3 _ _ _ _ _) ?_; intro wr hbr hgr; have HBr := Lib.hid hbr; have HGr := Lib.hid hgr; have HPr := Lib.hid (HP4.out.grown hgr (fun e => hgw (Option.some.inj e))); have HXr := Lib.hid (only_row' HX4.out hgr (fun j hj => by have := Option.some.inj hj; omega)); clear hbr hgr))
        (try simp only [Exit.inBlock, Exit.then]); refine bodyPost_ret (results_cell_row_tmp1 rfl _ _ w.heap.size 25 _ (0, 0) _ rfl HBr.out Tryd.underlying25 rfl (by kernel_rfl)) rfl ?_
        exact ⟨PQOut.mk_bad HFin.out HPr.out, HXr.out⟩
      | some a =>
        rw [hq] at hpro
        have HFin := Lib.hid hpro
        have HQ := Lib.hid hq
        clear hpro hq
        go_wp2_with (first
          | (go_at_call 26; (with_reducible refine (HRD.out _ HPb.out).mono ?_); rintro e w1 ⟨rfl, hb1, hg1⟩; have HP1 := Lib.hid hb1; have HX1 := Lib.hid (only_trans HX.out hg1); have HB1 := Lib.hid (HB.out.grown hg1 (fun e => hgw (Option.some.inj e).symm)); have HE1 := Lib.hid (HE.out.only hg1 hg0); clear hb1 hg1)
          | (go_at_call 26; (with_reducible refine (HRL.out _ HP1.out).mono ?_); rintro e w2 ⟨rfl, hb2, hg2⟩; have HP2 := Lib.hid hb2; have HX2 := Lib.hid (only_trans HX1.out hg2); have HB2 := Lib.hid (HB1.out.grown hg2 (fun e => hgw (Option.some.inj e).symm)); have HE2 := Lib.hid (HE1.out.only hg2 hg0); clear hb2 hg2)
          | (go_at_call 30; (with_reducible refine (HK.out _ HP2.out HE2.out).mono ?_); rintro e w3 ⟨ho, hg3⟩; obtain ⟨⟨A, c, rfl, hin⟩, hb3⟩ := KQOut.good ho HKp.out; have HLt := Lib.hid HB2.out.lt; have HIN := Lib.hid hin; have HP3 := Lib.hid hb3; have HX3 := Lib.hid (only_trans HX2.out hg3); have HB3 := Lib.hid (HB2.out.grown hg3 (fun e => hgw (Option.some.inj e).symm)); have HE3 := Lib.hid (HE2.out.only hg3 hg0); clear ho hb3 hg3 hin)
          | (go_at_call 31; (with_reducible refine (HH.out _ _ HE3.out).mono ?_); rintro e w4 ⟨ho, hb⟩; obtain rfl := HowOut.good ho HQ.out; have HP4 := Lib.hid (HP3.out.through hb); have HX4 := Lib.hid (only_trans HX3.out (only_below hb)); have HB4 := Lib.hid (HB3.out.through hb); have HI4 := Lib.hid (fun o a => (HIN.out o a).through hb); clear ho hb)
          | (refine wpList_store_blk rfl 25 (.tmp 4) (.tmp 50) rfl w.heap.size [.int .i64 0, .int .i64 (a : Int), .slice A l.length c] rfl rfl 25 [.int .i64 0, .int .i64 0, .slice none 0 0] HB4.out (by kernel_rfl) rfl (one3 _ _ _ _ _) ?_; intro wr hbr hgr; have HBr := Lib.hid hbr; have HGr := Lib.hid hgr; have HPr := Lib.hid (HP4.out.grown hgr (fun e => hgw (Option.some.inj e))); have HXr := Lib.hid (only_row' HX4.out hgr (fun j hj => by have := Option.some.inj hj; omega)); clear hbr hgr))
        (try simp only [Exit.inBlock, Exit.then]); refine bodyPost_ret (results_cell_row_tmp1 rfl _ _ w.heap.size 25 _ (0, 0) _ rfl HBr.out Tryd.underlying25 rfl (by kernel_rfl)) rfl ?_
        exact ⟨PQOut.mk_good HFin.out (((HI4.out _ _).past HGr.out HLt.out).from_ (Nat.le_of_lt HLt.out)) HPr.out, HXr.out⟩

theorem ppol_all (g : Nat) : ∀ (k : Nat) (d : Int), d = 11 - (k : Int) → k ≤ 10 → ∀ (t : List UInt8) (w : World), Blk w g 39 [.string (ba t)] → EV w → t.length ≤ 1000 →
    Calls Tryd.prog 15 #[.pointer (some ⟨g, 0, none⟩), .int .i64 d] w fun e w' => PQOut g w.heap.size (proP k t) e w' ∧ w.grownBy w' (some g)
  | 0, d, hd, _, t, w, hb, _, _ => by
    have e : d = 11 := by omega
    rw [e]
    exact ppol_zero g t w hb
  | k + 1, d, hd, hk, t, w, hb, he, ht => ppol_step k d (by omega) g (fun t w hb he ht => ppol_all g k (d + 1) (by omega) (by omega) t w hb he ht) t w hb he ht

end Go.Proofs.YtnpobhgecfjfgaaDoor
