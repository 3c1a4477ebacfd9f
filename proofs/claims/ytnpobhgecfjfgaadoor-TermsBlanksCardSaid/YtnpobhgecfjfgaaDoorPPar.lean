/-
  The program's Parse.
-/
import Derived.Test.YtnpobhgecfjfgaaDoorPPol
import Derived.Test.YtnpobhgecfjfgaaDoorRPar
import Derived.Test.YtnpobhgecfjfgaaDoorTC
namespace Go.Proofs.YtnpobhgecfjfgaaDoor
open Go.RowKit

theorem polP_bare (k : Nat) (t : List UInt8) : polP (k + 1) (bareP t) = polP (k + 1) t := by rw [polP_succ, polP_succ, bareP_idem]

set_option maxHeartbeats 8000000 in
set_option maxRecDepth 100000 in
theorem pparse_any (t : List UInt8) (n : Int) (w : World) (ht : t.length ≤ 1000) (he : EV w) :
    Calls Tryd.prog 7 #[.string (ba t), .int .i64 n] w fun e w' => ParseOut w.heap.size (parseP t n) e w' ∧ Below w.heap.size w w' := by
  have hsz := ba_size
  have hli := ba_list
  have hnil := ba_nil
  go_enter Tryd.func7, Tryd.ntmps7
  by_cases hlong : 200 < t.length
  · have HFin := Lib.hid (parse_long (n := n) hlong)
    have HX : Hid (Below w.heap.size w (w.alloc (.cells #[.int .i64 0, .int .i64 0, .slice none 0 0] 25))) := Lib.hid ((Below.refl _ w).alloc (Nat.le_refl _) _)
    have HB : Hid (Blk (w.alloc (.cells #[.int .i64 0, .int .i64 0, .slice none 0 0] 25)) w.heap.size 25 [.int .i64 0, .int .i64 0, .slice none 0 0]) := Lib.hid (Blk.fresh rfl rfl)
    go_wp2_with (first
      | (refine wpList_store_blk rfl 25 (.tmp 4) (.tmp 13) rfl w.heap.size [.int .i64 0, .int .i64 0, .slice none 0 0] rfl rfl 25 [.int .i64 0, .int .i64 0, .slice none 0 0] HB.out (by kernel_rfl) rfl (one3 _ _ _ _ _) ?_; intro wr hbr hgr; have HBr := Lib.hid hbr; have HGr := Lib.hid hgr; have HXr := Lib.hid (below_block HX.out hgr (Nat.le_refl _) (Nat.le_refl _)); clear hbr hgr))
    (try simp only [Exit.inBlock, Exit.then]); refine bodyPost_ret (results_cell_row_tmp1 rfl _ _ w.heap.size 25 _ (0, 0) _ rfl HBr.out Tryd.underlying25 rfl (by kernel_rfl)) rfl ?_
    exact ⟨ParseOut.err HFin.out, HXr.out⟩
  · have hl9 : t.length ≤ 200 := by omega
    have HX : Hid (Below w.heap.size w ((w.alloc (.cells #[.int .i64 0, .int .i64 0, .slice none 0 0] 25)).alloc (.cells #[.string (ba t)] 39))) := Lib.hid (((Below.refl _ w).alloc (Nat.le_refl _) _).alloc (by simp) _)
    have HB : Hid (Blk ((w.alloc (.cells #[.int .i64 0, .int .i64 0, .slice none 0 0] 25)).alloc (.cells #[.string (ba t)] 39)) w.heap.size 25 [.int .i64 0, .int .i64 0, .slice none 0 0]) := Lib.hid ((Blk.fresh (w := w) (g := w.heap.size) (t := 25) (cs := [.int .i64 0, .int .i64 0, .slice none 0 0]) rfl rfl).alloc _)
    have HP : Hid (Blk ((w.alloc (.cells #[.int .i64 0, .int .i64 0, .slice none 0 0] 25)).alloc (.cells #[.string (ba t)] 39)) (w.heap.size + 1) 39 [.string (ba t)]) := Lib.hid (Blk.fresh (by simp) rfl)
    have HE := Lib.hid ((he.alloc (.cells #[.int .i64 0, .int .i64 0, .slice none 0 0] 25)).alloc (.cells #[.string (ba t)] 39))
    have hg0 := HE.out.ne HP.out
    have HBl := Lib.hid (fun (W : World) h => blanks_any (w.heap.size + 1) t W h)
    have hbl := bareP_len t
    have hpl : ∀ (W : World), Blk W (w.heap.size + 1) 39 [.string (ba (bareP t))] → EV W → Calls Tryd.prog 15 #[.pointer (some ⟨w.heap.size + 1, 0, none⟩), .int .i64 1] W fun e w' => PQOut (w.heap.size + 1) W.heap.size (proP 10 (bareP t)) e w' ∧ W.grownBy w' (some (w.heap.size + 1)) := fun W h1 h2 => ppol_all (w.heap.size + 1) 10 1 (by omega) (by omega) (bareP t) W h1 h2 (by omega)
    have HPl := Lib.hid hpl
    have ha := pol_agrees 10 t
    have hbi := bareP_idem t
    clear hpl he
    cases hp : proP 10 (bareP t) with
    | none =>
      have hfin : parseP t n = (.mk 0 0 [], 2) := by
        cases hq : polP 10 t with
        | none => exact parse_none hlong hq
        | some q =>
          obtain ⟨f, r⟩ := q
          refine parse_rest hlong hq fun e => ?_
          rcases ha.1 f r hq with h1 | ⟨_, h2⟩
          · rw [hp] at h1; cases h1
          · rw [e] at h2; cases h2
      have HFin := Lib.hid hfin
      have HPp := Lib.hid hp
      clear hfin hp ha
      go_wp2_with (first
        | (go_at_call 14; (with_reducible refine (HBl.out _ HP.out).mono ?_); rintro e w1 ⟨rfl, hb1, hg1⟩; have HP1 := Lib.hid hb1; have HX1 := Lib.hid (below_block HX.out hg1 (by omega) (Nat.le_refl _)); have HB1 := Lib.hid (HB.out.grown hg1 (fun e => by have := Option.some.inj e; omega)); have HE1 := Lib.hid (HE.out.only hg1 hg0); clear hb1 hg1)
        | (go_at_call 15; (with_reducible refine (HPl.out _ HP1.out HE1.out).mono ?_); rintro e w2 ⟨ho, hg2⟩; obtain ⟨⟨o, a, A, m, c, rfl⟩, s, hb2⟩ := PQOut.bad ho HPp.out; have HX2 := Lib.hid ((below_block HX1.out hg2 (by omega) (Nat.le_refl _)).alloc (by have := HX1.out.size; have := hg2.size; omega) (.cells #[.int .i64 o, .int .i64 a, .slice A m c] 25)); have HB2 := Lib.hid ((HB1.out.grown hg2 (fun e => by have := Option.some.inj e; omega)).alloc (.cells #[.int .i64 o, .int .i64 a, .slice A m c] 25)); clear ho hb2 hg2)
        | (refine wpList_store_blk rfl 25 (.tmp 4) (.tmp 28) rfl w.heap.size [.int .i64 0, .int .i64 0, .slice none 0 0] rfl rfl 25 [.int .i64 0, .int .i64 0, .slice none 0 0] HB2.out (by kernel_rfl) rfl (one3 _ _ _ _ _) ?_; intro wr hbr hgr; have HBr := Lib.hid hbr; have HGr := Lib.hid hgr; have HXr := Lib.hid (below_block HX2.out hgr (Nat.le_refl _) (Nat.le_refl _)); clear hbr hgr))
      (try simp only [Exit.inBlock, Exit.then]); refine bodyPost_ret (results_cell_row_tmp1 rfl _ _ w.heap.size 25 _ (0, 0) _ rfl HBr.out Tryd.underlying25 rfl (by kernel_rfl)) rfl ?_
      exact ⟨ParseOut.err HFin.out, HXr.out⟩
    | some q =>
      obtain ⟨f, r⟩ := q
      obtain ⟨htk, htd, _, r', hpr, hrr⟩ := pro_takes hbi hp
      rw [polP_bare 9 t] at hpr
      have HPp := Lib.hid hp
      clear hp ha hbi
      cases r with
      | cons x r =>
        have HFin := Lib.hid (parse_rest (n := n) hlong hpr (by rw [← hrr]; simp))
        clear hpr hrr
        go_wp2_with (first
          | (go_at_call 14; (with_reducible refine (HBl.out _ HP.out).mono ?_); rintro e w1 ⟨rfl, hb1, hg1⟩; have HP1 := Lib.hid hb1; have HX1 := Lib.hid (below_block HX.out hg1 (by omega) (Nat.le_refl _)); have HB1 := Lib.hid (HB.out.grown hg1 (fun e => by have := Option.some.inj e; omega)); have HE1 := Lib.hid (HE.out.only hg1 hg0); clear hb1 hg1)
          | (go_at_call 15; (with_reducible refine (HPl.out _ HP1.out HE1.out).mono ?_); rintro e w2 ⟨ho, hg2⟩; obtain ⟨⟨A, m, c, rfl, hf⟩, hb2⟩ := PQOut.good ho HPp.out; have HLt := Lib.hid HB1.out.lt; have HX2 := Lib.hid ((below_block HX1.out hg2 (by omega) (Nat.le_refl _)).alloc (by have := HX1.out.size; have := hg2.size; omega) (.cells #[.int .i64 f.org, .int .i64 f.nd, .slice A m c] 25)); have HB2 := Lib.hid ((HB1.out.grown hg2 (fun e => by have := Option.some.inj e; omega)).alloc (.cells #[.int .i64 f.org, .int .i64 f.nd, .slice A m c] 25)); have HP2 := Lib.hid (hb2.alloc (.cells #[.int .i64 f.org, .int .i64 f.nd, .slice A m c] 25)); have c2 := HP2.out.cellAt (i := 0) rfl; have HI := Lib.hid (hf.alloc (.cells #[.int .i64 f.org, .int .i64 f.nd, .slice A m c] 25)); have HB7 : Hid (Blk (w2.alloc (.cells #[.int .i64 f.org, .int .i64 f.nd, .slice A m c] 25)) w2.heap.size 25 [.int .i64 f.org, .int .i64 f.nd, .slice A m c]) := Lib.hid (Blk.fresh rfl rfl); clear ho hb2 hg2 hf)
          | (refine wpList_store_blk rfl 25 (.tmp 4) (.tmp 28) rfl w.heap.size [.int .i64 0, .int .i64 0, .slice none 0 0] rfl rfl 25 [.int .i64 0, .int .i64 0, .slice none 0 0] HB2.out (by kernel_rfl) rfl (one3 _ _ _ _ _) ?_; intro wr hbr hgr; have HBr := Lib.hid hbr; have HGr := Lib.hid hgr; have HXr := Lib.hid (below_block HX2.out hgr (Nat.le_refl _) (Nat.le_refl _)); clear hbr hgr))
        (try simp only [Exit.inBlock, Exit.then]); refine bodyPost_ret (results_cell_row_tmp1 rfl _ _ w.heap.size 25 _ (0, 0) _ rfl HBr.out Tryd.underlying25 rfl (by kernel_rfl)) rfl ?_
        exact ⟨ParseOut.err HFin.out, HXr.out⟩
      | nil =>
        have hcall : ∀ (A : Option Addr) (m c : Nat) (W : World), f.In W (fun _ => True) A m → Calls Tryd.prog 16 #[.agg #[.int .i64 f.org, .int .i64 f.nd, .slice A m c], .int .i64 n] W fun e w' => e = .returned (.int .i64 (f.check n)) ∧ Below W.heap.size W w' := fun A m c W hin => check_any f n A m c W ⟨by omega, by omega⟩ hin
        have HC := Lib.hid hcall
        clear hcall
        by_cases hc : f.check n = 0
        · have HFin := Lib.hid (parse_ok (n := n) hlong hpr hrr.symm hc)
          rw [hc] at HC
          clear hpr hrr hc
          go_wp2_with (first
            | (go_at_call 14; (with_reducible refine (HBl.out _ HP.out).mono ?_); rintro e w1 ⟨rfl, hb1, hg1⟩; have HP1 := Lib.hid hb1; have HX1 := Lib.hid (below_block HX.out hg1 (by omega) (Nat.le_refl _)); have HB1 := Lib.hid (HB.out.grown hg1 (fun e => by have := Option.some.inj e; omega)); have HE1 := Lib.hid (HE.out.only hg1 hg0); clear hb1 hg1)
            | (go_at_call 15; (with_reducible refine (HPl.out _ HP1.out HE1.out).mono ?_); rintro e w2 ⟨ho, hg2⟩; obtain ⟨⟨A, m, c, rfl, hf⟩, hb2⟩ := PQOut.good ho HPp.out; have HLt := Lib.hid HB1.out.lt; have HX2 := Lib.hid ((below_block HX1.out hg2 (by omega) (Nat.le_refl _)).alloc (by have := HX1.out.size; have := hg2.size; omega) (.cells #[.int .i64 f.org, .int .i64 f.nd, .slice A m c] 25)); have HB2 := Lib.hid ((HB1.out.grown hg2 (fun e => by have := Option.some.inj e; omega)).alloc (.cells #[.int .i64 f.org, .int .i64 f.nd, .slice A m c] 25)); have HP2 := Lib.hid (hb2.alloc (.cells #[.int .i64 f.org, .int .i64 f.nd, .slice A m c] 25)); have c2 := HP2.out.cellAt (i := 0) rfl; have HI := Lib.hid (hf.alloc (.cells #[.int .i64 f.org, .int .i64 f.nd, .slice A m c] 25)); have HB7 : Hid (Blk (w2.alloc (.cells #[.int .i64 f.org, .int .i64 f.nd, .slice A m c] 25)) w2.heap.size 25 [.int .i64 f.org, .int .i64 f.nd, .slice A m c]) := Lib.hid (Blk.fresh rfl rfl); clear ho hb2 hg2 hf)
            | (refine wpList_load_blk rfl 25 (.tmp 7) rfl w2.heap.size rfl 25 [.int .i64 f.org, .int .i64 f.nd, .slice A m c] _ HB7.out Tryd.underlying25 rfl (by kernel_rfl) ?_)
            | (go_at_call 16; (with_reducible refine (HC.out _ _ _ _ (Fm.In.any HI.out)).mono ?_); rintro e w3 ⟨rfl, hb⟩; have HX2 := Lib.hid (below_step HX2.out hb); have HB2 := Lib.hid (HB2.out.through hb); have HI := Lib.hid (HI.out.through hb); have HB7 := Lib.hid (HB7.out.through hb); clear hb)
            | (refine wpList_store_blk rfl 25 (.tmp 4) (.tmp 36) rfl w.heap.size [.int .i64 f.org, .int .i64 f.nd, .slice A m c] rfl rfl 25 [.int .i64 0, .int .i64 0, .slice none 0 0] HB2.out (by kernel_rfl) rfl (one3 _ _ _ _ _) ?_; intro wr hbr hgr; have HBr := Lib.hid hbr; have HGr := Lib.hid hgr; have HXr := Lib.hid (below_block HX2.out hgr (Nat.le_refl _) (Nat.le_refl _)); clear hbr hgr))
          (try simp only [Exit.inBlock, Exit.then]); refine bodyPost_ret (results_cell_row_tmp1 rfl _ _ w.heap.size 25 _ (0, 0) _ rfl HBr.out Tryd.underlying25 rfl (by kernel_rfl)) rfl ?_
          exact ⟨ParseOut.mk_good HFin.out (((HI.out.past HGr.out HLt.out)).from_ (Nat.le_of_lt HLt.out)), HXr.out⟩
        · have HFin := Lib.hid (parse_check (n := n) hlong hpr hrr.symm hc)
          obtain ⟨x, hx⟩ : ∃ x, f.check n = x := ⟨_, rfl⟩
          rw [hx] at HC HFin hc
          have hxb : (x == 0) = false := by simp; omega
          clear hpr hrr hx
          go_wp2_with (first
            | (go_at_call 14; (with_reducible refine (HBl.out _ HP.out).mono ?_); rintro e w1 ⟨rfl, hb1, hg1⟩; have HP1 := Lib.hid hb1; have HX1 := Lib.hid (below_block HX.out hg1 (by omega) (Nat.le_refl _)); have HB1 := Lib.hid (HB.out.grown hg1 (fun e => by have := Option.some.inj e; omega)); have HE1 := Lib.hid (HE.out.only hg1 hg0); clear hb1 hg1)
            | (go_at_call 15; (with_reducible refine (HPl.out _ HP1.out HE1.out).mono ?_); rintro e w2 ⟨ho, hg2⟩; obtain ⟨⟨A, m, c, rfl, hf⟩, hb2⟩ := PQOut.good ho HPp.out; have HLt := Lib.hid HB1.out.lt; have HX2 := Lib.hid ((below_block HX1.out hg2 (by omega) (Nat.le_refl _)).alloc (by have := HX1.out.size; have := hg2.size; omega) (.cells #[.int .i64 f.org, .int .i64 f.nd, .slice A m c] 25)); have HB2 := Lib.hid ((HB1.out.grown hg2 (fun e => by have := Option.some.inj e; omega)).alloc (.cells #[.int .i64 f.org, .int .i64 f.nd, .slice A m c] 25)); have HP2 := Lib.hid (hb2.alloc (.cells #[.int .i64 f.org, .int .i64 f.nd, .slice A m c] 25)); have c2 := HP2.out.cellAt (i := 0) rfl; have HI := Lib.hid (hf.alloc (.cells #[.int .i64 f.org, .int .i64 f.nd, .slice A m c] 25)); have HB7 : Hid (Blk (w2.alloc (.cells #[.int .i64 f.org, .int .i64 f.nd, .slice A m c] 25)) w2.heap.size 25 [.int .i64 f.org, .int .i64 f.nd, .slice A m c]) := Lib.hid (Blk.fresh rfl rfl); clear ho hb2 hg2 hf)
            | (refine wpList_load_blk rfl 25 (.tmp 7) rfl w2.heap.size rfl 25 [.int .i64 f.org, .int .i64 f.nd, .slice A m c] _ HB7.out Tryd.underlying25 rfl (by kernel_rfl) ?_)
            | (go_at_call 16; (with_reducible refine (HC.out _ _ _ _ (Fm.In.any HI.out)).mono ?_); rintro e w3 ⟨rfl, hb⟩; have HX2 := Lib.hid (below_step HX2.out hb); have HB2 := Lib.hid (HB2.out.through hb); have HI := Lib.hid (HI.out.through hb); have HB7 := Lib.hid (HB7.out.through hb); clear hb)
            | (refine wpList_store_blk rfl 25 (.tmp 4) (.tmp 34) rfl w.heap.size [.int .i64 0, .int .i64 0, .slice none 0 0] rfl rfl 25 [.int .i64 0, .int .i64 0, .slice none 0 0] HB2.out (by kernel_rfl) rfl (one3 _ _ _ _ _) ?_; intro wr hbr hgr; have HBr := Lib.hid hbr; have HGr := Lib.hid hgr; have HXr := Lib.hid (below_block HX2.out hgr (Nat.le_refl _) (Nat.le_refl _)); clear hbr hgr))
          (try simp only [Exit.inBlock, Exit.then]); refine bodyPost_ret (results_cell_row_tmp1 rfl _ _ w.heap.size 25 _ (0, 0) _ rfl HBr.out Tryd.underlying25 rfl (by kernel_rfl)) rfl ?_
          exact ⟨ParseOut.err HFin.out, HXr.out⟩

end Go.Proofs.YtnpobhgecfjfgaaDoor
