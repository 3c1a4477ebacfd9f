/-
  Joined: SpL.
-/
import Derived.Deep.CutBlock
import Derived.Deep.CutRange
import Derived.Test.YtkpgjcahmpekbaaSS32
import Derived.Test.YtkpgjcahmpekbaaSS46
import Derived.Test.YtkpgjcahmpekbaaSS47
import Derived.Test.YtkpgjcahmpekbaaSST
namespace Go.Proofs.Ytkpgjcahmpekbaa
open Go.RowKit

theorem Try.bld_sd (n : Int) (w : World) : (Instr.build 80 #[(0, .int .i64 n)]).run Try.prog w = .ok (.agg (slC (Slt.no n) (.slice none 0 0) (.slice none 0 0) (.slice none 0 0)).toArray) w := by kernel_rfl
theorem Try.zero_sa (w : World) : (zeroValue 82).run Try.prog w = .ok (.agg (Sa.cells ⟨0, 0, dgZ, [], none, 0, 0⟩).toArray) w := by kernel_rfl
structure BdS (n : Int) (s : Slt) (k : Nat) : Prop where
 n : s.n = n
 pr : s.pr.length ≤ k
 cm : s.cm.length ≤ k
 es : s.es.length ≤ 10
theorem BdS.low {n : Int} {s : Slt} {k : Nat} (h : BdS n s k) (h1 : 1 ≤ n) (h7 : n ≤ 7) (hk : k ≤ 1000) : SlLow s := ⟨by rw [h.n]; exact h1, by rw [h.n]; exact h7, Nat.le_trans h.pr hk, Nat.le_trans h.cm hk, Nat.le_trans h.es (by omega)⟩
theorem voteW_len (n : Int) (l : Wl) (who : Int) (d : List UInt8) : (voteW n l who d).length ≤ l.length + 1 := by
 unfold voteW
 split <;> simp
theorem BdS.prep {n : Int} {s : Slt} {k : Nat} (h : BdS n s k) (who : Int) (d : List UInt8) : BdS n (prepS s who d).1 (k + 1) := ⟨h.n, Nat.le_trans (voteW_len _ _ _ _) (by have := h.pr; omega), Nat.le_trans h.cm (by omega), h.es⟩
theorem BdS.comm {n : Int} {s : Slt} {k : Nat} (h : BdS n s k) (who : Int) (d : List UInt8) : BdS n (commS s who d).1 (k + 1) := ⟨h.n, Nat.le_trans h.pr (by omega), Nat.le_trans (voteW_len _ _ _ _) (by have := h.cm; omega), h.es⟩
theorem BdS.prop {n : Int} {s : Slt} {k : Nat} (h : BdS n s k) (d : List UInt8) (es : List Ey) (he : es.length ≤ 10) : BdS n (propS s d es).1 (k + 1) := by
 by_cases h9 : (propS s d es).2 = 0
 ·rw [propS_yes h9]
  exact ⟨h.n, Nat.le_trans h.pr (by omega), Nat.le_trans h.cm (by omega), he⟩
 ·rw [propS_no h9]
  exact ⟨h.n, Nat.le_trans h.pr (by omega), Nat.le_trans h.cm (by omega), h.es⟩
set_option maxHeartbeats 16000000 in
set_option maxRecDepth 100000 in
theorem plays21_nil (n p : Int) (A : Option Addr) (m c : Nat) (w : World) (hm : m ≤ 100) (hn : n < 1 ∨ 7 < n) :
  Calls Try.prog 5 #[.int .i64 n, .slice A m c, .int .i64 p] w fun e w' => e = .returned (.bool true) ∧ Below w.heap.size w w' := by
 have hz : ∀ W, (zeroValue 27).run Try.prog W = .ok (.agg (vs dgZ).toArray) W := fun W => Try.zero_d W
 have hbz := Try.bld_dgz20
 have HZl : Hid ((vs dgZ).length = 32) := Lib.hid (D_len _ D_okz)
 have HN := Lib.hid hn
 have g1 : ¬ 100 < m := by omega
 rcases hn with hn1 | hn1
 ·go_enter Try.func5, Try.ntmps5
  go_wp2_with (first
   | (go_at_call 36; (with_reducible refine (fixed21_of slotv _).mono ?_); rintro e w1 ⟨rfl, hb1⟩; have HB1 := Lib.hid hb1; clear hb1)
   | (go_at_call 37; (with_reducible refine (new_sw_none n w1 HN.out).mono ?_); rintro e w2 ⟨rfl, hb9⟩; have HB2 := Lib.hid (below_step HB1.out hb9); clear hb9)
   | (go_at_call 38; (with_reducible refine (proposal_nil _).mono ?_); rintro e w3 ⟨rfl, hb9⟩; have HB3 := Lib.hid (below_step HB2.out hb9); clear hb9)
   | (refine wpList_store_blk rfl 27 (.tmp 8) (.tmp 38) rfl w3.heap.size (vs dgZ) rfl rfl 27 (vs dgZ) (Blk.fresh rfl rfl) (by rw [HZl.out]; kernel_rfl) rfl (D_one dgZ) ?_; intro w4 hb9 hg9; have HB4 := Lib.hid (below_step HB3.out (below_new hg9)); clear hb9 hg9)
   | (go_at_call 39; (with_reducible refine (votes_nil _).mono ?_); rintro e w5 ⟨rfl, hb9⟩; have HB5 := Lib.hid (below_step HB4.out hb9); clear hb9)
   | (go_at_call 40; (with_reducible refine (propose_nil _).mono ?_); rintro e w6 ⟨rfl, hb9⟩; have HB6 := Lib.hid (below_step HB5.out hb9); clear hb9)
   | (go_at_call 41; (with_reducible refine (prepare_nil _).mono ?_); rintro e w7 ⟨rfl, hb9⟩; have HB7 := Lib.hid (below_step HB6.out hb9); clear hb9)
   | (go_at_call 42; (with_reducible refine (commit_nil _).mono ?_); rintro e w8 ⟨rfl, hb9⟩; have HB8 := Lib.hid (below_step HB7.out hb9); clear hb9)
   | (go_at_call 43; (with_reducible refine (prepared_nil _).mono ?_); rintro e w9 ⟨rfl, hb9⟩; have HB9 := Lib.hid (below_step HB8.out hb9); clear hb9)
   | (go_at_call 44; (with_reducible refine (committed_nil _).mono ?_); rintro e w10 ⟨rfl, hb9⟩; have HB10 := Lib.hid (below_step HB9.out hb9); clear hb9)
   | (refine wpList_build_to rfl 27 [] rfl [] rfl (.agg (vs dgZ).toArray) (Try.bld_dgz20 _) ?_))
  go_ret
  exact ⟨rfl, HB10.out⟩
 ·have hn2 : ¬ n < 1 := by omega
  go_enter Try.func5, Try.ntmps5
  go_wp2_with (first
   | (go_at_call 36; (with_reducible refine (fixed21_of slotv _).mono ?_); rintro e w1 ⟨rfl, hb1⟩; have HB1 := Lib.hid hb1; clear hb1)
   | (go_at_call 37; (with_reducible refine (new_sw_none n w1 HN.out).mono ?_); rintro e w2 ⟨rfl, hb9⟩; have HB2 := Lib.hid (below_step HB1.out hb9); clear hb9)
   | (go_at_call 38; (with_reducible refine (proposal_nil _).mono ?_); rintro e w3 ⟨rfl, hb9⟩; have HB3 := Lib.hid (below_step HB2.out hb9); clear hb9)
   | (refine wpList_store_blk rfl 27 (.tmp 8) (.tmp 38) rfl w3.heap.size (vs dgZ) rfl rfl 27 (vs dgZ) (Blk.fresh rfl rfl) (by rw [HZl.out]; kernel_rfl) rfl (D_one dgZ) ?_; intro w4 hb9 hg9; have HB4 := Lib.hid (below_step HB3.out (below_new hg9)); clear hb9 hg9)
   | (go_at_call 39; (with_reducible refine (votes_nil _).mono ?_); rintro e w5 ⟨rfl, hb9⟩; have HB5 := Lib.hid (below_step HB4.out hb9); clear hb9)
   | (go_at_call 40; (with_reducible refine (propose_nil _).mono ?_); rintro e w6 ⟨rfl, hb9⟩; have HB6 := Lib.hid (below_step HB5.out hb9); clear hb9)
   | (go_at_call 41; (with_reducible refine (prepare_nil _).mono ?_); rintro e w7 ⟨rfl, hb9⟩; have HB7 := Lib.hid (below_step HB6.out hb9); clear hb9)
   | (go_at_call 42; (with_reducible refine (commit_nil _).mono ?_); rintro e w8 ⟨rfl, hb9⟩; have HB8 := Lib.hid (below_step HB7.out hb9); clear hb9)
   | (go_at_call 43; (with_reducible refine (prepared_nil _).mono ?_); rintro e w9 ⟨rfl, hb9⟩; have HB9 := Lib.hid (below_step HB8.out hb9); clear hb9)
   | (go_at_call 44; (with_reducible refine (committed_nil _).mono ?_); rintro e w10 ⟨rfl, hb9⟩; have HB10 := Lib.hid (below_step HB9.out hb9); clear hb9)
   | (refine wpList_build_to rfl 27 [] rfl [] rfl (.agg (vs dgZ).toArray) (Try.bld_dgz20 _) ?_))
  go_ret
  exact ⟨rfl, HB10.out⟩
theorem sa_b (x : Sa) (h : x.dg.length = 32) : x.cells[34]? = some (.slice x.A x.n x.c) := by
 unfold Sa.cells
 rw [List.getElem?_cons_succ, List.getElem?_cons_succ, List.getElem?_append_right (by simp [vs, h])]
 simp [vs, h]
theorem js_first (n : Int) {w w1 w2 : World} {v : Value} {D : Nat → Prop} (h1 : Below w.heap.size w w1) (ht : TS w2 v D (Slt.no n)) (h2 : Below w1.heap.size w1 w2) (hd : ∀ q, D q → w1.heap.size ≤ q) :
  JS TS w (w2.alloc (.cells (slC (Slt.no n) (.slice none 0 0) (.slice none 0 0) (.slice none 0 0)).toArray 80)) v w2.heap.size (Slt.no n) (Slt.no n) := by
 have x3 := below1_ w2 (.cells (slC (Slt.no n) (.slice none 0 0) (.slice none 0 0) (.slice none 0 0)).toArray 80)
 have s1 := h1.size
 have s2 := h2.size
 refine ⟨D, .slice none 0 0, .slice none 0 0, .slice none 0 0, slotv.through ht x3, Blk.fresh rfl rfl, OEy.nil _ _, OWd.nil _ _, OWd.nil _ _, rfl, below_step (below_step h1 h2) x3, by omega, fun q hq => Nat.le_trans s1 (hd q hq), fun q hq => ?_, by simp [Value.ownBlock], by simp [Value.ownBlock], by simp [Value.ownBlock]⟩
 rintro (e | e | e | e)
 ·have := slotv.lt ht q hq; omega
 all_goals simp [Value.ownBlock] at e
set_option maxHeartbeats 16000000 in
set_option maxRecDepth 100000 in
theorem plays21_any (n p : Int) (l : List Sa) (A : Option Addr) (m c : Nat) (w : World) (h : SasIn w A m l) :
  Calls Try.prog 5 #[.int .i64 n, .slice A m c, .int .i64 p] w fun e w' => e = .returned (.bool true) ∧ Below w.heap.size w w' := by
 by_cases g1 : 100 < m
 ·go_enter Try.func5, Try.ntmps5
  go_wp2_with (first
   | (go_at_call 36; (with_reducible refine (fixed21_of slotv _).mono ?_); rintro e w1 ⟨rfl, hb1⟩; have HB1 := Lib.hid hb1; clear hb1))
  go_ret
  exact ⟨rfl, HB1.out⟩
 by_cases hn : n < 1 ∨ 7 < n
 ·exact plays21_nil n p A m c w (by omega) hn
 have hn1 : ¬ n < 1 := by omega
 have hn7 : ¬ 7 < n := by omega
 have HN1 : Hid (1 ≤ n) := Lib.hid (by omega)
 have HN7 : Hid (n ≤ 7) := Lib.hid (by omega)
 have HM : Hid (m ≤ 100) := Lib.hid (by omega)
 have hz : ∀ W, (zeroValue 27).run Try.prog W = .ok (.agg (vs dgZ).toArray) W := fun W => Try.zero_d W
 have hza : ∀ W, (zeroValue 82).run Try.prog W = .ok (.agg (Sa.cells ⟨0, 0, dgZ, [], none, 0, 0⟩).toArray) W := fun W => Try.zero_sa W
 have HZl : Hid ((vs dgZ).length = 32) := Lib.hid (D_len _ D_okz)
 have HI := Lib.hid h
 clear h hn
 go_enter Try.func5, Try.ntmps5
 go_wp2_with (first
  | (go_at_call 36; (with_reducible refine (fixed21_of slotv _).mono ?_); rintro e w1 ⟨rfl, hb1⟩; have HB1 := Lib.hid hb1; clear hb1)
  | (go_at_call 37; (with_reducible refine (slotv.new n w1 HN1.out HN7.out).mono ?_); rintro e w2 ⟨v, D, rfl, ht9, hb9, hd9⟩; have HT2 := Lib.hid ht9; have HB2 := Lib.hid hb9; have HD2 := Lib.hid hd9; clear ht9 hb9 hd9)
  | (refine wpList_build_to rfl 80 _ rfl [(0, .int .i64 n)] rfl (.agg (slC (Slt.no n) (.slice none 0 0) (.slice none 0 0) (.slice none 0 0)).toArray) (Try.bld_sd n _) ?_))
 obtain ⟨R, hR⟩ : ∃ R, R = w2.heap.size := ⟨_, rfl⟩
 have HS0 : Hid (JS TS w (w2.alloc (.cells (slC (Slt.no n) (.slice none 0 0) (.slice none 0 0) (.slice none 0 0)).toArray 80)) v R (Slt.no n) (Slt.no n)) := Lib.hid (by rw [hR]; exact js_first n HB1.out HT2.out HB2.out HD2.out)
 try dsimp only [Act.put]
 rw [← hR]
 clear hR
 go_loopw [91] (fun iv wr => ∃ (i : Nat) (s : Slt), i ≤ m ∧ iv = .int .i64 (i : Int) ∧ JS TS w wr v R s s ∧ BdS n s i) (fun iv _ => m - (intOf iv).toNat)
 case atStart => exact ⟨0, Slt.no n, Nat.zero_le _, rfl, HS0.out, ⟨rfl, Nat.zero_le _, Nat.zero_le _, Nat.zero_le _⟩⟩
 case round =>
  obtain ⟨i, s, hi, rfl, hs, hbd⟩ := hrel
  have HS := Lib.hid hs
  have HX := Lib.hid hs.be
  have HBs := Lib.hid hbd
  have HLo := Lib.hid (hbd.low HN1.out HN7.out (by have := HM.out; omega))
  clear hs hbd
  by_cases hlt : i < m
  ·obtain ⟨g0, o0, x, rfl, hok, hrx⟩ := HI.out.at HX.out hlt
   have HRx := Lib.hid hrx
   have HOk := Lib.hid hok
   have HXl : Hid (x.cells.length = 35) := Lib.hid (Sa.len hok.dg)
   have HVx : Hid ((vs x.dg).length = 32) := Lib.hid (D_len _ hok.dg)
   have hix := Try.ix_sa wr g0 o0 m c i hlt
   clear hok hrx
   by_cases hxn : 10 < x.n
   ·go_wp2_with (first
     | (refine wpList_load_mid rfl 82 (.tmp 93) rfl g0 (o0 + i * 35) rfl x.cells _ HRx.out Try.underlying82 rfl (by rw [HXl.out]; kernel_rfl) ?_)
     | (refine wpList_store_blk rfl 82 (.tmp 15) (.tmp 94) rfl wr.heap.size x.cells rfl rfl 82 (Sa.cells ⟨0, 0, dgZ, [], none, 0, 0⟩) (Blk.fresh rfl rfl) (by rw [HXl.out]; kernel_rfl) (by rw [HXl.out]; rfl) (Sa.one x) ?_; simp only [Act.put]; intro wv hbv hgv; have HXv := Lib.hid (below_step HX.out (below_new hgv)); have k0 := hbv.cellAt (i := 0) rfl; have k34 := hbv.cellAt (i := 34) (sa_b x HOk.out.dg); clear hbv hgv))
    go_ret
    exact ⟨rfl, HXv.out⟩
   have HXn : Hid (x.n ≤ 10) := Lib.hid (by omega)
   obtain ⟨r, hr⟩ : ∃ r, x.kd.tmod 3 = r := ⟨_, rfl⟩
   have HR3 : Hid (r = 0 ∨ r = 1 ∨ r = 2) := Lib.hid (by
    have h0 := HOk.out.lo
    rw [Int.tmod_eq_emod_of_nonneg h0] at hr
    omega)
   go_upto_block 2 with (first
    | (refine wpList_load_mid rfl 82 (.tmp 93) rfl g0 (o0 + i * 35) rfl x.cells _ HRx.out Try.underlying82 rfl (by rw [HXl.out]; kernel_rfl) ?_)
    | (refine wpList_store_blk rfl 82 (.tmp 15) (.tmp 94) rfl wr.heap.size x.cells rfl rfl 82 (Sa.cells ⟨0, 0, dgZ, [], none, 0, 0⟩) (Blk.fresh rfl rfl) (by rw [HXl.out]; kernel_rfl) (by rw [HXl.out]; rfl) (Sa.one x) ?_; simp only [Act.put]; intro wv hbv hgv; have HJv := Lib.hid (HS.out.withAct slotv (Nat.le_refl _) (below_new hgv) hbv); have k0 := hbv.cellAt (i := 0) rfl; have k34 := hbv.cellAt (i := 34) (sa_b x HOk.out.dg); clear hbv hgv))
   go_cut [16, 91] from 91 to 222 (fun bv iv wx => bv = .bool true ∧ iv = .int .i64 (i : Int) ∧ ∃ s2, JX TS w wx v R s2 s2 wr.heap.size x ∧ BdS n s2 (i + 1))
   case first =>
    rcases HR3.out with rfl | rfl | rfl
    ·clear HR3
     go_upto_region 19 with fail
     refine wp_region_held_drew (S := fun W => Blk W wr.heap.size 82 x.cells) (by kernel_rfl) HJv.out.blk.drew (fun hHeld => ?_)
     change wpAnyH _ _ _ _ _ _ #[false, false, false, false, false, false, false, false, false, false, false, false, false, false] _ _
     refine tkq (i := 0) (d := 104) (v := (v)) rfl rfl (Or.inl ⟨by kernel_rfl, fun w hSw => ?_⟩) (by assumption) ?_
     ·(try dsimp only at hSw); go_simp <;> (try rfl)
     simp only [Act.put, sq1, sq2, sq3]
     refine tkq (i := 1) (d := 105) (v := (.pointer (some ⟨wr.heap.size, 2, none⟩))) rfl rfl (Or.inl ⟨by kernel_rfl, fun w hSw => ?_⟩) (by assumption) ?_
     ·(try dsimp only at hSw); go_simp <;> (try rfl)
     simp only [Act.put, sq1, sq2, sq3]
     refine tkq (i := 2) (d := 106) (v := (.agg (vs x.dg).toArray)) rfl rfl (yieldsIf_load_mid (by kernel_rfl) 27 (.tmp 105) rfl wr.heap.size 2 (by simp [Act.eval]) (vs x.dg) _ (fun W hW => Blk.range (pre := [.int .u8 x.kd, .int .i64 x.who]) (post := [.slice x.A x.n x.c]) (by simpa [Sa.cells] using hW)) Try.underlying27 rfl (by rw [HVx.out]; kernel_rfl)) (by assumption) ?_
     simp only [Act.put, sq1, sq2, sq3]
     refine tkq (i := 3) (d := 107) (v := (.pointer (some ⟨wr.heap.size, 34, none⟩))) rfl rfl (Or.inl ⟨by kernel_rfl, fun w hSw => ?_⟩) (by assumption) ?_
     ·(try dsimp only at hSw); go_simp <;> (try rfl)
     simp only [Act.put, sq1, sq2, sq3]
     refine tkq (i := 4) (d := 108) (v := (.slice x.A x.n x.c)) rfl rfl (yields_load_at (by kernel_rfl) 68 (.tmp 107) rfl (.pointer (some ⟨wr.heap.size, 34, none⟩)) (by simp [Act.eval]) (.slice x.A x.n x.c) (fun W hW => load_one' (Try.agg_eys20 W) (Blk.cellAt (i := 34) hW (sa_b x HOk.out.dg)))) (by assumption) ?_
     simp only [Act.put, sq1, sq2, sq3]
     refine tkq (i := 6) (d := 110) (v := (.pointer (some ⟨R, 0, none⟩))) rfl rfl (Or.inl ⟨by kernel_rfl, fun w hSw => ?_⟩) (by assumption) ?_
     ·(try dsimp only at hSw); go_simp <;> (try rfl)
     simp only [Act.put, sq1, sq2, sq3]
     refine tkq (i := 7) (d := 111) (v := (.pointer (some ⟨wr.heap.size, 2, none⟩))) rfl rfl (Or.inl ⟨by kernel_rfl, fun w hSw => ?_⟩) (by assumption) ?_
     ·(try dsimp only at hSw); go_simp <;> (try rfl)
     simp only [Act.put, sq1, sq2, sq3]
     refine tkq (i := 8) (d := 112) (v := (.agg (vs x.dg).toArray)) rfl rfl (yieldsIf_load_mid (by kernel_rfl) 27 (.tmp 111) rfl wr.heap.size 2 (by simp [Act.eval]) (vs x.dg) _ (fun W hW => Blk.range (pre := [.int .u8 x.kd, .int .i64 x.who]) (post := [.slice x.A x.n x.c]) (by simpa [Sa.cells] using hW)) Try.underlying27 rfl (by rw [HVx.out]; kernel_rfl)) (by assumption) ?_
     simp only [Act.put, sq1, sq2, sq3]
     refine tkq (i := 9) (d := 113) (v := (.pointer (some ⟨wr.heap.size, 34, none⟩))) rfl rfl (Or.inl ⟨by kernel_rfl, fun w hSw => ?_⟩) (by assumption) ?_
     ·(try dsimp only at hSw); go_simp <;> (try rfl)
     simp only [Act.put, sq1, sq2, sq3]
     refine tkq (i := 10) (d := 114) (v := (.slice x.A x.n x.c)) rfl rfl (yields_load_at (by kernel_rfl) 68 (.tmp 113) rfl (.pointer (some ⟨wr.heap.size, 34, none⟩)) (by simp [Act.eval]) (.slice x.A x.n x.c) (fun W hW => load_one' (Try.agg_eys20 W) (Blk.cellAt (i := 34) hW (sa_b x HOk.out.dg)))) (by assumption) ?_
     simp only [Act.put, sq1, sq2, sq3]
     refine wpAnyH_ready (rs := [5]) (by kernel_rfl) (by simp) ?_
     refine AllReadyH.cons rfl (fun K hK => ?_) AllReadyH.nil
     go_simp
     refine (JX.propP slotv (JX.through slotv HJv.out (Below.refl _ wv).drew) HLo.out x.dg x.es x.A x.n x.c HOk.out.dg HOk.out.es (by have := HXn.out; omega)).mono ?_
     rintro e u1 ⟨rfl, hj9⟩; have HJ1 := Lib.hid hj9; clear hj9
     go_wp2_with fail
     refine hK.out _ _ HJ1.out.blk (fun hHeld1 => ?_)
     clear hHeld hK K
     have hHeld := hHeld1
     clear hHeld1
     refine wpAnyH_ready (rs := [11]) (by kernel_rfl) (by simp) ?_
     refine AllReadyH.cons rfl (fun K hK => ?_) AllReadyH.nil
     go_simp
     refine (JX.propD slotv HJ1.out x.dg x.es x.A x.n x.c HOk.out.dg HOk.out.es (by have := HXn.out; omega)).mono ?_
     rintro e u2 ⟨rfl, hj9⟩; have HJ2 := Lib.hid hj9; clear hj9
     go_wp2_with fail
     refine hK.out _ _ HJ2.out.blk (fun hHeld1 => ?_)
     clear hHeld hK K
     have hHeld := hHeld1
     clear hHeld1
     refine tkq (i := 12) (d := 116) (v := (.bool true)) rfl rfl (Or.inl ⟨by kernel_rfl, fun w hSw => ?_⟩) (by assumption) ?_
     ·(try dsimp only at hSw); go_simp <;> (try rfl)
     simp only [Act.put, sq1, sq2, sq3]
     refine tkq (i := 13) (d := 16) (v := (.bool true)) rfl rfl (Or.inl ⟨by kernel_rfl, fun w hSw => ?_⟩) (by assumption) ?_
     ·(try dsimp only at hSw); go_simp <;> (try rfl)
     simp only [Act.put, sq1, sq2, sq3]
     refine wpAnyH_done (by kernel_rfl) ?_ _
     go_wp2_with fail
     go_meet
     case rel => exact ⟨rfl, rfl, (propS s x.dg x.es).1, HJ2.out, HBs.out.prop x.dg x.es (by have := HOk.out.es.len; have := HXn.out; omega)⟩
    ·clear HR3
     go_upto_region 21 with fail
     refine wp_region_held_drew (S := fun W => Blk W wr.heap.size 82 x.cells) (by kernel_rfl) HJv.out.blk.drew (fun hHeld => ?_)
     change wpAnyH _ _ _ _ _ _ #[false, false, false, false, false, false, false, false, false, false, false, false, false, false] _ _
     refine tkq (i := 0) (d := 119) (v := (v)) rfl rfl (Or.inl ⟨by kernel_rfl, fun w hSw => ?_⟩) (by assumption) ?_
     ·(try dsimp only at hSw); go_simp <;> (try rfl)
     simp only [Act.put, sq1, sq2, sq3]
     refine tkq (i := 1) (d := 120) (v := (.pointer (some ⟨wr.heap.size, 1, none⟩))) rfl rfl (Or.inl ⟨by kernel_rfl, fun w hSw => ?_⟩) (by assumption) ?_
     ·(try dsimp only at hSw); go_simp <;> (try rfl)
     simp only [Act.put, sq1, sq2, sq3]
     refine tkq (i := 2) (d := 121) (v := (.int .i64 x.who)) rfl rfl (yields_load_at (by kernel_rfl) 3 (.tmp 120) rfl (.pointer (some ⟨wr.heap.size, 1, none⟩)) (by simp [Act.eval]) (.int .i64 x.who) (fun W hW => load_one' (Try.agg_i21 W) (Blk.cellAt (i := 1) hW (rfl)))) (by assumption) ?_
     simp only [Act.put, sq1, sq2, sq3]
     refine tkq (i := 3) (d := 122) (v := (.pointer (some ⟨wr.heap.size, 2, none⟩))) rfl rfl (Or.inl ⟨by kernel_rfl, fun w hSw => ?_⟩) (by assumption) ?_
     ·(try dsimp only at hSw); go_simp <;> (try rfl)
     simp only [Act.put, sq1, sq2, sq3]
     refine tkq (i := 4) (d := 123) (v := (.agg (vs x.dg).toArray)) rfl rfl (yieldsIf_load_mid (by kernel_rfl) 27 (.tmp 122) rfl wr.heap.size 2 (by simp [Act.eval]) (vs x.dg) _ (fun W hW => Blk.range (pre := [.int .u8 x.kd, .int .i64 x.who]) (post := [.slice x.A x.n x.c]) (by simpa [Sa.cells] using hW)) Try.underlying27 rfl (by rw [HVx.out]; kernel_rfl)) (by assumption) ?_
     simp only [Act.put, sq1, sq2, sq3]
     refine tkq (i := 6) (d := 125) (v := (.pointer (some ⟨R, 0, none⟩))) rfl rfl (Or.inl ⟨by kernel_rfl, fun w hSw => ?_⟩) (by assumption) ?_
     ·(try dsimp only at hSw); go_simp <;> (try rfl)
     simp only [Act.put, sq1, sq2, sq3]
     refine tkq (i := 7) (d := 126) (v := (.pointer (some ⟨wr.heap.size, 1, none⟩))) rfl rfl (Or.inl ⟨by kernel_rfl, fun w hSw => ?_⟩) (by assumption) ?_
     ·(try dsimp only at hSw); go_simp <;> (try rfl)
     simp only [Act.put, sq1, sq2, sq3]
     refine tkq (i := 8) (d := 127) (v := (.int .i64 x.who)) rfl rfl (yields_load_at (by kernel_rfl) 3 (.tmp 126) rfl (.pointer (some ⟨wr.heap.size, 1, none⟩)) (by simp [Act.eval]) (.int .i64 x.who) (fun W hW => load_one' (Try.agg_i21 W) (Blk.cellAt (i := 1) hW (rfl)))) (by assumption) ?_
     simp only [Act.put, sq1, sq2, sq3]
     refine tkq (i := 9) (d := 128) (v := (.pointer (some ⟨wr.heap.size, 2, none⟩))) rfl rfl (Or.inl ⟨by kernel_rfl, fun w hSw => ?_⟩) (by assumption) ?_
     ·(try dsimp only at hSw); go_simp <;> (try rfl)
     simp only [Act.put, sq1, sq2, sq3]
     refine tkq (i := 10) (d := 129) (v := (.agg (vs x.dg).toArray)) rfl rfl (yieldsIf_load_mid (by kernel_rfl) 27 (.tmp 128) rfl wr.heap.size 2 (by simp [Act.eval]) (vs x.dg) _ (fun W hW => Blk.range (pre := [.int .u8 x.kd, .int .i64 x.who]) (post := [.slice x.A x.n x.c]) (by simpa [Sa.cells] using hW)) Try.underlying27 rfl (by rw [HVx.out]; kernel_rfl)) (by assumption) ?_
     simp only [Act.put, sq1, sq2, sq3]
     refine wpAnyH_ready (rs := [5]) (by kernel_rfl) (by simp) ?_
     refine AllReadyH.cons rfl (fun K hK => ?_) AllReadyH.nil
     go_simp
     refine (JX.prepP slotv (JX.through slotv HJv.out (Below.refl _ wv).drew) HLo.out x.who x.dg HOk.out.dg).mono ?_
     rintro e u1 ⟨rfl, hj9⟩; have HJ1 := Lib.hid hj9; clear hj9
     go_wp2_with fail
     refine hK.out _ _ HJ1.out.blk (fun hHeld1 => ?_)
     clear hHeld hK K
     have hHeld := hHeld1
     clear hHeld1
     refine wpAnyH_ready (rs := [11]) (by kernel_rfl) (by simp) ?_
     refine AllReadyH.cons rfl (fun K hK => ?_) AllReadyH.nil
     go_simp
     refine (JX.prepD slotv HJ1.out HLo.out x.who x.dg HOk.out.dg).mono ?_
     rintro e u2 ⟨rfl, hj9⟩; have HJ2 := Lib.hid hj9; clear hj9
     go_wp2_with fail
     refine hK.out _ _ HJ2.out.blk (fun hHeld1 => ?_)
     clear hHeld hK K
     have hHeld := hHeld1
     clear hHeld1
     refine tkq (i := 12) (d := 131) (v := (.bool true)) rfl rfl (Or.inl ⟨by kernel_rfl, fun w hSw => ?_⟩) (by assumption) ?_
     ·(try dsimp only at hSw); go_simp <;> (try rfl)
     simp only [Act.put, sq1, sq2, sq3]
     refine tkq (i := 13) (d := 16) (v := (.bool true)) rfl rfl (Or.inl ⟨by kernel_rfl, fun w hSw => ?_⟩) (by assumption) ?_
     ·(try dsimp only at hSw); go_simp <;> (try rfl)
     simp only [Act.put, sq1, sq2, sq3]
     refine wpAnyH_done (by kernel_rfl) ?_ _
     go_wp2_with fail
     go_meet
     case rel => exact ⟨rfl, rfl, (prepS s x.who x.dg).1, HJ2.out, HBs.out.prep x.who x.dg⟩
    ·clear HR3
     go_upto_region 23 with fail
     refine wp_region_held_drew (S := fun W => Blk W wr.heap.size 82 x.cells) (by kernel_rfl) HJv.out.blk.drew (fun hHeld => ?_)
     change wpAnyH _ _ _ _ _ _ #[false, false, false, false, false, false, false, false, false, false, false, false, false, false] _ _
     refine tkq (i := 0) (d := 134) (v := (v)) rfl rfl (Or.inl ⟨by kernel_rfl, fun w hSw => ?_⟩) (by assumption) ?_
     ·(try dsimp only at hSw); go_simp <;> (try rfl)
     simp only [Act.put, sq1, sq2, sq3]
     refine tkq (i := 1) (d := 135) (v := (.pointer (some ⟨wr.heap.size, 1, none⟩))) rfl rfl (Or.inl ⟨by kernel_rfl, fun w hSw => ?_⟩) (by assumption) ?_
     ·(try dsimp only at hSw); go_simp <;> (try rfl)
     simp only [Act.put, sq1, sq2, sq3]
     refine tkq (i := 2) (d := 136) (v := (.int .i64 x.who)) rfl rfl (yields_load_at (by kernel_rfl) 3 (.tmp 135) rfl (.pointer (some ⟨wr.heap.size, 1, none⟩)) (by simp [Act.eval]) (.int .i64 x.who) (fun W hW => load_one' (Try.agg_i21 W) (Blk.cellAt (i := 1) hW (rfl)))) (by assumption) ?_
     simp only [Act.put, sq1, sq2, sq3]
     refine tkq (i := 3) (d := 137) (v := (.pointer (some ⟨wr.heap.size, 2, none⟩))) rfl rfl (Or.inl ⟨by kernel_rfl, fun w hSw => ?_⟩) (by assumption) ?_
     ·(try dsimp only at hSw); go_simp <;> (try rfl)
     simp only [Act.put, sq1, sq2, sq3]
     refine tkq (i := 4) (d := 138) (v := (.agg (vs x.dg).toArray)) rfl rfl (yieldsIf_load_mid (by kernel_rfl) 27 (.tmp 137) rfl wr.heap.size 2 (by simp [Act.eval]) (vs x.dg) _ (fun W hW => Blk.range (pre := [.int .u8 x.kd, .int .i64 x.who]) (post := [.slice x.A x.n x.c]) (by simpa [Sa.cells] using hW)) Try.underlying27 rfl (by rw [HVx.out]; kernel_rfl)) (by assumption) ?_
     simp only [Act.put, sq1, sq2, sq3]
     refine tkq (i := 6) (d := 140) (v := (.pointer (some ⟨R, 0, none⟩))) rfl rfl (Or.inl ⟨by kernel_rfl, fun w hSw => ?_⟩) (by assumption) ?_
     ·(try dsimp only at hSw); go_simp <;> (try rfl)
     simp only [Act.put, sq1, sq2, sq3]
     refine tkq (i := 7) (d := 141) (v := (.pointer (some ⟨wr.heap.size, 1, none⟩))) rfl rfl (Or.inl ⟨by kernel_rfl, fun w hSw => ?_⟩) (by assumption) ?_
     ·(try dsimp only at hSw); go_simp <;> (try rfl)
     simp only [Act.put, sq1, sq2, sq3]
     refine tkq (i := 8) (d := 142) (v := (.int .i64 x.who)) rfl rfl (yields_load_at (by kernel_rfl) 3 (.tmp 141) rfl (.pointer (some ⟨wr.heap.size, 1, none⟩)) (by simp [Act.eval]) (.int .i64 x.who) (fun W hW => load_one' (Try.agg_i21 W) (Blk.cellAt (i := 1) hW (rfl)))) (by assumption) ?_
     simp only [Act.put, sq1, sq2, sq3]
     refine tkq (i := 9) (d := 143) (v := (.pointer (some ⟨wr.heap.size, 2, none⟩))) rfl rfl (Or.inl ⟨by kernel_rfl, fun w hSw => ?_⟩) (by assumption) ?_
     ·(try dsimp only at hSw); go_simp <;> (try rfl)
     simp only [Act.put, sq1, sq2, sq3]
     refine tkq (i := 10) (d := 144) (v := (.agg (vs x.dg).toArray)) rfl rfl (yieldsIf_load_mid (by kernel_rfl) 27 (.tmp 143) rfl wr.heap.size 2 (by simp [Act.eval]) (vs x.dg) _ (fun W hW => Blk.range (pre := [.int .u8 x.kd, .int .i64 x.who]) (post := [.slice x.A x.n x.c]) (by simpa [Sa.cells] using hW)) Try.underlying27 rfl (by rw [HVx.out]; kernel_rfl)) (by assumption) ?_
     simp only [Act.put, sq1, sq2, sq3]
     refine wpAnyH_ready (rs := [5]) (by kernel_rfl) (by simp) ?_
     refine AllReadyH.cons rfl (fun K hK => ?_) AllReadyH.nil
     go_simp
     refine (JX.commP slotv (JX.through slotv HJv.out (Below.refl _ wv).drew) HLo.out x.who x.dg HOk.out.dg).mono ?_
     rintro e u1 ⟨rfl, hj9⟩; have HJ1 := Lib.hid hj9; clear hj9
     go_wp2_with fail
     refine hK.out _ _ HJ1.out.blk (fun hHeld1 => ?_)
     clear hHeld hK K
     have hHeld := hHeld1
     clear hHeld1
     refine wpAnyH_ready (rs := [11]) (by kernel_rfl) (by simp) ?_
     refine AllReadyH.cons rfl (fun K hK => ?_) AllReadyH.nil
     go_simp
     refine (JX.commD slotv HJ1.out HLo.out x.who x.dg HOk.out.dg).mono ?_
     rintro e u2 ⟨rfl, hj9⟩; have HJ2 := Lib.hid hj9; clear hj9
     go_wp2_with fail
     refine hK.out _ _ HJ2.out.blk (fun hHeld1 => ?_)
     clear hHeld hK K
     have hHeld := hHeld1
     clear hHeld1
     refine tkq (i := 12) (d := 146) (v := (.bool true)) rfl rfl (Or.inl ⟨by kernel_rfl, fun w hSw => ?_⟩) (by assumption) ?_
     ·(try dsimp only at hSw); go_simp <;> (try rfl)
     simp only [Act.put, sq1, sq2, sq3]
     refine tkq (i := 13) (d := 16) (v := (.bool true)) rfl rfl (Or.inl ⟨by kernel_rfl, fun w hSw => ?_⟩) (by assumption) ?_
     ·(try dsimp only at hSw); go_simp <;> (try rfl)
     simp only [Act.put, sq1, sq2, sq3]
     refine wpAnyH_done (by kernel_rfl) ?_ _
     go_wp2_with fail
     go_meet
     case rel => exact ⟨rfl, rfl, (commS s x.who x.dg).1, HJ2.out, HBs.out.comm x.who x.dg⟩
   case rest =>
    obtain ⟨rfl, rfl, s2, hj, hbd⟩ := hcut
    have HJc := Lib.hid hj
    have HBd := Lib.hid hbd
    have HLc := Lib.hid (hbd.low HN1.out HN7.out (by have := HM.out; omega))
    clear hj hbd k0 k34 hr
    go_upto_region 26 with (first
     | (go_at_call 39; (with_reducible refine (JX.votesP slotv HJc.out HLc.out).mono ?_); rintro e w6 ⟨rfl, hb9⟩; have HJ6 := Lib.hid (HJc.out.through slotv hb9); clear hb9)
     | (go_at_call 38; (with_reducible refine (JX.proposalP slotv HJ6.out HLc.out).mono ?_); rintro e w7 ⟨d9, E9, k9, c9, rfl, hd9, hh9, hb9⟩; have HJ7 := Lib.hid (HJ6.out.through slotv hb9); have HD9 := Lib.hid hd9; have HH9 := Lib.hid hh9; have HV9 : Hid ((vs d9).length = 32) := Lib.hid (D_len d9 hd9); clear hd9 hh9 hb9)
     | (refine wpList_store_blk rfl 27 (.tmp 19) (.tmp 155) rfl w7.heap.size (vs d9) rfl rfl 27 (vs dgZ) (Blk.fresh rfl rfl) (by rw [HV9.out]; kernel_rfl) (HZl.out.trans HV9.out.symm) (D_one d9) ?_; intro w8 hb9 hg9; have HB8 := Lib.hid hb9; have HN8 := Lib.hid (below_new hg9); have HS8 := Lib.hid (HJ7.out.js.through slotv HN8.out); clear hb9 hg9))
    obtain ⟨B, nb, cb, P, cp, C, cc, hbx, heb, hdg⟩ := HS8.out.docBox
    have HBx := Lib.hid hbx
    have HEb := Lib.hid heb
    have HDg := Lib.hid hdg
    have HVg : Hid ((vs s2.dg).length = 32) := Lib.hid (D_len _ hdg)
    clear hbx heb hdg
    cases hhas : s2.has with
    | true =>
     have HHs := Lib.hid hhas
     obtain ⟨rfl, he9⟩ := HH9.out hhas
     have HE9 := Lib.hid (he9.through HN8.out)
     have hxe := fun W => eq_dgy s2.dg s2.dg HDg.out HDg.out W
     simp only [beq_self_eq_true] at hxe
     clear he9 hhas
     refine wp_region_held_drew (S := fun W => Below w8.heap.size w8 W) (by kernel_rfl) (Below.refl _ w8).drew (fun hHeld => ?_)
     change wpAnyH _ _ _ _ _ _ #[false, false, false, false, false, false, false, false, false, false, false, false, false, false, false, false, false, false, false, false, false, false, false, false, false, false, false, false, false, false, false, false, false, false, false, false, false, false, false, false, false, false, false, false, false, false, false, false, false, false, false, false, false, false, false, false, false, false, false, false, false, false, false, false] _ _
     refine tkq (i := 0) (d := 158) (v := (.bool true)) rfl rfl (Or.inl ⟨by kernel_rfl, fun w hSw => ?_⟩) (by assumption) ?_
     ·(try dsimp only at hSw); go_simp <;> (try rfl)
     simp only [Act.put, sq1, sq2, sq3]
     refine tkq (i := 1) (d := 159) (v := (.bool false)) rfl rfl (Or.inl ⟨by kernel_rfl, fun w hSw => ?_⟩) (by assumption) ?_
     ·(try dsimp only at hSw); go_simp <;> (try rfl)
     simp only [Act.put, sq1, sq2, sq3]
     refine tkq (i := 2) (d := 160) (v := (.bool false)) rfl rfl (Or.inl ⟨by kernel_rfl, fun w hSw => ?_⟩) (by assumption) ?_
     ·(try dsimp only at hSw); go_simp <;> (try rfl)
     simp only [Act.put, sq1, sq2, sq3]
     refine tkq (i := 3) (d := 161) (v := (.int .i64 (s2.pr.length : Int))) rfl rfl (Or.inl ⟨by kernel_rfl, fun w hSw => ?_⟩) (by assumption) ?_
     ·(try dsimp only at hSw); go_simp <;> (try rfl)
     simp only [Act.put, sq1, sq2, sq3]
     refine tkq (i := 4) (d := 162) (v := (.pointer (some ⟨R, 0, none⟩))) rfl rfl (Or.inl ⟨by kernel_rfl, fun w hSw => ?_⟩) (by assumption) ?_
     ·(try dsimp only at hSw); go_simp <;> (try rfl)
     simp only [Act.put, sq1, sq2, sq3]
     refine tkq (i := 5) (d := 163) (v := (.pointer (some ⟨R, 0, none⟩))) rfl rfl (Or.inl ⟨by kernel_rfl, fun w hSw => ?_⟩) (by assumption) ?_
     ·(try dsimp only at hSw); go_simp <;> (try rfl)
     simp only [Act.put, sq1, sq2, sq3]
     refine tkq (i := 6) (d := 164) (v := (.pointer (some ⟨R, 35, none⟩))) rfl rfl (Or.inl ⟨by kernel_rfl, fun w hSw => ?_⟩) (by assumption) ?_
     ·(try dsimp only at hSw); go_simp <;> (try rfl)
     simp only [Act.put, sq1, sq2, sq3]
     refine tkq (i := 7) (d := 165) (v := (.slice P s2.pr.length cp)) rfl rfl (yields_load_at (by kernel_rfl) 78 (.tmp 164) rfl (.pointer (some ⟨R, 35, none⟩)) (by simp [Act.eval]) (.slice P s2.pr.length cp) (fun W hW => load_one' (Try.agg_wds W) (Blk.cellAt (i := 35) (HBx.out.through hW) (slC_p _ _ _ _ HDg.out)))) (by assumption) ?_
     simp only [Act.put, sq1, sq2, sq3]
     refine tkq (i := 8) (d := 166) (v := (.int .i64 (s2.pr.length : Int))) rfl rfl (Or.inl ⟨by kernel_rfl, fun w hSw => ?_⟩) (by assumption) ?_
     ·(try dsimp only at hSw); go_simp <;> (try rfl)
     simp only [Act.put, sq1, sq2, sq3]
     refine tkq (i := 9) (d := 167) (v := (.bool false)) rfl rfl (Or.inl ⟨by kernel_rfl, fun w hSw => ?_⟩) (by assumption) ?_
     ·(try dsimp only at hSw); go_simp <;> (try rfl)
     simp only [Act.put, sq1, sq2, sq3]
     refine tkq (i := 10) (d := 168) (v := (.bool false)) rfl rfl (Or.inl ⟨by kernel_rfl, fun w hSw => ?_⟩) (by assumption) ?_
     ·(try dsimp only at hSw); go_simp <;> (try rfl)
     simp only [Act.put, sq1, sq2, sq3]
     refine tkq (i := 11) (d := 169) (v := (.bool false)) rfl rfl (Or.inl ⟨by kernel_rfl, fun w hSw => ?_⟩) (by assumption) ?_
     ·(try dsimp only at hSw); go_simp <;> (try rfl)
     simp only [Act.put, sq1, sq2, sq3]
     refine tkq (i := 12) (d := 170) (v := (.int .i64 (s2.cm.length : Int))) rfl rfl (Or.inl ⟨by kernel_rfl, fun w hSw => ?_⟩) (by assumption) ?_
     ·(try dsimp only at hSw); go_simp <;> (try rfl)
     simp only [Act.put, sq1, sq2, sq3]
     refine tkq (i := 13) (d := 171) (v := (.pointer (some ⟨R, 0, none⟩))) rfl rfl (Or.inl ⟨by kernel_rfl, fun w hSw => ?_⟩) (by assumption) ?_
     ·(try dsimp only at hSw); go_simp <;> (try rfl)
     simp only [Act.put, sq1, sq2, sq3]
     refine tkq (i := 14) (d := 172) (v := (.pointer (some ⟨R, 0, none⟩))) rfl rfl (Or.inl ⟨by kernel_rfl, fun w hSw => ?_⟩) (by assumption) ?_
     ·(try dsimp only at hSw); go_simp <;> (try rfl)
     simp only [Act.put, sq1, sq2, sq3]
     refine tkq (i := 15) (d := 173) (v := (.pointer (some ⟨R, 36, none⟩))) rfl rfl (Or.inl ⟨by kernel_rfl, fun w hSw => ?_⟩) (by assumption) ?_
     ·(try dsimp only at hSw); go_simp <;> (try rfl)
     simp only [Act.put, sq1, sq2, sq3]
     refine tkq (i := 16) (d := 174) (v := (.slice C s2.cm.length cc)) rfl rfl (yields_load_at (by kernel_rfl) 78 (.tmp 173) rfl (.pointer (some ⟨R, 36, none⟩)) (by simp [Act.eval]) (.slice C s2.cm.length cc) (fun W hW => load_one' (Try.agg_wds W) (Blk.cellAt (i := 36) (HBx.out.through hW) (slC_c _ _ _ _ HDg.out)))) (by assumption) ?_
     simp only [Act.put, sq1, sq2, sq3]
     refine tkq (i := 17) (d := 175) (v := (.int .i64 (s2.cm.length : Int))) rfl rfl (Or.inl ⟨by kernel_rfl, fun w hSw => ?_⟩) (by assumption) ?_
     ·(try dsimp only at hSw); go_simp <;> (try rfl)
     simp only [Act.put, sq1, sq2, sq3]
     refine tkq (i := 18) (d := 176) (v := (.bool false)) rfl rfl (Or.inl ⟨by kernel_rfl, fun w hSw => ?_⟩) (by assumption) ?_
     ·(try dsimp only at hSw); go_simp <;> (try rfl)
     simp only [Act.put, sq1, sq2, sq3]
     refine tkq (i := 19) (d := 177) (v := (.bool false)) rfl rfl (Or.inl ⟨by kernel_rfl, fun w hSw => ?_⟩) (by assumption) ?_
     ·(try dsimp only at hSw); go_simp <;> (try rfl)
     simp only [Act.put, sq1, sq2, sq3]
     refine tkq (i := 20) (d := 178) (v := (.bool false)) rfl rfl (Or.inl ⟨by kernel_rfl, fun w hSw => ?_⟩) (by assumption) ?_
     ·(try dsimp only at hSw); go_simp <;> (try rfl)
     simp only [Act.put, sq1, sq2, sq3]
     refine tkq (i := 21) (d := 179) (v := (.bool true)) rfl rfl (Or.inl ⟨by kernel_rfl, fun w hSw => ?_⟩) (by assumption) ?_
     ·(try dsimp only at hSw); go_simp <;> (try rfl)
     simp only [Act.put, sq1, sq2, sq3]
     refine tkq (i := 22) (d := 180) (v := (.pointer (some ⟨R, 0, none⟩))) rfl rfl (Or.inl ⟨by kernel_rfl, fun w hSw => ?_⟩) (by assumption) ?_
     ·(try dsimp only at hSw); go_simp <;> (try rfl)
     simp only [Act.put, sq1, sq2, sq3]
     refine tkq (i := 23) (d := 181) (v := (.pointer (some ⟨R, 0, none⟩))) rfl rfl (Or.inl ⟨by kernel_rfl, fun w hSw => ?_⟩) (by assumption) ?_
     ·(try dsimp only at hSw); go_simp <;> (try rfl)
     simp only [Act.put, sq1, sq2, sq3]
     refine tkq (i := 24) (d := 182) (v := (.pointer (some ⟨R, 1, none⟩))) rfl rfl (Or.inl ⟨by kernel_rfl, fun w hSw => ?_⟩) (by assumption) ?_
     ·(try dsimp only at hSw); go_simp <;> (try rfl)
     simp only [Act.put, sq1, sq2, sq3]
     refine tkq (i := 25) (d := 183) (v := (.bool true)) rfl rfl (yields_load_at (by kernel_rfl) 4 (.tmp 182) rfl (.pointer (some ⟨R, 1, none⟩)) (by simp [Act.eval]) (.bool true) (fun W hW => load_one' (Try.agg_bool20 W) (Blk.cellAt (i := 1) (HBx.out.through hW) (by rw [slC, HHs.out]; rfl)))) (by assumption) ?_
     simp only [Act.put, sq1, sq2, sq3]
     refine tkq (i := 26) (d := 184) (v := (.bool false)) rfl rfl (Or.inl ⟨by kernel_rfl, fun w hSw => ?_⟩) (by assumption) ?_
     ·(try dsimp only at hSw); go_simp <;> (try rfl)
     simp only [Act.put, sq1, sq2, sq3]
     refine tkq (i := 27) (d := 185) (v := (.bool false)) rfl rfl (Or.inl ⟨by kernel_rfl, fun w hSw => ?_⟩) (by assumption) ?_
     ·(try dsimp only at hSw); go_simp <;> (try rfl)
     simp only [Act.put, sq1, sq2, sq3]
     refine tkq (i := 28) (d := 186) (v := (.bool false)) rfl rfl (Or.inl ⟨by kernel_rfl, fun w hSw => ?_⟩) (by assumption) ?_
     ·(try dsimp only at hSw); go_simp <;> (try rfl)
     simp only [Act.put, sq1, sq2, sq3]
     refine tkq (i := 29) (d := 187) (v := (.bool true)) rfl rfl (Or.inl ⟨by kernel_rfl, fun w hSw => ?_⟩) (by assumption) ?_
     ·(try dsimp only at hSw); go_simp <;> (try rfl)
     simp only [Act.put, sq1, sq2, sq3]
     refine tkq (i := 30) (d := 188) (v := (.bool true)) rfl rfl (Or.inl ⟨by kernel_rfl, fun w hSw => ?_⟩) (by assumption) ?_
     ·(try dsimp only at hSw); go_simp <;> (try rfl)
     simp only [Act.put, sq1, sq2, sq3]
     refine tkq (i := 31) (d := 189) (v := (.agg (vs s2.dg).toArray)) rfl rfl (yieldsIf_load_mid (by kernel_rfl) 27 (.tmp 19) rfl w7.heap.size 0 (by simp [Act.eval]) (vs s2.dg) _ (fun W hW => Blk.range (pre := []) (post := []) (by simpa using (HB8.out.through hW))) Try.underlying27 rfl (by rw [HVg.out]; kernel_rfl)) (by assumption) ?_
     simp only [Act.put, sq1, sq2, sq3]
     refine tkq (i := 32) (d := 190) (v := (.pointer (some ⟨R, 0, none⟩))) rfl rfl (Or.inl ⟨by kernel_rfl, fun w hSw => ?_⟩) (by assumption) ?_
     ·(try dsimp only at hSw); go_simp <;> (try rfl)
     simp only [Act.put, sq1, sq2, sq3]
     refine tkq (i := 33) (d := 191) (v := (.pointer (some ⟨R, 0, none⟩))) rfl rfl (Or.inl ⟨by kernel_rfl, fun w hSw => ?_⟩) (by assumption) ?_
     ·(try dsimp only at hSw); go_simp <;> (try rfl)
     simp only [Act.put, sq1, sq2, sq3]
     refine tkq (i := 34) (d := 192) (v := (.pointer (some ⟨R, 2, none⟩))) rfl rfl (Or.inl ⟨by kernel_rfl, fun w hSw => ?_⟩) (by assumption) ?_
     ·(try dsimp only at hSw); go_simp <;> (try rfl)
     simp only [Act.put, sq1, sq2, sq3]
     refine tkq (i := 35) (d := 193) (v := (.agg (vs s2.dg).toArray)) rfl rfl (yieldsIf_load_mid (by kernel_rfl) 27 (.tmp 192) rfl R 2 (by simp [Act.eval]) (vs s2.dg) _ (fun W hW => slC_dg _ _ _ _ _ _ (HBx.out.through hW)) Try.underlying27 rfl (by rw [HVg.out]; kernel_rfl)) (by assumption) ?_
     simp only [Act.put, sq1, sq2, sq3]
     refine tkq (i := 36) (d := 194) (v := (.bool false)) rfl rfl (Or.inl ⟨by kernel_rfl, fun w hSw => ?_⟩) (by assumption) ?_
     ·(try dsimp only at hSw); go_simp <;> (try rfl)
     simp only [Act.put, sq1, sq2, sq3]
     refine tkq (i := 37) (d := 195) (v := (.bool false)) rfl rfl (Or.inl ⟨by kernel_rfl, fun w hSw => ?_⟩) (by assumption) ?_
     ·(try dsimp only at hSw); go_simp <;> (try rfl)
     simp only [Act.put, sq1, sq2, sq3]
     refine tkq (i := 38) (d := 196) (v := (.slice E9 k9 c9)) rfl rfl (Or.inl ⟨by kernel_rfl, fun w hSw => ?_⟩) (by assumption) ?_
     ·(try dsimp only at hSw); go_simp <;> (try rfl)
     simp only [Act.put, sq1, sq2, sq3]
     refine tkq (i := 39) (d := 197) (v := (.pointer (some ⟨R, 0, none⟩))) rfl rfl (Or.inl ⟨by kernel_rfl, fun w hSw => ?_⟩) (by assumption) ?_
     ·(try dsimp only at hSw); go_simp <;> (try rfl)
     simp only [Act.put, sq1, sq2, sq3]
     refine tkq (i := 40) (d := 198) (v := (.pointer (some ⟨R, 0, none⟩))) rfl rfl (Or.inl ⟨by kernel_rfl, fun w hSw => ?_⟩) (by assumption) ?_
     ·(try dsimp only at hSw); go_simp <;> (try rfl)
     simp only [Act.put, sq1, sq2, sq3]
     refine tkq (i := 41) (d := 199) (v := (.pointer (some ⟨R, 34, none⟩))) rfl rfl (Or.inl ⟨by kernel_rfl, fun w hSw => ?_⟩) (by assumption) ?_
     ·(try dsimp only at hSw); go_simp <;> (try rfl)
     simp only [Act.put, sq1, sq2, sq3]
     refine tkq (i := 42) (d := 200) (v := (.slice B nb cb)) rfl rfl (yields_load_at (by kernel_rfl) 68 (.tmp 199) rfl (.pointer (some ⟨R, 34, none⟩)) (by simp [Act.eval]) (.slice B nb cb) (fun W hW => load_one' (Try.agg_eys20 W) (Blk.cellAt (i := 34) (HBx.out.through hW) (slC_b _ _ _ _ HDg.out)))) (by assumption) ?_
     simp only [Act.put, sq1, sq2, sq3]
     refine wpAnyH_ready (rs := [43]) (by kernel_rfl) (by simp) ?_
     refine AllReadyH.cons rfl (fun K hK => ?_) AllReadyH.nil
     go_simp
     refine (rsame15_any s2.es s2.es E9 k9 c9 B nb cb _ (HE9.out.through hHeld) (HEb.out.through hHeld) (by have := HE9.out.len; have := HLc.out.es; omega)).mono ?_
     rintro e u3 ⟨rfl, hb9⟩; rw [sameB_self]; have X3 := Lib.hid (below_step hHeld hb9); clear hb9
     go_wp2_with fail
     refine hK.out _ _ X3.out (fun hHeld1 => ?_)
     clear hHeld hK K
     have hHeld := hHeld1
     clear hHeld1
     refine tkq (i := 44) (d := 202) (v := (.bool false)) rfl rfl (Or.inl ⟨by kernel_rfl, fun w hSw => ?_⟩) (by assumption) ?_
     ·(try dsimp only at hSw); go_simp <;> (try rfl)
     simp only [Act.put, sq1, sq2, sq3]
     refine tkq (i := 45) (d := 203) (v := (.bool false)) rfl rfl (Or.inl ⟨by kernel_rfl, fun w hSw => ?_⟩) (by assumption) ?_
     ·(try dsimp only at hSw); go_simp <;> (try rfl)
     simp only [Act.put, sq1, sq2, sq3]
     refine tkq (i := 46) (d := 204) (v := (.bool false)) rfl rfl (Or.inl ⟨by kernel_rfl, fun w hSw => ?_⟩) (by assumption) ?_
     ·(try dsimp only at hSw); go_simp <;> (try rfl)
     simp only [Act.put, sq1, sq2, sq3]
     refine tkq (i := 47) (d := 205) (v := (.bool false)) rfl rfl (Or.inl ⟨by kernel_rfl, fun w hSw => ?_⟩) (by assumption) ?_
     ·(try dsimp only at hSw); go_simp <;> (try rfl)
     simp only [Act.put, sq1, sq2, sq3]
     refine tkq (i := 48) (d := 206) (v := (.bool false)) rfl rfl (Or.inl ⟨by kernel_rfl, fun w hSw => ?_⟩) (by assumption) ?_
     ·(try dsimp only at hSw); go_simp <;> (try rfl)
     simp only [Act.put, sq1, sq2, sq3]
     refine tkq (i := 49) (d := 207) (v := (v)) rfl rfl (Or.inl ⟨by kernel_rfl, fun w hSw => ?_⟩) (by assumption) ?_
     ·(try dsimp only at hSw); go_simp <;> (try rfl)
     simp only [Act.put, sq1, sq2, sq3]
     refine tkq (i := 50) (d := 208) (v := (.int .i64 p)) rfl rfl (Or.inl ⟨by kernel_rfl, fun w hSw => ?_⟩) (by assumption) ?_
     ·(try dsimp only at hSw); go_simp <;> (try rfl)
     simp only [Act.put, sq1, sq2, sq3]
     refine tkq (i := 52) (d := 210) (v := (.pointer (some ⟨R, 0, none⟩))) rfl rfl (Or.inl ⟨by kernel_rfl, fun w hSw => ?_⟩) (by assumption) ?_
     ·(try dsimp only at hSw); go_simp <;> (try rfl)
     simp only [Act.put, sq1, sq2, sq3]
     refine tkq (i := 53) (d := 211) (v := (.int .i64 p)) rfl rfl (Or.inl ⟨by kernel_rfl, fun w hSw => ?_⟩) (by assumption) ?_
     ·(try dsimp only at hSw); go_simp <;> (try rfl)
     simp only [Act.put, sq1, sq2, sq3]
     refine wpAnyH_ready (rs := [51]) (by kernel_rfl) (by simp) ?_
     refine AllReadyH.cons rfl (fun K hK => ?_) AllReadyH.nil
     go_simp
     refine (JS.preparedP slotv (HS8.out.through slotv hHeld) HLc.out p).mono ?_
     rintro e u4 ⟨rfl, hb9⟩; have X4 := Lib.hid (below_step hHeld hb9); clear hb9
     go_wp2_with fail
     refine hK.out _ _ X4.out (fun hHeld1 => ?_)
     clear hHeld hK K
     have hHeld := hHeld1
     clear hHeld1
     refine wpAnyH_ready (rs := [54]) (by kernel_rfl) (by simp) ?_
     refine AllReadyH.cons rfl (fun K hK => ?_) AllReadyH.nil
     go_simp
     refine (JS.preparedD (HS8.out.through slotv hHeld) HLc.out p).mono ?_
     rintro e u5 ⟨rfl, hb9⟩; have X5 := Lib.hid (below_step hHeld hb9); clear hb9
     go_wp2_with fail
     refine hK.out _ _ X5.out (fun hHeld1 => ?_)
     clear hHeld hK K
     have hHeld := hHeld1
     clear hHeld1
     refine tkq (i := 55) (d := 213) (v := (.bool false)) rfl rfl (Or.inl ⟨by kernel_rfl, fun w hSw => ?_⟩) (by assumption) ?_
     ·(try dsimp only at hSw); go_simp <;> (try rfl)
     simp only [Act.put, sq1, sq2, sq3]
     refine tkq (i := 56) (d := 214) (v := (.bool false)) rfl rfl (Or.inl ⟨by kernel_rfl, fun w hSw => ?_⟩) (by assumption) ?_
     ·(try dsimp only at hSw); go_simp <;> (try rfl)
     simp only [Act.put, sq1, sq2, sq3]
     refine tkq (i := 57) (d := 215) (v := (.bool false)) rfl rfl (Or.inl ⟨by kernel_rfl, fun w hSw => ?_⟩) (by assumption) ?_
     ·(try dsimp only at hSw); go_simp <;> (try rfl)
     simp only [Act.put, sq1, sq2, sq3]
     refine tkq (i := 58) (d := 216) (v := (v)) rfl rfl (Or.inl ⟨by kernel_rfl, fun w hSw => ?_⟩) (by assumption) ?_
     ·(try dsimp only at hSw); go_simp <;> (try rfl)
     simp only [Act.put, sq1, sq2, sq3]
     refine tkq (i := 60) (d := 218) (v := (.pointer (some ⟨R, 0, none⟩))) rfl rfl (Or.inl ⟨by kernel_rfl, fun w hSw => ?_⟩) (by assumption) ?_
     ·(try dsimp only at hSw); go_simp <;> (try rfl)
     simp only [Act.put, sq1, sq2, sq3]
     refine wpAnyH_ready (rs := [59]) (by kernel_rfl) (by simp) ?_
     refine AllReadyH.cons rfl (fun K hK => ?_) AllReadyH.nil
     go_simp
     refine (JS.committedP slotv (HS8.out.through slotv hHeld) HLc.out).mono ?_
     rintro e u6 ⟨rfl, hb9⟩; have X6 := Lib.hid (below_step hHeld hb9); clear hb9
     go_wp2_with fail
     refine hK.out _ _ X6.out (fun hHeld1 => ?_)
     clear hHeld hK K
     have hHeld := hHeld1
     clear hHeld1
     refine wpAnyH_ready (rs := [61]) (by kernel_rfl) (by simp) ?_
     refine AllReadyH.cons rfl (fun K hK => ?_) AllReadyH.nil
     go_simp
     refine (JS.committedD (HS8.out.through slotv hHeld) HLc.out).mono ?_
     rintro e u7 ⟨rfl, hb9⟩; have X7 := Lib.hid (below_step hHeld hb9); clear hb9
     go_wp2_with fail
     refine hK.out _ _ X7.out (fun hHeld1 => ?_)
     clear hHeld hK K
     have hHeld := hHeld1
     clear hHeld1
     refine tkq (i := 62) (d := 220) (v := (.bool false)) rfl rfl (Or.inl ⟨by kernel_rfl, fun w hSw => ?_⟩) (by assumption) ?_
     ·(try dsimp only at hSw); go_simp <;> (try rfl)
     simp only [Act.put, sq1, sq2, sq3]
     refine tkq (i := 63) (d := 221) (v := (.bool false)) rfl rfl (Or.inl ⟨by kernel_rfl, fun w hSw => ?_⟩) (by assumption) ?_
     ·(try dsimp only at hSw); go_simp <;> (try rfl)
     simp only [Act.put, sq1, sq2, sq3]
     refine wpAnyH_done (by kernel_rfl) ?_ _
     go_wp2_with fail
     go_roundw
     case rel => exact ⟨i + 1, s2, by omega, by go_num, HS8.out.through slotv X7.out, HBd.out⟩
     case measure => simp [intOf]; omega
    | false =>
     have HHs := Lib.hid hhas
     clear hhas
     refine wp_region_held_drew (S := fun W => Below w8.heap.size w8 W) (by kernel_rfl) (Below.refl _ w8).drew (fun hHeld => ?_)
     change wpAnyH _ _ _ _ _ _ #[false, false, false, false, false, false, false, false, false, false, false, false, false, false, false, false, false, false, false, false, false, false, false, false, false, false, false, false, false, false, false, false, false, false, false, false, false, false, false, false, false, false, false, false, false, false, false, false, false, false, false, false, false, false, false, false, false, false, false, false, false, false, false, false] _ _
     refine tkq (i := 0) (d := 158) (v := (.bool true)) rfl rfl (Or.inl ⟨by kernel_rfl, fun w hSw => ?_⟩) (by assumption) ?_
     ·(try dsimp only at hSw); go_simp <;> (try rfl)
     simp only [Act.put, sq1, sq2, sq3]
     refine tkq (i := 1) (d := 159) (v := (.bool false)) rfl rfl (Or.inl ⟨by kernel_rfl, fun w hSw => ?_⟩) (by assumption) ?_
     ·(try dsimp only at hSw); go_simp <;> (try rfl)
     simp only [Act.put, sq1, sq2, sq3]
     refine tkq (i := 2) (d := 160) (v := (.bool false)) rfl rfl (Or.inl ⟨by kernel_rfl, fun w hSw => ?_⟩) (by assumption) ?_
     ·(try dsimp only at hSw); go_simp <;> (try rfl)
     simp only [Act.put, sq1, sq2, sq3]
     refine tkq (i := 3) (d := 161) (v := (.int .i64 (s2.pr.length : Int))) rfl rfl (Or.inl ⟨by kernel_rfl, fun w hSw => ?_⟩) (by assumption) ?_
     ·(try dsimp only at hSw); go_simp <;> (try rfl)
     simp only [Act.put, sq1, sq2, sq3]
     refine tkq (i := 4) (d := 162) (v := (.pointer (some ⟨R, 0, none⟩))) rfl rfl (Or.inl ⟨by kernel_rfl, fun w hSw => ?_⟩) (by assumption) ?_
     ·(try dsimp only at hSw); go_simp <;> (try rfl)
     simp only [Act.put, sq1, sq2, sq3]
     refine tkq (i := 5) (d := 163) (v := (.pointer (some ⟨R, 0, none⟩))) rfl rfl (Or.inl ⟨by kernel_rfl, fun w hSw => ?_⟩) (by assumption) ?_
     ·(try dsimp only at hSw); go_simp <;> (try rfl)
     simp only [Act.put, sq1, sq2, sq3]
     refine tkq (i := 6) (d := 164) (v := (.pointer (some ⟨R, 35, none⟩))) rfl rfl (Or.inl ⟨by kernel_rfl, fun w hSw => ?_⟩) (by assumption) ?_
     ·(try dsimp only at hSw); go_simp <;> (try rfl)
     simp only [Act.put, sq1, sq2, sq3]
     refine tkq (i := 7) (d := 165) (v := (.slice P s2.pr.length cp)) rfl rfl (yields_load_at (by kernel_rfl) 78 (.tmp 164) rfl (.pointer (some ⟨R, 35, none⟩)) (by simp [Act.eval]) (.slice P s2.pr.length cp) (fun W hW => load_one' (Try.agg_wds W) (Blk.cellAt (i := 35) (HBx.out.through hW) (slC_p _ _ _ _ HDg.out)))) (by assumption) ?_
     simp only [Act.put, sq1, sq2, sq3]
     refine tkq (i := 8) (d := 166) (v := (.int .i64 (s2.pr.length : Int))) rfl rfl (Or.inl ⟨by kernel_rfl, fun w hSw => ?_⟩) (by assumption) ?_
     ·(try dsimp only at hSw); go_simp <;> (try rfl)
     simp only [Act.put, sq1, sq2, sq3]
     refine tkq (i := 9) (d := 167) (v := (.bool false)) rfl rfl (Or.inl ⟨by kernel_rfl, fun w hSw => ?_⟩) (by assumption) ?_
     ·(try dsimp only at hSw); go_simp <;> (try rfl)
     simp only [Act.put, sq1, sq2, sq3]
     refine tkq (i := 10) (d := 168) (v := (.bool false)) rfl rfl (Or.inl ⟨by kernel_rfl, fun w hSw => ?_⟩) (by assumption) ?_
     ·(try dsimp only at hSw); go_simp <;> (try rfl)
     simp only [Act.put, sq1, sq2, sq3]
     refine tkq (i := 11) (d := 169) (v := (.bool false)) rfl rfl (Or.inl ⟨by kernel_rfl, fun w hSw => ?_⟩) (by assumption) ?_
     ·(try dsimp only at hSw); go_simp <;> (try rfl)
     simp only [Act.put, sq1, sq2, sq3]
     refine tkq (i := 12) (d := 170) (v := (.int .i64 (s2.cm.length : Int))) rfl rfl (Or.inl ⟨by kernel_rfl, fun w hSw => ?_⟩) (by assumption) ?_
     ·(try dsimp only at hSw); go_simp <;> (try rfl)
     simp only [Act.put, sq1, sq2, sq3]
     refine tkq (i := 13) (d := 171) (v := (.pointer (some ⟨R, 0, none⟩))) rfl rfl (Or.inl ⟨by kernel_rfl, fun w hSw => ?_⟩) (by assumption) ?_
     ·(try dsimp only at hSw); go_simp <;> (try rfl)
     simp only [Act.put, sq1, sq2, sq3]
     refine tkq (i := 14) (d := 172) (v := (.pointer (some ⟨R, 0, none⟩))) rfl rfl (Or.inl ⟨by kernel_rfl, fun w hSw => ?_⟩) (by assumption) ?_
     ·(try dsimp only at hSw); go_simp <;> (try rfl)
     simp only [Act.put, sq1, sq2, sq3]
     refine tkq (i := 15) (d := 173) (v := (.pointer (some ⟨R, 36, none⟩))) rfl rfl (Or.inl ⟨by kernel_rfl, fun w hSw => ?_⟩) (by assumption) ?_
     ·(try dsimp only at hSw); go_simp <;> (try rfl)
     simp only [Act.put, sq1, sq2, sq3]
     refine tkq (i := 16) (d := 174) (v := (.slice C s2.cm.length cc)) rfl rfl (yields_load_at (by kernel_rfl) 78 (.tmp 173) rfl (.pointer (some ⟨R, 36, none⟩)) (by simp [Act.eval]) (.slice C s2.cm.length cc) (fun W hW => load_one' (Try.agg_wds W) (Blk.cellAt (i := 36) (HBx.out.through hW) (slC_c _ _ _ _ HDg.out)))) (by assumption) ?_
     simp only [Act.put, sq1, sq2, sq3]
     refine tkq (i := 17) (d := 175) (v := (.int .i64 (s2.cm.length : Int))) rfl rfl (Or.inl ⟨by kernel_rfl, fun w hSw => ?_⟩) (by assumption) ?_
     ·(try dsimp only at hSw); go_simp <;> (try rfl)
     simp only [Act.put, sq1, sq2, sq3]
     refine tkq (i := 18) (d := 176) (v := (.bool false)) rfl rfl (Or.inl ⟨by kernel_rfl, fun w hSw => ?_⟩) (by assumption) ?_
     ·(try dsimp only at hSw); go_simp <;> (try rfl)
     simp only [Act.put, sq1, sq2, sq3]
     refine tkq (i := 19) (d := 177) (v := (.bool false)) rfl rfl (Or.inl ⟨by kernel_rfl, fun w hSw => ?_⟩) (by assumption) ?_
     ·(try dsimp only at hSw); go_simp <;> (try rfl)
     simp only [Act.put, sq1, sq2, sq3]
     refine tkq (i := 20) (d := 178) (v := (.bool false)) rfl rfl (Or.inl ⟨by kernel_rfl, fun w hSw => ?_⟩) (by assumption) ?_
     ·(try dsimp only at hSw); go_simp <;> (try rfl)
     simp only [Act.put, sq1, sq2, sq3]
     refine tkq (i := 21) (d := 179) (v := (.bool false)) rfl rfl (Or.inl ⟨by kernel_rfl, fun w hSw => ?_⟩) (by assumption) ?_
     ·(try dsimp only at hSw); go_simp <;> (try rfl)
     simp only [Act.put, sq1, sq2, sq3]
     refine tkq (i := 22) (d := 180) (v := (.pointer (some ⟨R, 0, none⟩))) rfl rfl (Or.inl ⟨by kernel_rfl, fun w hSw => ?_⟩) (by assumption) ?_
     ·(try dsimp only at hSw); go_simp <;> (try rfl)
     simp only [Act.put, sq1, sq2, sq3]
     refine tkq (i := 23) (d := 181) (v := (.pointer (some ⟨R, 0, none⟩))) rfl rfl (Or.inl ⟨by kernel_rfl, fun w hSw => ?_⟩) (by assumption) ?_
     ·(try dsimp only at hSw); go_simp <;> (try rfl)
     simp only [Act.put, sq1, sq2, sq3]
     refine tkq (i := 24) (d := 182) (v := (.pointer (some ⟨R, 1, none⟩))) rfl rfl (Or.inl ⟨by kernel_rfl, fun w hSw => ?_⟩) (by assumption) ?_
     ·(try dsimp only at hSw); go_simp <;> (try rfl)
     simp only [Act.put, sq1, sq2, sq3]
     refine tkq (i := 25) (d := 183) (v := (.bool false)) rfl rfl (yields_load_at (by kernel_rfl) 4 (.tmp 182) rfl (.pointer (some ⟨R, 1, none⟩)) (by simp [Act.eval]) (.bool false) (fun W hW => load_one' (Try.agg_bool20 W) (Blk.cellAt (i := 1) (HBx.out.through hW) (by rw [slC, HHs.out]; rfl)))) (by assumption) ?_
     simp only [Act.put, sq1, sq2, sq3]
     refine tkq (i := 26) (d := 184) (v := (.bool false)) rfl rfl (Or.inl ⟨by kernel_rfl, fun w hSw => ?_⟩) (by assumption) ?_
     ·(try dsimp only at hSw); go_simp <;> (try rfl)
     simp only [Act.put, sq1, sq2, sq3]
     refine tkq (i := 27) (d := 185) (v := (.bool false)) rfl rfl (Or.inl ⟨by kernel_rfl, fun w hSw => ?_⟩) (by assumption) ?_
     ·(try dsimp only at hSw); go_simp <;> (try rfl)
     simp only [Act.put, sq1, sq2, sq3]
     refine tkq (i := 28) (d := 186) (v := (.bool false)) rfl rfl (Or.inl ⟨by kernel_rfl, fun w hSw => ?_⟩) (by assumption) ?_
     ·(try dsimp only at hSw); go_simp <;> (try rfl)
     simp only [Act.put, sq1, sq2, sq3]
     refine tkq (i := 29) (d := 187) (v := (.bool false)) rfl rfl (Or.inl ⟨by kernel_rfl, fun w hSw => ?_⟩) (by assumption) ?_
     ·(try dsimp only at hSw); go_simp <;> (try rfl)
     simp only [Act.put, sq1, sq2, sq3]
     refine tkq (i := 30) (d := 188) (v := (.bool false)) rfl rfl (Or.inl ⟨by kernel_rfl, fun w hSw => ?_⟩) (by assumption) ?_
     ·(try dsimp only at hSw); go_simp <;> (try rfl)
     simp only [Act.put, sq1, sq2, sq3]
     refine tkv (i := 31) (d := 189) rfl rfl (by assumption) ?_
     simp only [Act.put, sq1, sq2, sq3]
     refine tkv (i := 32) (d := 190) rfl rfl (by assumption) ?_
     simp only [Act.put, sq1, sq2, sq3]
     refine tkv (i := 33) (d := 191) rfl rfl (by assumption) ?_
     simp only [Act.put, sq1, sq2, sq3]
     refine tkv (i := 34) (d := 192) rfl rfl (by assumption) ?_
     simp only [Act.put, sq1, sq2, sq3]
     refine tkv (i := 35) (d := 193) rfl rfl (by assumption) ?_
     simp only [Act.put, sq1, sq2, sq3]
     refine tkv (i := 36) (d := 194) rfl rfl (by assumption) ?_
     simp only [Act.put, sq1, sq2, sq3]
     refine tkv (i := 37) (d := 195) rfl rfl (by assumption) ?_
     simp only [Act.put, sq1, sq2, sq3]
     refine tkv (i := 38) (d := 196) rfl rfl (by assumption) ?_
     simp only [Act.put, sq1, sq2, sq3]
     refine tkv (i := 39) (d := 197) rfl rfl (by assumption) ?_
     simp only [Act.put, sq1, sq2, sq3]
     refine tkv (i := 40) (d := 198) rfl rfl (by assumption) ?_
     simp only [Act.put, sq1, sq2, sq3]
     refine tkv (i := 41) (d := 199) rfl rfl (by assumption) ?_
     simp only [Act.put, sq1, sq2, sq3]
     refine tkv (i := 42) (d := 200) rfl rfl (by assumption) ?_
     simp only [Act.put, sq1, sq2, sq3]
     refine tkv (i := 43) (d := 201) rfl rfl (by assumption) ?_
     simp only [Act.put, sq1, sq2, sq3]
     refine tkv (i := 44) (d := 202) rfl rfl (by assumption) ?_
     simp only [Act.put, sq1, sq2, sq3]
     refine tkv (i := 45) (d := 203) rfl rfl (by assumption) ?_
     simp only [Act.put, sq1, sq2, sq3]
     refine tkq (i := 46) (d := 204) (v := (.bool false)) rfl rfl (Or.inl ⟨by kernel_rfl, fun w hSw => ?_⟩) (by assumption) ?_
     ·(try dsimp only at hSw); go_simp <;> (try rfl)
     simp only [Act.put, sq1, sq2, sq3]
     refine tkq (i := 47) (d := 205) (v := (.bool false)) rfl rfl (Or.inl ⟨by kernel_rfl, fun w hSw => ?_⟩) (by assumption) ?_
     ·(try dsimp only at hSw); go_simp <;> (try rfl)
     simp only [Act.put, sq1, sq2, sq3]
     refine tkq (i := 48) (d := 206) (v := (.bool false)) rfl rfl (Or.inl ⟨by kernel_rfl, fun w hSw => ?_⟩) (by assumption) ?_
     ·(try dsimp only at hSw); go_simp <;> (try rfl)
     simp only [Act.put, sq1, sq2, sq3]
     refine tkq (i := 49) (d := 207) (v := (v)) rfl rfl (Or.inl ⟨by kernel_rfl, fun w hSw => ?_⟩) (by assumption) ?_
     ·(try dsimp only at hSw); go_simp <;> (try rfl)
     simp only [Act.put, sq1, sq2, sq3]
     refine tkq (i := 50) (d := 208) (v := (.int .i64 p)) rfl rfl (Or.inl ⟨by kernel_rfl, fun w hSw => ?_⟩) (by assumption) ?_
     ·(try dsimp only at hSw); go_simp <;> (try rfl)
     simp only [Act.put, sq1, sq2, sq3]
     refine tkq (i := 52) (d := 210) (v := (.pointer (some ⟨R, 0, none⟩))) rfl rfl (Or.inl ⟨by kernel_rfl, fun w hSw => ?_⟩) (by assumption) ?_
     ·(try dsimp only at hSw); go_simp <;> (try rfl)
     simp only [Act.put, sq1, sq2, sq3]
     refine tkq (i := 53) (d := 211) (v := (.int .i64 p)) rfl rfl (Or.inl ⟨by kernel_rfl, fun w hSw => ?_⟩) (by assumption) ?_
     ·(try dsimp only at hSw); go_simp <;> (try rfl)
     simp only [Act.put, sq1, sq2, sq3]
     refine wpAnyH_ready (rs := [51]) (by kernel_rfl) (by simp) ?_
     refine AllReadyH.cons rfl (fun K hK => ?_) AllReadyH.nil
     go_simp
     refine (JS.preparedP slotv (HS8.out.through slotv hHeld) HLc.out p).mono ?_
     rintro e u4 ⟨rfl, hb9⟩; have X4 := Lib.hid (below_step hHeld hb9); clear hb9
     go_wp2_with fail
     refine hK.out _ _ X4.out (fun hHeld1 => ?_)
     clear hHeld hK K
     have hHeld := hHeld1
     clear hHeld1
     refine wpAnyH_ready (rs := [54]) (by kernel_rfl) (by simp) ?_
     refine AllReadyH.cons rfl (fun K hK => ?_) AllReadyH.nil
     go_simp
     refine (JS.preparedD (HS8.out.through slotv hHeld) HLc.out p).mono ?_
     rintro e u5 ⟨rfl, hb9⟩; have X5 := Lib.hid (below_step hHeld hb9); clear hb9
     go_wp2_with fail
     refine hK.out _ _ X5.out (fun hHeld1 => ?_)
     clear hHeld hK K
     have hHeld := hHeld1
     clear hHeld1
     refine tkq (i := 55) (d := 213) (v := (.bool false)) rfl rfl (Or.inl ⟨by kernel_rfl, fun w hSw => ?_⟩) (by assumption) ?_
     ·(try dsimp only at hSw); go_simp <;> (try rfl)
     simp only [Act.put, sq1, sq2, sq3]
     refine tkq (i := 56) (d := 214) (v := (.bool false)) rfl rfl (Or.inl ⟨by kernel_rfl, fun w hSw => ?_⟩) (by assumption) ?_
     ·(try dsimp only at hSw); go_simp <;> (try rfl)
     simp only [Act.put, sq1, sq2, sq3]
     refine tkq (i := 57) (d := 215) (v := (.bool false)) rfl rfl (Or.inl ⟨by kernel_rfl, fun w hSw => ?_⟩) (by assumption) ?_
     ·(try dsimp only at hSw); go_simp <;> (try rfl)
     simp only [Act.put, sq1, sq2, sq3]
     refine tkq (i := 58) (d := 216) (v := (v)) rfl rfl (Or.inl ⟨by kernel_rfl, fun w hSw => ?_⟩) (by assumption) ?_
     ·(try dsimp only at hSw); go_simp <;> (try rfl)
     simp only [Act.put, sq1, sq2, sq3]
     refine tkq (i := 60) (d := 218) (v := (.pointer (some ⟨R, 0, none⟩))) rfl rfl (Or.inl ⟨by kernel_rfl, fun w hSw => ?_⟩) (by assumption) ?_
     ·(try dsimp only at hSw); go_simp <;> (try rfl)
     simp only [Act.put, sq1, sq2, sq3]
     refine wpAnyH_ready (rs := [59]) (by kernel_rfl) (by simp) ?_
     refine AllReadyH.cons rfl (fun K hK => ?_) AllReadyH.nil
     go_simp
     refine (JS.committedP slotv (HS8.out.through slotv hHeld) HLc.out).mono ?_
     rintro e u6 ⟨rfl, hb9⟩; have X6 := Lib.hid (below_step hHeld hb9); clear hb9
     go_wp2_with fail
     refine hK.out _ _ X6.out (fun hHeld1 => ?_)
     clear hHeld hK K
     have hHeld := hHeld1
     clear hHeld1
     refine wpAnyH_ready (rs := [61]) (by kernel_rfl) (by simp) ?_
     refine AllReadyH.cons rfl (fun K hK => ?_) AllReadyH.nil
     go_simp
     refine (JS.committedD (HS8.out.through slotv hHeld) HLc.out).mono ?_
     rintro e u7 ⟨rfl, hb9⟩; have X7 := Lib.hid (below_step hHeld hb9); clear hb9
     go_wp2_with fail
     refine hK.out _ _ X7.out (fun hHeld1 => ?_)
     clear hHeld hK K
     have hHeld := hHeld1
     clear hHeld1
     refine tkq (i := 62) (d := 220) (v := (.bool false)) rfl rfl (Or.inl ⟨by kernel_rfl, fun w hSw => ?_⟩) (by assumption) ?_
     ·(try dsimp only at hSw); go_simp <;> (try rfl)
     simp only [Act.put, sq1, sq2, sq3]
     refine tkq (i := 63) (d := 221) (v := (.bool false)) rfl rfl (Or.inl ⟨by kernel_rfl, fun w hSw => ?_⟩) (by assumption) ?_
     ·(try dsimp only at hSw); go_simp <;> (try rfl)
     simp only [Act.put, sq1, sq2, sq3]
     refine wpAnyH_done (by kernel_rfl) ?_ _
     go_wp2_with fail
     go_roundw
     case rel => exact ⟨i + 1, s2, by omega, by go_num, HS8.out.through slotv X7.out, HBd.out⟩
     case measure => simp [intOf]; omega
  ·go_wp2
   go_ret
   exact ⟨rfl, HX.out⟩

end Go.Proofs.Ytkpgjcahmpekbaa
