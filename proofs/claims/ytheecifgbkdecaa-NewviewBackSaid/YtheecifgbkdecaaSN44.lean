/-
  NwB CwO
-/
import Derived.Test.YtheecifgbkdecaaSN42
import Derived.Test.YtheecifgbkdecaaSN43
import Derived.Test.YtheecifgbkdecaaSN37
import Derived.Test.YtheecifgbkdecaaSN21
import Derived.Test.YtheecifgbkdecaaSNT
namespace Go.Proofs.Ytheecifgbkdecaa
open Go.RowKit
theorem wpList_load_mid_g {P : Program} {ops : Array Oper} {rest : List Oper} {op : Oper} {a : Act} {w : World} {Q : Exit → Act → World → Prop} (ty : TypeId) (x : Operand) (ho : op.op = .load ty x) (hw : Region.wanted op (yielded ops a.tmps) = true)
  (b o : Nat) (hx : a.eval x = .pointer (some ⟨b, o, none⟩)) (cs : List Value) (d : TypeDesc) (hc : w.rangeAt b o cs)
  (hu : P.underlying ty = some d) (hd : d.isRow = true) (hi : (P.info? ty).map (·.size) = some cs.length)
  (h : wpList P ops Q rest (a.put op.dst (.agg cs.toArray)) w) : wpList P ops Q (op :: rest) a w := by
 rw [wpList, if_pos hw]
 exact .inl (wp_load_mid ty x ho b o hx cs d hc hu hd hi h)


/-- letters' names aren't too long -/
def SgLow (l : List Sg) : Prop := ∀ s ∈ l, (∀ p ∈ s.ch.pp, ∀ y ∈ p.es, y.co.lt.length ≤ 1000000) ∧ ∀ p ∈ s.ch.pd, ∀ y ∈ p.es, y.co.lt.length ≤ 1000000
theorem SgLow.of_few {l : List Sg} (h : fewNv l = true) : SgLow l := fun s hs => by
 obtain ⟨f1, _⟩ := fewNv_low h
 obtain ⟨g1, g2, _⟩ := fewCh_low (f1 s hs)
 exact ⟨fun p hp y hy => by have := (fewP_low (g1.2 p hp)).2 y hy; omega, fun p hp y hy => by have := (fewP_low (g2.2 p hp)).2 y hy; omega⟩
/-- rising from last on -/
def okP (view n : Int) : Int → List Sg → Bool
 | _, [] => true
 | last, s :: l => decide (last < s.fr) && decide (s.fr < n) && decide (s.ch.vw = view) && rightB s.ch n && okP view n s.fr l
theorem okNv_okP {view n : Int} : ∀ {f : Int} {l : List Sg}, 0 ≤ f → okNv view n (some f) l = okP view n f l
 | _, [], _ => rfl
 | f, s :: l, h => by
  unfold okNv okP
  by_cases h1 : f < s.fr
  ·rw [okNv_okP (by omega : 0 ≤ s.fr), decide_eq_true (by omega : 0 ≤ s.fr)]
   simp only [decide_eq_true h1, Bool.true_and, Bool.and_true]
  ·simp only [decide_eq_false h1, Bool.and_false, Bool.false_and]
theorem okNv_first (view n : Int) : ∀ l : List Sg, okNv view n none l = okP view n (-1) l
 | [] => rfl
 | s :: l => by
  unfold okNv okP
  by_cases h1 : 0 ≤ s.fr
  ·rw [okNv_okP h1, decide_eq_true h1, decide_eq_true (by omega : -1 < s.fr)]
   simp
  ·rw [decide_eq_false h1, decide_eq_false (by omega : ¬ -1 < s.fr)]
   simp
set_option maxHeartbeats 16000000 in
set_option maxRecDepth 100000 in
theorem aresigned_any (view : Int) (l : List Sg) (N : Int) (A : Option Addr) (k c0 : Nat) (w : World) (h : SgsIn w A k l) (hk : k ≤ 1000000) (hf : SgLow l) (hb : badN N = false) :
  Calls Try.prog 70 #[.int .i64 view, .slice A k c0, .int .i64 N] w fun e w' => e = .returned (.bool (okNv view N none l)) ∧ Below w.heap.size w w' := by
 rw [okNv_first]
 have HI := Lib.hid h
 have HLn := Lib.hid h.len
 have HF1 := Lib.hid hf
 have HBn := Lib.hid hb
 obtain ⟨bb, hbb⟩ : ∃ bb, okP view N (-1) l = bb := ⟨_, rfl⟩
 have HB0 : Hid (bb = okP view N (-1) (l.drop 0)) := Lib.hid (by rw [← hbb, List.drop_zero])
 rw [hbb]
 clear h hf hb hbb
 go_enter Try.func70, Try.ntmps70
 go_wp2
 go_loopw [7, 12] (fun lv iv wr => ∃ (i : Nat) (last : Int), i ≤ k ∧ iv = .int .i64 (i : Int) ∧ lv = .int .i64 last ∧ bb = okP view N last (l.drop i) ∧ Below w.heap.size w wr) (fun _ iv _ => k - (intOf iv).toNat)
 case atStart => exact ⟨0, -1, Nat.zero_le _, rfl, rfl, HB0.out, Below.refl _ _⟩
 case round =>
  obtain ⟨i, last, hi, rfl, rfl, hp, hx⟩ := hrel
  have HX := Lib.hid hx
  clear hx
  by_cases hlt : i < k
  ·obtain ⟨g, o, s, P, Q, R, rfl, _, hmem, hd, hrx, hch⟩ := (HI.out.through HX.out).at hlt
   have HRx := Lib.hid hrx
   have HCh := Lib.hid hch
   have hix := Try.ix_sg wr g o k c0 i hlt
   rw [hd, okP] at hp
   obtain ⟨r1, hr1⟩ : ∃ b, rightB s.ch N = b := ⟨_, rfl⟩
   have hck : chkCh s.ch N = if r1 = true then 0 else 2 := by unfold chkCh; rw [if_neg (by simp [HBn.out]), hr1]
   obtain ⟨g1, g2⟩ := HF1.out s hmem
   have HCk : Hid (∀ W, Below wr.heap.size wr W → Calls Try.prog 11 #[.agg (Ch.cells s.ch P Q R).toArray, .int .i64 N] W fun e w' => e = .returned (.int .i64 (if r1 = true then 0 else 2)) ∧ Below W.heap.size W w') := Lib.hid (fun W hW => hck ▸ check18_any s.ch P Q R N W (HCh.out.through hW) g1 g2)
   rw [hr1] at hp
   clear hrx hd hmem hch hr1 hck g1 g2
   by_cases c1 : last < s.fr
   ·have d1 : decide (s.fr ≤ last) = false := by simp; omega
    by_cases c2 : s.fr < N
    ·have d2 : decide (N ≤ s.fr) = false := by simp; omega
     by_cases c3 : s.ch.vw = view
     ·have d3 : (s.ch.vw != view) = false := by simpa using c3
      cases r1 with
      | false =>
       have HV : Hid (bb = false) := Lib.hid (by rw [hp]; simp)
       clear hp c1 c2 c3
       go_wp2_with (first
        | go_skip
        | (refine wpList_load_mid rfl 106 (.tmp 14) rfl g (o + i * 6) rfl [.int .i64 s.fr, .int .i64 s.ch.vw, .int .i64 s.ch.lw, .slice P.1 P.2.1 P.2.2, .slice Q.1 Q.2.1 Q.2.2, .slice R.1 R.2.1 R.2.2] _ HRx.out Try.underlying106 rfl (by kernel_rfl) ?_)
        | (refine wpList_store_blk rfl 106 (.tmp 9) (.tmp 15) rfl wr.heap.size [.int .i64 s.fr, .int .i64 s.ch.vw, .int .i64 s.ch.lw, .slice P.1 P.2.1 P.2.2, .slice Q.1 Q.2.1 Q.2.2, .slice R.1 R.2.1 R.2.2] rfl rfl 106 [.int .i64 0, .int .i64 0, .int .i64 0, .slice none 0 0, .slice none 0 0, .slice none 0 0] (Blk.fresh rfl rfl) (by kernel_rfl) rfl (one6s _ _ _ _ _ _ _ _ _ _ _ _) ?_; simp only [Act.put]; intro wv hbv hgv; have HB := Lib.hid hbv; have HXv : Hid (Below w.heap.size w wv) := Lib.hid (below_step HX.out (below_new hgv)); have HNv := Lib.hid (below_new hgv); have k0 := HB.out.cellAt (i := 0) rfl; have k1 := HB.out.cellAt (i := 1) rfl; have HRc : Hid (wv.rangeAt wr.heap.size 1 (Ch.cells s.ch P Q R)) := Lib.hid (Blk.range (pre := [.int .i64 s.fr]) (post := []) (by simpa [Ch.cells] using HB.out)); clear hbv hgv)
        | (refine wpList_load_mid_g 25 (.tmp 34) rfl (by kernel_rfl) wr.heap.size 1 (by simp [Act.eval]) (Ch.cells s.ch P Q R) _ HRc.out Try.underlying25 rfl (by kernel_rfl) ?_)
        | (go_at_call 11; (with_reducible refine (HCk.out _ HNv.out).mono ?_); rintro e w5 ⟨rfl, hb5⟩; have HX5 := Lib.hid (below_step HXv.out hb5); have k05 := (HB.out.through hb5).cellAt (i := 0) rfl; clear hb5))
       go_ret
       exact ⟨ret_bo HV.out.symm, HX5.out⟩
      | true =>
       have HV : Hid (bb = okP view N s.fr (l.drop (i + 1))) := Lib.hid (by rw [hp, decide_eq_true c1, decide_eq_true c2, decide_eq_true c3]; simp)
       clear hp c1 c2 c3
       go_wp2_with (first
        | go_skip
        | (refine wpList_load_mid rfl 106 (.tmp 14) rfl g (o + i * 6) rfl [.int .i64 s.fr, .int .i64 s.ch.vw, .int .i64 s.ch.lw, .slice P.1 P.2.1 P.2.2, .slice Q.1 Q.2.1 Q.2.2, .slice R.1 R.2.1 R.2.2] _ HRx.out Try.underlying106 rfl (by kernel_rfl) ?_)
        | (refine wpList_store_blk rfl 106 (.tmp 9) (.tmp 15) rfl wr.heap.size [.int .i64 s.fr, .int .i64 s.ch.vw, .int .i64 s.ch.lw, .slice P.1 P.2.1 P.2.2, .slice Q.1 Q.2.1 Q.2.2, .slice R.1 R.2.1 R.2.2] rfl rfl 106 [.int .i64 0, .int .i64 0, .int .i64 0, .slice none 0 0, .slice none 0 0, .slice none 0 0] (Blk.fresh rfl rfl) (by kernel_rfl) rfl (one6s _ _ _ _ _ _ _ _ _ _ _ _) ?_; simp only [Act.put]; intro wv hbv hgv; have HB := Lib.hid hbv; have HXv : Hid (Below w.heap.size w wv) := Lib.hid (below_step HX.out (below_new hgv)); have HNv := Lib.hid (below_new hgv); have k0 := HB.out.cellAt (i := 0) rfl; have k1 := HB.out.cellAt (i := 1) rfl; have HRc : Hid (wv.rangeAt wr.heap.size 1 (Ch.cells s.ch P Q R)) := Lib.hid (Blk.range (pre := [.int .i64 s.fr]) (post := []) (by simpa [Ch.cells] using HB.out)); clear hbv hgv)
        | (refine wpList_load_mid_g 25 (.tmp 34) rfl (by kernel_rfl) wr.heap.size 1 (by simp [Act.eval]) (Ch.cells s.ch P Q R) _ HRc.out Try.underlying25 rfl (by kernel_rfl) ?_)
        | (go_at_call 11; (with_reducible refine (HCk.out _ HNv.out).mono ?_); rintro e w5 ⟨rfl, hb5⟩; have HX5 := Lib.hid (below_step HXv.out hb5); have k05 := (HB.out.through hb5).cellAt (i := 0) rfl; clear hb5))
       go_roundw
       case rel => exact ⟨i + 1, s.fr, by omega, by go_num, rfl, HV.out, HX5.out⟩
       case measure => simp [intOf]; omega
     ·have d3 : (s.ch.vw != view) = true := by simpa using c3
      have HV : Hid (bb = false) := Lib.hid (by rw [hp, decide_eq_false c3]; simp)
      clear hp c1 c2 c3
      go_wp2_with (first
       | go_skip
       | (refine wpList_load_mid rfl 106 (.tmp 14) rfl g (o + i * 6) rfl [.int .i64 s.fr, .int .i64 s.ch.vw, .int .i64 s.ch.lw, .slice P.1 P.2.1 P.2.2, .slice Q.1 Q.2.1 Q.2.2, .slice R.1 R.2.1 R.2.2] _ HRx.out Try.underlying106 rfl (by kernel_rfl) ?_)
       | (refine wpList_store_blk rfl 106 (.tmp 9) (.tmp 15) rfl wr.heap.size [.int .i64 s.fr, .int .i64 s.ch.vw, .int .i64 s.ch.lw, .slice P.1 P.2.1 P.2.2, .slice Q.1 Q.2.1 Q.2.2, .slice R.1 R.2.1 R.2.2] rfl rfl 106 [.int .i64 0, .int .i64 0, .int .i64 0, .slice none 0 0, .slice none 0 0, .slice none 0 0] (Blk.fresh rfl rfl) (by kernel_rfl) rfl (one6s _ _ _ _ _ _ _ _ _ _ _ _) ?_; simp only [Act.put]; intro wv hbv hgv; have HB := Lib.hid hbv; have HXv : Hid (Below w.heap.size w wv) := Lib.hid (below_step HX.out (below_new hgv)); have HNv := Lib.hid (below_new hgv); have k0 := HB.out.cellAt (i := 0) rfl; have k1 := HB.out.cellAt (i := 1) rfl; have HRc : Hid (wv.rangeAt wr.heap.size 1 (Ch.cells s.ch P Q R)) := Lib.hid (Blk.range (pre := [.int .i64 s.fr]) (post := []) (by simpa [Ch.cells] using HB.out)); clear hbv hgv))
      go_ret
      exact ⟨ret_bo HV.out.symm, HXv.out⟩
    ·have d2 : decide (N ≤ s.fr) = true := by simp; omega
     have HV : Hid (bb = false) := Lib.hid (by rw [hp, decide_eq_false c2]; simp)
     clear hp c1 c2
     go_wp2_with (first
      | go_skip
      | (refine wpList_load_mid rfl 106 (.tmp 14) rfl g (o + i * 6) rfl [.int .i64 s.fr, .int .i64 s.ch.vw, .int .i64 s.ch.lw, .slice P.1 P.2.1 P.2.2, .slice Q.1 Q.2.1 Q.2.2, .slice R.1 R.2.1 R.2.2] _ HRx.out Try.underlying106 rfl (by kernel_rfl) ?_)
      | (refine wpList_store_blk rfl 106 (.tmp 9) (.tmp 15) rfl wr.heap.size [.int .i64 s.fr, .int .i64 s.ch.vw, .int .i64 s.ch.lw, .slice P.1 P.2.1 P.2.2, .slice Q.1 Q.2.1 Q.2.2, .slice R.1 R.2.1 R.2.2] rfl rfl 106 [.int .i64 0, .int .i64 0, .int .i64 0, .slice none 0 0, .slice none 0 0, .slice none 0 0] (Blk.fresh rfl rfl) (by kernel_rfl) rfl (one6s _ _ _ _ _ _ _ _ _ _ _ _) ?_; simp only [Act.put]; intro wv hbv hgv; have HB := Lib.hid hbv; have HXv : Hid (Below w.heap.size w wv) := Lib.hid (below_step HX.out (below_new hgv)); have HNv := Lib.hid (below_new hgv); have k0 := HB.out.cellAt (i := 0) rfl; have k1 := HB.out.cellAt (i := 1) rfl; have HRc : Hid (wv.rangeAt wr.heap.size 1 (Ch.cells s.ch P Q R)) := Lib.hid (Blk.range (pre := [.int .i64 s.fr]) (post := []) (by simpa [Ch.cells] using HB.out)); clear hbv hgv))
     go_ret
     exact ⟨ret_bo HV.out.symm, HXv.out⟩
   ·have d1 : decide (s.fr ≤ last) = true := by simp; omega
    have HV : Hid (bb = false) := Lib.hid (by rw [hp, decide_eq_false c1]; simp)
    clear hp c1
    go_wp2_with (first
     | go_skip
     | (refine wpList_load_mid rfl 106 (.tmp 14) rfl g (o + i * 6) rfl [.int .i64 s.fr, .int .i64 s.ch.vw, .int .i64 s.ch.lw, .slice P.1 P.2.1 P.2.2, .slice Q.1 Q.2.1 Q.2.2, .slice R.1 R.2.1 R.2.2] _ HRx.out Try.underlying106 rfl (by kernel_rfl) ?_)
     | (refine wpList_store_blk rfl 106 (.tmp 9) (.tmp 15) rfl wr.heap.size [.int .i64 s.fr, .int .i64 s.ch.vw, .int .i64 s.ch.lw, .slice P.1 P.2.1 P.2.2, .slice Q.1 Q.2.1 Q.2.2, .slice R.1 R.2.1 R.2.2] rfl rfl 106 [.int .i64 0, .int .i64 0, .int .i64 0, .slice none 0 0, .slice none 0 0, .slice none 0 0] (Blk.fresh rfl rfl) (by kernel_rfl) rfl (one6s _ _ _ _ _ _ _ _ _ _ _ _) ?_; simp only [Act.put]; intro wv hbv hgv; have HB := Lib.hid hbv; have HXv : Hid (Below w.heap.size w wv) := Lib.hid (below_step HX.out (below_new hgv)); have HNv := Lib.hid (below_new hgv); have k0 := HB.out.cellAt (i := 0) rfl; have k1 := HB.out.cellAt (i := 1) rfl; have HRc : Hid (wv.rangeAt wr.heap.size 1 (Ch.cells s.ch P Q R)) := Lib.hid (Blk.range (pre := [.int .i64 s.fr]) (post := []) (by simpa [Ch.cells] using HB.out)); clear hbv hgv))
    go_ret
    exact ⟨ret_bo HV.out.symm, HXv.out⟩
  ·have e9 : l.drop i = [] := List.drop_of_length_le (by have := HLn.out; omega)
   have HV : Hid (bb = true) := Lib.hid (by rw [hp, e9]; rfl)
   clear e9 hp
   go_wp2
   go_ret
   exact ⟨ret_bo HV.out.symm, HX.out⟩

set_option maxHeartbeats 16000000 in
set_option maxRecDepth 100000 in
theorem check19_any (view : Int) (l : List Sg) (N : Int) (A : Option Addr) (k c0 : Nat) (w : World) (h : SgsIn w A k l) (hk : k ≤ 1000000) (hf : SgLow l) :
  Calls Try.prog 24 #[.int .i64 view, .slice A k c0, .int .i64 N] w fun e w' => e = .returned (.int .i64 (chkNv view l N)) ∧ Below w.heap.size w w' := by
 obtain ⟨bn, hbn⟩ : ∃ b, badN N = b := ⟨_, rfl⟩
 have HSz : Hid (∀ W : World, Calls Try.prog 69 #[.int .i64 N] W fun e w' => e = .returned (.bool (!bn)) ∧ w' = W) := Lib.hid (fun W => hbn ▸ nsize_any N W)
 have hlk := h.len
 unfold chkNv
 rw [hbn, hlk]
 cases bn with
 | true =>
  clear h hk hf hbn hlk
  go_enter Try.func24, Try.ntmps24
  go_wp2_with (first
   | (go_at_call 69; (with_reducible refine (HSz.out _).mono ?_); rintro e ws ⟨rfl, rfl⟩))
  go_ret
  exact ⟨rfl, Below.refl _ _⟩
 | false =>
 have hN : 1 ≤ N ∧ N ≤ 7 := badN_le hbn
 obtain ⟨q, hq⟩ : ∃ q, 2 * fltN N + 1 = q := ⟨_, rfl⟩
 have HQu : Hid (∀ W : World, Calls Try.prog 32 #[.int .i64 N] W fun e w' => e = .returned (.int .i64 q) ∧ w' = W) := Lib.hid (fun W => hq ▸ nquorum_any N W (by omega))
 obtain ⟨ok, hok⟩ : ∃ b, okNv view N none l = b := ⟨_, rfl⟩
 have HAr : Hid (Calls Try.prog 70 #[.int .i64 view, .slice A k c0, .int .i64 N] w fun e w' => e = .returned (.bool ok) ∧ Below w.heap.size w w') := Lib.hid (hok ▸ aresigned_any view l N A k c0 w h hk hf hbn)
 rw [if_neg (by simp), hq, hok]
 by_cases c1 : N < (k : Int)
 ·have d1 : decide (N < (k : Int)) = true := by simpa using c1
  rw [if_pos c1]
  clear h hk hf hbn hlk hN hq hok c1
  go_enter Try.func24, Try.ntmps24
  go_wp2_with (first
   | (go_at_call 69; (with_reducible refine (HSz.out _).mono ?_); rintro e ws ⟨rfl, rfl⟩))
  go_ret
  exact ⟨rfl, Below.refl _ _⟩
 have d1 : decide (N < (k : Int)) = false := by simpa using c1
 rw [if_neg c1]
 by_cases c2 : (k : Int) < q
 ·have d2 : decide ((k : Int) < q) = true := by simpa using c2
  rw [if_pos c2]
  clear h hk hf hbn hlk hN hq hok c1 c2
  go_enter Try.func24, Try.ntmps24
  go_wp2_with (first
   | (go_at_call 69; (with_reducible refine (HSz.out _).mono ?_); rintro e ws ⟨rfl, rfl⟩)
   | (go_at_call 32; (with_reducible refine (HQu.out _).mono ?_); rintro e wq ⟨rfl, rfl⟩))
  go_ret
  exact ⟨rfl, Below.refl _ _⟩
 have d2 : decide ((k : Int) < q) = false := by simpa using c2
 rw [if_neg c2]
 cases ok with
 | true =>
  clear h hk hf hbn hlk hN hq hok c1 c2
  go_enter Try.func24, Try.ntmps24
  go_wp2_with (first
   | (go_at_call 69; (with_reducible refine (HSz.out _).mono ?_); rintro e ws ⟨rfl, rfl⟩)
   | (go_at_call 32; (with_reducible refine (HQu.out _).mono ?_); rintro e wq ⟨rfl, rfl⟩)
   | (go_at_call 70; (with_reducible refine (HAr.out).mono ?_); rintro e w1 ⟨rfl, hb1⟩; have HX1 := Lib.hid hb1; clear hb1))
  go_ret
  exact ⟨rfl, HX1.out⟩
 | false =>
  clear h hk hf hbn hlk hN hq hok c1 c2
  go_enter Try.func24, Try.ntmps24
  go_wp2_with (first
   | (go_at_call 69; (with_reducible refine (HSz.out _).mono ?_); rintro e ws ⟨rfl, rfl⟩)
   | (go_at_call 32; (with_reducible refine (HQu.out _).mono ?_); rintro e wq ⟨rfl, rfl⟩)
   | (go_at_call 70; (with_reducible refine (HAr.out).mono ?_); rintro e w1 ⟨rfl, hb1⟩; have HX1 := Lib.hid hb1; clear hb1))
  go_ret
  exact ⟨rfl, HX1.out⟩
theorem checknw : CheckNW := fun view l N A k c w h _ _ hf => check19_any view l N A k c w h (by rw [← h.len]; have := (fewNv_low hf).2; omega) (SgLow.of_few hf)

end Go.Proofs.Ytheecifgbkdecaa

namespace Go.Proofs.Ytheecifgbkdecaa
open Go.RowKit

/-- of what was there, two blocks alone may have turned -/
structure Tw (g h : Nat) (w w' : World) : Prop where
 os : w'.os = w.os
 tape : w'.tape = w.tape
 output : w'.output = w.output
 size : w.heap.size ≤ w'.heap.size
 block : ∀ b, b < w.heap.size → b ≠ g → b ≠ h → w'.heap[b]? = w.heap[b]?
theorem Tw.refl (g h : Nat) (w : World) : Tw g h w w := ⟨rfl, rfl, rfl, Nat.le_refl _, fun _ _ _ _ => rfl⟩
theorem Tw.trans {g h : Nat} {w m w' : World} (a : Tw g h w m) (b : Tw g h m w') : Tw g h w w' :=
 ⟨b.os.trans a.os, b.tape.trans a.tape, b.output.trans a.output, Nat.le_trans a.size b.size, fun k hk h1 h2 => (b.block k (Nat.lt_of_lt_of_le hk a.size) h1 h2).trans (a.block k hk h1 h2)⟩
theorem Tw.turn {g h : Nat} {w m w' : World} {row : Option Nat} (a : Tw g h w m) (hb : m.grownBy w' row) (hr : ∀ b, row = some b → b = g ∨ b = h ∨ w.heap.size ≤ b) : Tw g h w w' :=
 ⟨hb.os.trans a.os, hb.tape.trans a.tape, hb.output.trans a.output, Nat.le_trans a.size hb.size, fun k hk h1 h2 => (hb.block k (Nat.lt_of_lt_of_le hk a.size) (fun e => by rcases hr k e.symm with h9 | h9 | h9 <;> omega)).trans (a.block k hk h1 h2)⟩
theorem Tw.grown {g h : Nat} {w m w' : World} (a : Tw g h w m) (hb : m.grownBy w' (some g)) : Tw g h w w' := a.turn hb (fun _ e => .inl (Option.some.inj e).symm)
theorem Tw.deep {g h : Nat} {w m w' : World} (a : Tw g h w m) (hb : Below m.heap.size m w') : Tw g h w w' :=
 ⟨hb.os.trans a.os, hb.tape.trans a.tape, hb.output.trans a.output, Nat.le_trans a.size hb.size, fun k hk h1 h2 => (hb.block k (Nat.lt_of_lt_of_le hk a.size)).trans (a.block k hk h1 h2)⟩
theorem Tw.blk {g h q : Nat} {w w' : World} {t : TypeId} {cs : List Value} (a : Tw g h w w') (hb : Blk w q t cs) (h1 : q ≠ g) (h2 : q ≠ h) : Blk w' q t cs := (a.block q hb.lt h1 h2).trans hb
theorem Tw.below {g h B : Nat} {v w w' : World} (a : Tw g h w w') (hb : Below B v w) (hB : B ≤ w.heap.size) (h1 : B ≤ g) (h2 : B ≤ h) : Below B v w' :=
 ⟨a.os.trans hb.os, a.tape.trans hb.tape, a.output.trans hb.output, Nat.le_trans hb.size a.size, fun k hk => (a.block k (by omega) (by omega) (by omega)).trans (hb.block k hk)⟩
theorem Tw.os_ {g h B k : Nat} {w w' : World} {e : TypeId} {v : Value} {xs : List (List Value)} (a : Tw g h w w') (ho : Os w B e k v xs) (h1 : g < B) (h2 : h < B) : Os w' B e k v xs := ho.keep fun b hb hl _ => a.block b hl (by omega) (by omega)
theorem Tw.ey {g h B : Nat} {w w' : World} {v : Value} {es : List Ey} (a : Tw g h w w') (ho : OEy w B v es) (h1 : g < B) (h2 : h < B) : OEy w' B v es := ⟨a.os_ ho.1 h1 h2, ho.2⟩
theorem Tw.opo {g h B : Nat} {w w' : World} {v : Value} {ps : List Po} (a : Tw g h w w') (ho : OPo w B v ps) (h1 : g < B) (h2 : h < B) : OPo w' B v ps := ⟨a.os_ ho.1 h1 h2, ho.2⟩
theorem Tw.opf {g h B : Nat} {w w' : World} {v : Value} {ps : List Pf} (a : Tw g h w w') (ho : OPf w B v ps) (h1 : g < B) (h2 : h < B) : OPf w' B v ps := by
 obtain ⟨ss, h3, h4⟩ := ho
 exact ⟨ss, a.os_ h3 h1 h2, h4.mono fun _ _ h => a.ey h h1 h2⟩
theorem Try.cagg_prd (w : World) : (isAgg 73).run Try.prog w = .ok false w := by kernel_rfl
theorem Try.cagg_sl (w : World) : (isAgg 28).run Try.prog w = .ok false w := by kernel_rfl

set_option maxHeartbeats 16000000 in
set_option maxRecDepth 100000 in
theorem rdpo_any {Q : Nat → Prop} (g gr : Nat) (st : Option (List UInt8)) (w : World) (h : Rs Q w g tR st) (hQ : ∀ b, Q b → b < w.heap.size) (hr : Blk w gr 73 [(.pointer (some ⟨g, 0, none⟩))]) (hne : gr ≠ g) :
  Calls Try.prog 49 #[.pointer (some ⟨gr, 0, none⟩)] w fun e w' => e = .returned (.agg (Po.cells (rdPo st).1).toArray) ∧ Rs Q w' g tR (rdPo st).2 ∧ w.grownBy w' (some g) := by
 have HNR := Lib.hid hne
 have HQ := Lib.hid hQ
 have HGr := Lib.hid hr
 obtain ⟨gz, hgz⟩ : ∃ gz, w.heap.size = gz := ⟨_, rfl⟩
 have HGZ : Hid (w.heap.size ≤ gz) := Lib.hid (Nat.le_of_eq hgz)
 have HNZ : Hid (gz ≠ g) := Lib.hid (by have := h.lt; omega)
 obtain ⟨r1, hr1⟩ : ∃ r1, r1 = Po.cells ⟨0, List.replicate 32 0⟩ := ⟨_, rfl⟩
 have hzp : ∀ W, (zeroValue 52).run Try.prog W = .ok (.agg r1.toArray) W := fun W => by rw [hr1]; kernel_rfl
 have HR1l : Hid (r1.length = 33) := Lib.hid (by rw [hr1]; rfl)
 have HX1 : Hid (Below w.heap.size w (w.alloc (.cells r1.toArray 52))) := Lib.hid (below1_ w _)
 have HB1 : Hid (Blk (w.alloc (.cells r1.toArray 52)) gz 52 r1) := Lib.hid (Blk.fresh hgz.symm rfl)
 have HR1 := Lib.hid (h.alloc (.cells r1.toArray 52))
 have HNm : Hid (∀ W : World, Rs Q W g tR st → Calls Try.prog 46 #[(.pointer (some ⟨g, 0, none⟩))] W fun e w' => e = .returned (.int .i64 (sx 8 (nval 8 st))) ∧ Rs Q w' g tR (nnext 8 st) ∧ W.grownBy w' (some g)) := Lib.hid (fun W h9 => cnum_any h9)
 have HDg : Hid (∀ W : World, Rs Q W g tR (nnext 8 st) → (∀ b, Q b → b < W.heap.size) → Calls Try.prog 50 #[(.pointer (some ⟨g, 0, none⟩))] W fun e w' => e = .returned (.agg (vs (tagOf (tval 32 (nnext 8 st)))).toArray) ∧ Rs Q w' g tR (nnext 32 (nnext 8 st)) ∧ W.grownBy w' (some g)) := Lib.hid (fun W h9 h8 => cdig_any h9 h8)
 have hdl : (tagOf (tval 32 (nnext 8 st))).length = 32 := tagOf_len _
 unfold rdPo
 simp only
 generalize sx 8 (nval 8 st) = sq at *
 generalize tagOf (tval 32 (nnext 8 st)) = dg at *
 have HPL : Hid ((Po.cells ⟨sq, dg⟩).length = 33) := Lib.hid (Po.cells_len _ hdl)
 have hbp := fun (W : World) => Try.build_po sq dg hdl W
 clear h hQ hr hne hr1 hdl
 go_enter Try.func49, Try.ntmps49
 go_wp2
 try dsimp only [Act.put]
 clear hgz
 generalize w.alloc (.cells r1.toArray 52) = w1 at *
 refine wp_region_held_drew (S := fun W => w.grownBy W (some g)) (by kernel_rfl) (only_below HX1.out.drew) (fun hHeld => ?_)
 change wpAnyH _ _ _ _ _ _ #[false, false, false, false, false, false] _ _
 refine tkq (i := 0) (d := 2) (v := (.pointer (some ⟨g, 0, none⟩))) rfl rfl (yields_load_at (by kernel_rfl) 73 (.tmp 0) rfl (.pointer (some ⟨gr, 0, none⟩)) (by simp [Act.eval]) (.pointer (some ⟨g, 0, none⟩)) (fun W hW => load_one' (Try.cagg_prd W) ((HGr.out.grown hW (fun e => HNR.out (Option.some.inj e))).cellAt (i := 0) rfl))) (by assumption) ?_
 simp only [Act.put, sq1, sq2, sq3]
 refine tkq (i := 2) (d := 4) (v := (.pointer (some ⟨g, 0, none⟩))) rfl rfl (yields_load_at (by kernel_rfl) 73 (.tmp 0) rfl (.pointer (some ⟨gr, 0, none⟩)) (by simp [Act.eval]) (.pointer (some ⟨g, 0, none⟩)) (fun W hW => load_one' (Try.cagg_prd W) ((HGr.out.grown hW (fun e => HNR.out (Option.some.inj e))).cellAt (i := 0) rfl))) (by assumption) ?_
 simp only [Act.put, sq1, sq2, sq3]
 refine wpAnyH_ready (rs := [1]) (by kernel_rfl) (by simp) ?_
 refine AllReadyH.cons rfl (fun K hK => ?_) AllReadyH.nil
 go_simp
 refine ((HNm.out _ HR1.out.drew)).mono ?_
 rintro e w2 ⟨rfl, hr2, hg2⟩; have HR2 := Lib.hid hr2; have HG2 := Lib.hid (only_trans hHeld hg2); have HB2 := Lib.hid (HB1.out.drew.grown hg2 (fun e => HNZ.out (Option.some.inj e))); clear hr2 hg2
 go_wp2_with fail
 refine hK.out _ _ HG2.out (fun hHeld1 => ?_)
 clear hHeld hK K
 have hHeld := hHeld1
 clear hHeld1
 refine wpAnyH_ready (rs := [3]) (by kernel_rfl) (by simp) ?_
 refine AllReadyH.cons rfl (fun K hK => ?_) AllReadyH.nil
 go_simp
 refine ((HDg.out _ HR2.out (fun b hb => by have := HQ.out b hb; have := HG2.out.size; omega))).mono ?_
 rintro e w3 ⟨rfl, hr3, hg3⟩; have HR3 := Lib.hid hr3; have HG3 := Lib.hid (only_trans hHeld hg3); have HB3 := Lib.hid (HB2.out.grown hg3 (fun e => HNZ.out (Option.some.inj e))); clear hr3 hg3
 go_wp2_with fail
 refine hK.out _ _ HG3.out (fun hHeld1 => ?_)
 clear hHeld hK K
 have hHeld := hHeld1
 clear hHeld1
 refine tkq (i := 4) (d := 6) (v := (.agg (Po.cells ⟨sq, dg⟩).toArray)) rfl rfl (yields_build (by kernel_rfl) 52 #[(0, .tmp 3), (1, .tmp 5)] rfl #[(0, .int .i64 sq), (1, .agg (vs dg).toArray)] (by simp [Act.eval]) (.agg (Po.cells ⟨sq, dg⟩).toArray) (fun W _ => hbp W)) (by assumption) ?_
 simp only [Act.put, sq1, sq2, sq3]
 refine wpAnyH_ready (rs := [5]) (by kernel_rfl) (by simp) ?_
 refine AllReadyH.cons (o := ⟨none, .store 52 (.tmp 1) (.tmp 6), _, _, _, none⟩) rfl (fun K hK => ?_) AllReadyH.nil
 refine step_store_blk rfl 52 (.tmp 1) (.tmp 6) rfl gz (Po.cells ⟨sq, dg⟩) (by simp [Act.eval]) (by simp [Act.eval]) 52 r1 HB3.out (by rw [HPL.out]; kernel_rfl) (by rw [HPL.out, HR1l.out]) (Po.one_ _) ?_; intro w4 hb4 hg4; have HB4 := Lib.hid hb4; have HR4 := Lib.hid (HR3.out.other hg4 (fun b hb => ⟨fun e => HNZ.out (by have := Option.some.inj hb; omega), fun h9 => by have := HQ.out b h9; have := Option.some.inj hb; have := HGZ.out; omega⟩)); have HG4 := Lib.hid (only_own_ hHeld hg4 (fun h e => by have := Option.some.inj e; have := HGZ.out; omega)); clear hb4 hg4
 refine hK.out _ _ HG4.out (fun hHeld1 => ?_)
 clear hHeld hK K
 have hHeld := hHeld1
 clear hHeld1
 change wpAnyH _ _ _ _ _ _ _ (Act.put _ none undef) _
 simp only [Act.put]
 refine wpAnyH_done (by kernel_rfl) ?_ _
 clear hHeld
 go_wp2_with fail
 (try simp only [Exit.inBlock, Exit.then])
 refine bodyPost_ret (v := .agg (Po.cells ⟨sq, dg⟩).toArray) (results_cell_row rfl _ _ gz 52 _ (0, 0) _ rfl HB4.out Try.underlying52 rfl ?r0) rfl ⟨rfl, HR4.out, HG4.out⟩
 rw [List.size_toArray, HPL.out]
 kernel_rfl

end Go.Proofs.Ytheecifgbkdecaa
