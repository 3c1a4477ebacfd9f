/-
  CwQ
-/
import Derived.Deep.CutBlock
import Derived.Test.YtheecifgbkdecaaSM44
import Derived.Test.YtheecifgbkdecaaSM31
import Derived.Test.YtheecifgbkdecaaSM16
import Derived.Test.YtheecifgbkdecaaSMT
namespace Go.Proofs.Ytheecifgbkdecaa
open Go.RowKit

theorem step_alloc_lg {P : Program} {T : TypeId} {cs : List Value} {ops : Array Oper} {o : Oper} {a : Act} {w : World} {K : Act → World → Prop} {Q : Exit → Act → World → Prop} {F : Prop} (hgd : o.guard = none) (ho : o.op = .alloc T)
  (hrun : (Instr.alloc T true (.tuple #[])).run P w = .ok (.pointer (some ⟨w.heap.size, 0, none⟩)) (w.alloc (.cells cs.toArray T)))
  (h : ∀ g w', w.heap.size ≤ g → Blk w' g T cs → Below w.heap.size w w' → K (a.put o.dst (.pointer (some ⟨g, 0, none⟩))) w') : if Region.wanted o (yielded ops a.tmps) = true then Oper.wp P o a w K Q else F := by
 have hw : Region.wanted o (yielded ops a.tmps) = true := by simp [Region.wanted, hgd]
 rw [if_pos hw]
 unfold Oper.wp execOp
 simp only [ho, Sem.run_bind, hrun, Result.andThen_ok]
 exact h _ _ (Nat.le_refl _) (Blk.fresh rfl rfl) ((Below.refl _ w).alloc (Nat.le_refl _) _)
theorem Try.alloc_pf (w : World) : (Instr.alloc 55 true (.tuple #[])).run Try.prog w = .ok (.pointer (some ⟨w.heap.size, 0, none⟩)) (w.alloc (.cells [.int .i64 0, .int .i64 0, .slice none 0 0].toArray 55)) := by kernel_rfl
theorem Try.build_pf2 (a b : Int) (w : World) : (Instr.build 55 #[(0, .int .i64 a), (1, .int .i64 b)]).run Try.prog w = .ok (.agg #[.int .i64 a, .int .i64 b, .slice none 0 0]) w := by kernel_rfl
set_option maxHeartbeats 16000000 in
set_option maxRecDepth 100000 in
theorem rdpf_any {Q : Nat → Prop} (g gr gb gn ge M : Nat) (A : Option Addr) (c : Nat) (N e0 : Int) (st : Option (List UInt8)) (w : World) (h : Rs Q w g tR st) (hQ : ∀ b, Q b → b < w.heap.size) (hQe : ¬ Q ge) (hr : Blk w gr 73 [(.pointer (some ⟨g, 0, none⟩))]) (hb : Blk w gb 28 [.slice A M c]) (hn : Blk w gn 3 [.int .i64 N]) (he : Blk w ge 30 [.int .i64 e0]) (n1 : gr ≠ g) (n2 : gb ≠ g) (n3 : gn ≠ g) (n4 : ge ≠ g) (hl : stL st ≤ 1000000) :
  Calls Try.prog 45 #[.pointer (some ⟨gr, 0, none⟩), .pointer (some ⟨gb, 0, none⟩), .pointer (some ⟨gn, 0, none⟩), .pointer (some ⟨ge, 0, none⟩)] w fun e w' => ∃ (A' : Option Addr) (m c' : Nat), e = .returned (.agg #[.int .i64 (pgPf M N st).1.1.sq, .int .i64 (pgPf M N st).1.1.vw, .slice A' m c']) ∧ OEy w' w.heap.size (.slice A' m c') (pgPf M N st).1.1.es ∧ Rs Q w' g tR (pgPf M N st).2 ∧ (∃ e1 : Int, Blk w' ge 30 [.int .i64 e1] ∧ (e1 = 0 ↔ e0 = 0 ∧ (pgPf M N st).1.2 = true)) ∧ Tw g ge w w' := by
 have hrl : (rval M (nnext 8 (nnext 8 st))).length ≤ 1000000 := Nat.le_trans (rval_stL _ _) (Nat.le_trans (nnext_stL _ _) (Nat.le_trans (nnext_stL _ _) hl))
 have HNm1 : Hid (∀ W : World, Rs Q W g tR st → Calls Try.prog 46 #[(.pointer (some ⟨g, 0, none⟩))] W fun e w' => e = .returned (.int .i64 (sx 8 (nval 8 st))) ∧ Rs Q w' g tR (nnext 8 st) ∧ W.grownBy w' (some g)) := Lib.hid (fun W h9 => cnum_any h9)
 have HNm2 : Hid (∀ W : World, Rs Q W g tR (nnext 8 st) → Calls Try.prog 46 #[(.pointer (some ⟨g, 0, none⟩))] W fun e w' => e = .returned (.int .i64 (sx 8 (nval 8 (nnext 8 st)))) ∧ Rs Q w' g tR (nnext 8 (nnext 8 st)) ∧ W.grownBy w' (some g)) := Lib.hid (fun W h9 => cnum_any h9)
 have HRow : Hid (∀ W : World, Rs Q W g tR (nnext 8 (nnext 8 st)) → Calls Try.prog 48 #[(.pointer (some ⟨g, 0, none⟩)), .int .i64 (M : Int)] W fun e w' => ∃ B m c, e = .returned (.slice B m c) ∧ By w' (fun _ => True) B m (rval M (nnext 8 (nnext 8 st))) ∧ Rs Q w' g tR (rnext M (nnext 8 (nnext 8 st))) ∧ W.grownBy w' (some g)) := Lib.hid (fun W h9 => row_rs h9 M)
 unfold pgPf
 simp only
 generalize sx 8 (nval 8 st) = sq at *
 generalize nnext 8 st = s1 at *
 generalize sx 8 (nval 8 s1) = vw at *
 generalize nnext 8 s1 = s2 at *
 have HPa : Hid (∀ (B : Option Addr) (m d : Nat) (W : World), By W (fun _ => True) B m (rval M s2) → Calls Try.prog 47 #[.slice B m d, .int .i64 N] W (EyOwn W (parseG (rval M s2) N).1 (parseG (rval M s2) N).2)) := Lib.hid (fun B m d W h9 => parseB_own _ N B m d W h9 (by rw [← h9.len]; exact hrl))
 generalize parseG (rval M s2) N = PG at *
 obtain ⟨es, eb⟩ := PG
 simp only at HPa ⊢
 generalize rval M s2 = row at *
 generalize rnext M s2 = s3 at *
 have HLT0 := Lib.hid h.lt
 have HQ0 := Lib.hid hQ
 have HQE := Lib.hid hQe
 have HE0 := Lib.hid he
 have HNR := Lib.hid n1
 have HNB := Lib.hid n2
 have HNN := Lib.hid n3
 have HNE := Lib.hid n4
 have hbp := fun (W : World) => Try.build_pf2 sq vw W
 have HX1 : Hid (Below w.heap.size w (w.alloc (.cells #[.int .i64 0, .int .i64 0, .slice none 0 0] 55))) := Lib.hid (below1_ w _)
 have HZ0 : Hid (Blk (w.alloc (.cells #[.int .i64 0, .int .i64 0, .slice none 0 0] 55)) w.heap.size 55 [.int .i64 0, .int .i64 0, .slice none 0 0]) := Lib.hid (Blk.fresh rfl rfl)
 have HRd := Lib.hid ((h.alloc (.cells #[.int .i64 0, .int .i64 0, .slice none 0 0] 55)).drew)
 have HGr := Lib.hid (hr.through HX1.out)
 have HGb := Lib.hid (hb.through HX1.out)
 have HGn := Lib.hid (hn.through HX1.out)
 have HGe := Lib.hid (he.through HX1.out)
 have HS1 : Hid (w.heap.size < (w.alloc (.cells #[.int .i64 0, .int .i64 0, .slice none 0 0] 55)).heap.size) := Lib.hid (by simp)
 have HQ : Hid (∀ b, Q b → b < (w.alloc (.cells #[.int .i64 0, .int .i64 0, .slice none 0 0] 55)).heap.size) := Lib.hid (fun b h9 => by have := hQ b h9; have := HS1.out; omega)
 have HLT : Hid (g < (w.alloc (.cells #[.int .i64 0, .int .i64 0, .slice none 0 0] 55)).heap.size) := Lib.hid (by have := h.lt; have := HS1.out; omega)
 clear h hQ hQe hr hb hn he n1 n2 n3 n4 hl hrl
 go_enter Try.func45, Try.ntmps45
 go_upto_region 1 with fail
 generalize w.alloc (.cells #[.int .i64 0, .int .i64 0, .slice none 0 0] 55) = w1 at *
 go_cut [5] from 8 to 12 (fun v wx => ∃ gz : Nat, v = .pointer (some ⟨gz, 0, none⟩) ∧ Blk wx gz 55 [.int .i64 sq, .int .i64 vw, .slice none 0 0] ∧ Rs Q wx g tR s2 ∧ w1.heap.size ≤ gz ∧ w1.grownBy wx (some g))
 case first =>
  refine wp_region_held_drew (S := fun W => w1.grownBy W (some g)) (by kernel_rfl) (only_below (Below.refl _ w1).drew) (fun hHeld => ?_)
  change wpAnyH _ _ _ _ _ _ #[false, false, false, false, false, false, false] _ _
  refine tkq (i := 0) (d := 8) (v := (.pointer (some ⟨g, 0, none⟩))) rfl rfl (yields_load_at (by kernel_rfl) 73 (.tmp 0) rfl (.pointer (some ⟨gr, 0, none⟩)) (by simp [Act.eval]) (.pointer (some ⟨g, 0, none⟩)) (fun W hW => load_one' (Try.cagg_prd W) ((HGr.out.grown hW (fun e => HNR.out (Option.some.inj e))).cellAt (i := 0) rfl))) (by assumption) ?_
  simp only [Act.put, sq1, sq2, sq3]
  refine tkq (i := 2) (d := 10) (v := (.pointer (some ⟨g, 0, none⟩))) rfl rfl (yields_load_at (by kernel_rfl) 73 (.tmp 0) rfl (.pointer (some ⟨gr, 0, none⟩)) (by simp [Act.eval]) (.pointer (some ⟨g, 0, none⟩)) (fun W hW => load_one' (Try.cagg_prd W) ((HGr.out.grown hW (fun e => HNR.out (Option.some.inj e))).cellAt (i := 0) rfl))) (by assumption) ?_
  simp only [Act.put, sq1, sq2, sq3]
  refine wpAnyH_ready (rs := [1, 5]) (by kernel_rfl) (by simp) ?_
  refine AllReadyH.cons rfl (fun K hK => ?_) (AllReadyH.cons (o := ⟨some 5, .alloc 55, _, _, _, none⟩) rfl (fun K hK => ?_) AllReadyH.nil)
  ·as_aux_lemma =>
   go_simp
   refine ((HNm1.out _ HRd.out)).mono ?_
   rintro e wqc ⟨rfl, hr, hg⟩; have HRqc := Lib.hid hr; have HGqc := Lib.hid (only_trans hHeld hg); clear hr hg
   go_wp2_with fail
   refine hK.out _ _ HGqc.out (fun hHeld1 => ?_)
   clear hHeld hK K
   have hHeld := hHeld1
   clear hHeld1
   refine wpAnyH_ready (rs := [3, 5]) (by kernel_rfl) (by simp) ?_
   refine AllReadyH.cons rfl (fun K hK => ?_) (AllReadyH.cons (o := ⟨some 5, .alloc 55, _, _, _, none⟩) rfl (fun K hK => ?_) AllReadyH.nil)
   ·as_aux_lemma =>
    go_simp
    refine ((HNm2.out _ HRqc.out)).mono ?_
    rintro e wqcc ⟨rfl, hr, hg⟩; have HRqcc := Lib.hid hr; have HGqcc := Lib.hid (only_trans hHeld hg); clear hr hg
    go_wp2_with fail
    refine hK.out _ _ HGqcc.out (fun hHeld1 => ?_)
    clear hHeld hK K
    have hHeld := hHeld1
    clear hHeld1
    refine tkq (i := 4) (d := 12) (v := (.agg #[.int .i64 sq, .int .i64 vw, .slice none 0 0])) rfl rfl (yields_build (by kernel_rfl) 55 #[(0, .tmp 9), (1, .tmp 11)] rfl #[(0, .int .i64 sq), (1, .int .i64 vw)] (by simp [Act.eval]) (.agg #[.int .i64 sq, .int .i64 vw, .slice none 0 0]) (fun W _ => hbp W)) (by assumption) ?_
    simp only [Act.put, sq1, sq2, sq3]
    refine wpAnyH_ready (rs := [5]) (by kernel_rfl) (by simp) ?_
    refine AllReadyH.cons (o := ⟨some 5, .alloc 55, _, _, _, none⟩) rfl (fun K hK => ?_) AllReadyH.nil
    refine step_alloc_lg rfl rfl (Try.alloc_pf _) ?_; intro gz wqcca hz hb hx; have HZ : Hid (w1.heap.size ≤ gz) := Lib.hid (Nat.le_trans hHeld.size hz); have HBqcca := Lib.hid hb; have HRqcca := Lib.hid (HRqcc.out.below hx); have HGqcca := Lib.hid (only_trans hHeld (only_below hx)); clear hz hb hx
    refine hK.out _ _ HGqcca.out (fun hHeld1 => ?_)
    clear hHeld hK K
    have hHeld := hHeld1
    clear hHeld1
    change wpAnyH _ _ _ _ _ _ _ (Act.put _ (some (5 : Nat)) (.pointer (some ⟨gz, 0, none⟩))) _
    simp only [Act.put, sq1, sq2, sq3]
    refine wpAnyH_ready (rs := [6]) (by kernel_rfl) (by simp) ?_
    refine AllReadyH.cons (o := ⟨none, .store 55 (.tmp 5) (.tmp 12), _, _, _, none⟩) rfl (fun K hK => ?_) AllReadyH.nil
    refine step_store_blk rfl 55 (.tmp 5) (.tmp 12) rfl gz [.int .i64 sq, .int .i64 vw, .slice none 0 0] (by simp [Act.eval]) (by simp [Act.eval]) 55 [.int .i64 0, .int .i64 0, .slice none 0 0] HBqcca.out (by kernel_rfl) rfl (one3p_ _ _ _ _ _) ?_; intro wy hby hgy; have HBy := Lib.hid hby; have HRy := Lib.hid (HRqcca.out.other hgy (fun b hb => ⟨fun e => by have := Option.some.inj hb; have := HZ.out; have := HLT.out; omega, fun h9 => by have := HQ.out b h9; have := Option.some.inj hb; have := HZ.out; omega⟩)); have HGy := Lib.hid (only_own_ hHeld hgy (fun h e => by have := Option.some.inj e; have := HZ.out; omega)); clear hby hgy
    refine hK.out _ _ HGy.out (fun hHeld1 => ?_)
    clear hHeld hK K
    have hHeld := hHeld1
    clear hHeld1
    change wpAnyH _ _ _ _ _ _ _ (Act.put _ none undef) _
    simp only [Act.put]
    refine wpAnyH_done (by kernel_rfl) ?_ _
    clear hHeld
    go_wp2
    go_meet
    case rel => exact ⟨gz, rfl, HBy.out, HRy.out, HZ.out, HGy.out⟩
   ·as_aux_lemma =>
    refine step_alloc_lg rfl rfl (Try.alloc_pf _) ?_; intro gz wqca hz hb hx; have HZ : Hid (w1.heap.size ≤ gz) := Lib.hid (Nat.le_trans hHeld.size hz); have HBqca := Lib.hid hb; have HRqca := Lib.hid (HRqc.out.below hx); have HGqca := Lib.hid (only_trans hHeld (only_below hx)); clear hz hb hx
    refine hK.out _ _ HGqca.out (fun hHeld1 => ?_)
    clear hHeld hK K
    have hHeld := hHeld1
    clear hHeld1
    change wpAnyH _ _ _ _ _ _ _ (Act.put _ (some (5 : Nat)) (.pointer (some ⟨gz, 0, none⟩))) _
    simp only [Act.put, sq1, sq2, sq3]
    refine wpAnyH_ready (rs := [3]) (by kernel_rfl) (by simp) ?_
    refine AllReadyH.cons rfl (fun K hK => ?_) AllReadyH.nil
    go_simp
    refine ((HNm2.out _ HRqca.out)).mono ?_
    rintro e wqcac ⟨rfl, hr, hg⟩; have HRqcac := Lib.hid hr; have HGqcac := Lib.hid (only_trans hHeld hg); have HBqcac := Lib.hid (HBqca.out.grown hg (fun e => by have := Option.some.inj e; have := HZ.out; have := HLT.out; omega)); clear hr hg
    go_wp2_with fail
    refine hK.out _ _ HGqcac.out (fun hHeld1 => ?_)
    clear hHeld hK K
    have hHeld := hHeld1
    clear hHeld1
    refine tkq (i := 4) (d := 12) (v := (.agg #[.int .i64 sq, .int .i64 vw, .slice none 0 0])) rfl rfl (yields_build (by kernel_rfl) 55 #[(0, .tmp 9), (1, .tmp 11)] rfl #[(0, .int .i64 sq), (1, .int .i64 vw)] (by simp [Act.eval]) (.agg #[.int .i64 sq, .int .i64 vw, .slice none 0 0]) (fun W _ => hbp W)) (by assumption) ?_
    simp only [Act.put, sq1, sq2, sq3]
    refine wpAnyH_ready (rs := [6]) (by kernel_rfl) (by simp) ?_
    refine AllReadyH.cons (o := ⟨none, .store 55 (.tmp 5) (.tmp 12), _, _, _, none⟩) rfl (fun K hK => ?_) AllReadyH.nil
    refine step_store_blk rfl 55 (.tmp 5) (.tmp 12) rfl gz [.int .i64 sq, .int .i64 vw, .slice none 0 0] (by simp [Act.eval]) (by simp [Act.eval]) 55 [.int .i64 0, .int .i64 0, .slice none 0 0] HBqcac.out (by kernel_rfl) rfl (one3p_ _ _ _ _ _) ?_; intro wy hby hgy; have HBy := Lib.hid hby; have HRy := Lib.hid (HRqcac.out.other hgy (fun b hb => ⟨fun e => by have := Option.some.inj hb; have := HZ.out; have := HLT.out; omega, fun h9 => by have := HQ.out b h9; have := Option.some.inj hb; have := HZ.out; omega⟩)); have HGy := Lib.hid (only_own_ hHeld hgy (fun h e => by have := Option.some.inj e; have := HZ.out; omega)); clear hby hgy
    refine hK.out _ _ HGy.out (fun hHeld1 => ?_)
    clear hHeld hK K
    have hHeld := hHeld1
    clear hHeld1
    change wpAnyH _ _ _ _ _ _ _ (Act.put _ none undef) _
    simp only [Act.put]
    refine wpAnyH_done (by kernel_rfl) ?_ _
    clear hHeld
    go_wp2
    go_meet
    case rel => exact ⟨gz, rfl, HBy.out, HRy.out, HZ.out, HGy.out⟩
  ·as_aux_lemma =>
   refine step_alloc_lg rfl rfl (Try.alloc_pf _) ?_; intro gz wqa hz hb hx; have HZ : Hid (w1.heap.size ≤ gz) := Lib.hid (Nat.le_trans hHeld.size hz); have HBqa := Lib.hid hb; have HRqa := Lib.hid (HRd.out.below hx); have HGqa := Lib.hid (only_trans hHeld (only_below hx)); clear hz hb hx
   refine hK.out _ _ HGqa.out (fun hHeld1 => ?_)
   clear hHeld hK K
   have hHeld := hHeld1
   clear hHeld1
   change wpAnyH _ _ _ _ _ _ _ (Act.put _ (some (5 : Nat)) (.pointer (some ⟨gz, 0, none⟩))) _
   simp only [Act.put, sq1, sq2, sq3]
   refine wpAnyH_ready (rs := [1]) (by kernel_rfl) (by simp) ?_
   refine AllReadyH.cons rfl (fun K hK => ?_) AllReadyH.nil
   go_simp
   refine ((HNm1.out _ HRqa.out)).mono ?_
   rintro e wqac ⟨rfl, hr, hg⟩; have HRqac := Lib.hid hr; have HGqac := Lib.hid (only_trans hHeld hg); have HBqac := Lib.hid (HBqa.out.grown hg (fun e => by have := Option.some.inj e; have := HZ.out; have := HLT.out; omega)); clear hr hg
   go_wp2_with fail
   refine hK.out _ _ HGqac.out (fun hHeld1 => ?_)
   clear hHeld hK K
   have hHeld := hHeld1
   clear hHeld1
   refine wpAnyH_ready (rs := [3]) (by kernel_rfl) (by simp) ?_
   refine AllReadyH.cons rfl (fun K hK => ?_) AllReadyH.nil
   go_simp
   refine ((HNm2.out _ HRqac.out)).mono ?_
   rintro e wqacc ⟨rfl, hr, hg⟩; have HRqacc := Lib.hid hr; have HGqacc := Lib.hid (only_trans hHeld hg); have HBqacc := Lib.hid (HBqac.out.grown hg (fun e => by have := Option.some.inj e; have := HZ.out; have := HLT.out; omega)); clear hr hg
   go_wp2_with fail
   refine hK.out _ _ HGqacc.out (fun hHeld1 => ?_)
   clear hHeld hK K
   have hHeld := hHeld1
   clear hHeld1
   refine tkq (i := 4) (d := 12) (v := (.agg #[.int .i64 sq, .int .i64 vw, .slice none 0 0])) rfl rfl (yields_build (by kernel_rfl) 55 #[(0, .tmp 9), (1, .tmp 11)] rfl #[(0, .int .i64 sq), (1, .int .i64 vw)] (by simp [Act.eval]) (.agg #[.int .i64 sq, .int .i64 vw, .slice none 0 0]) (fun W _ => hbp W)) (by assumption) ?_
   simp only [Act.put, sq1, sq2, sq3]
   refine wpAnyH_ready (rs := [6]) (by kernel_rfl) (by simp) ?_
   refine AllReadyH.cons (o := ⟨none, .store 55 (.tmp 5) (.tmp 12), _, _, _, none⟩) rfl (fun K hK => ?_) AllReadyH.nil
   refine step_store_blk rfl 55 (.tmp 5) (.tmp 12) rfl gz [.int .i64 sq, .int .i64 vw, .slice none 0 0] (by simp [Act.eval]) (by simp [Act.eval]) 55 [.int .i64 0, .int .i64 0, .slice none 0 0] HBqacc.out (by kernel_rfl) rfl (one3p_ _ _ _ _ _) ?_; intro wy hby hgy; have HBy := Lib.hid hby; have HRy := Lib.hid (HRqacc.out.other hgy (fun b hb => ⟨fun e => by have := Option.some.inj hb; have := HZ.out; have := HLT.out; omega, fun h9 => by have := HQ.out b h9; have := Option.some.inj hb; have := HZ.out; omega⟩)); have HGy := Lib.hid (only_own_ hHeld hgy (fun h e => by have := Option.some.inj e; have := HZ.out; omega)); clear hby hgy
   refine hK.out _ _ HGy.out (fun hHeld1 => ?_)
   clear hHeld hK K
   have hHeld := hHeld1
   clear hHeld1
   change wpAnyH _ _ _ _ _ _ _ (Act.put _ none undef) _
   simp only [Act.put]
   refine wpAnyH_done (by kernel_rfl) ?_ _
   clear hHeld
   go_wp2
   go_meet
   case rel => exact ⟨gz, rfl, HBy.out, HRy.out, HZ.out, HGy.out⟩
 case rest =>
 obtain ⟨gz, rfl, hbz, hrz, hzz, hgz⟩ := hcut
 have HBz := Lib.hid hbz
 have HRc := Lib.hid hrz
 have HZz := Lib.hid hzz
 have HGc := Lib.hid hgz
 have HGrc := Lib.hid (HGr.out.grown hgz (fun e => HNR.out (Option.some.inj e)))
 have HGbc := Lib.hid (HGb.out.grown hgz (fun e => HNB.out (Option.some.inj e)))
 have HGnc := Lib.hid (HGn.out.grown hgz (fun e => HNN.out (Option.some.inj e)))
 have HEc := Lib.hid (HGe.out.grown hgz (fun e => HNE.out (Option.some.inj e)))
 have HZc := Lib.hid (HZ0.out.grown hgz (fun e => by have := Option.some.inj e; have := HLT0.out; omega))
 clear hbz hrz hzz hgz
 by_cases hq : eb = 0
 ·subst hq
  go_wp2_with fail
  try dsimp only [Act.put]
  refine wp_region_held_drew (S := fun W => wc.grownBy W (some g)) (by kernel_rfl) (only_below (Below.refl _ wc).drew) (fun hHeld => ?_)
  change wpAnyH _ _ _ _ _ _ #[false, false, false, false, false, false, false, false, false, false, false] _ _
  refine tkq (i := 0) (d := 14) (v := (.pointer (some ⟨g, 0, none⟩))) rfl rfl (yields_load_at (by kernel_rfl) 73 (.tmp 0) rfl (.pointer (some ⟨gr, 0, none⟩)) (by simp [Act.eval]) (.pointer (some ⟨g, 0, none⟩)) (fun W hW => load_one' (Try.cagg_prd W) ((HGrc.out.grown hW (fun e => HNR.out (Option.some.inj e))).cellAt (i := 0) rfl))) (by assumption) ?_
  simp only [Act.put, sq1, sq2, sq3]
  refine tkq (i := 1) (d := 15) (v := (.slice A M c)) rfl rfl (yields_load_at (by kernel_rfl) 28 (.tmp 1) rfl (.pointer (some ⟨gb, 0, none⟩)) (by simp [Act.eval]) (.slice A M c) (fun W hW => load_one' (Try.cagg_sl W) ((HGbc.out.grown hW (fun e => HNB.out (Option.some.inj e))).cellAt (i := 0) rfl))) (by assumption) ?_
  simp only [Act.put, sq1, sq2, sq3]
  refine tkq (i := 2) (d := 16) (v := (.int .i64 (M : Int))) rfl rfl (Or.inl ⟨by kernel_rfl, fun w hSw => ?_⟩) (by assumption) ?_
  ·(try dsimp only at hSw); go_simp <;> (try rfl)
  simp only [Act.put, sq1, sq2, sq3]
  refine tkq (i := 4) (d := 18) (v := (.int .i64 N)) rfl rfl (yields_load_at (by kernel_rfl) 3 (.tmp 2) rfl (.pointer (some ⟨gn, 0, none⟩)) (by simp [Act.eval]) (.int .i64 N) (fun W hW => load_one' (Try.agg_int W) ((HGnc.out.grown hW (fun e => HNN.out (Option.some.inj e))).cellAt (i := 0) rfl))) (by assumption) ?_
  simp only [Act.put, sq1, sq2, sq3]
  refine wpAnyH_ready (rs := [3]) (by kernel_rfl) (by simp) ?_
  refine AllReadyH.cons rfl (fun K hK => ?_) AllReadyH.nil
  go_simp
  refine ((HRow.out _ HRc.out.drew)).mono ?_
  rintro e w4 ⟨B4, n4, c4, rfl, hy4, hr4, hg4⟩; have HY4 := Lib.hid hy4; have HR4 := Lib.hid hr4; have HG4 := Lib.hid (only_trans hHeld hg4); clear hy4 hr4 hg4
  go_wp2_with fail
  refine hK.out _ _ HG4.out (fun hHeld1 => ?_)
  clear hHeld hK K
  have hHeld := hHeld1
  clear hHeld1
  refine wpAnyH_ready (rs := [5]) (by kernel_rfl) (by simp) ?_
  refine AllReadyH.cons rfl (fun K hK => ?_) AllReadyH.nil
  go_simp
  refine ((HPa.out _ _ _ _ HY4.out)).mono ?_
  rintro e w5 ⟨A5, n5, c5, rfl, ho5, hb5⟩; have HO5 := Lib.hid (ho5.weak_ HG4.out.size); have HR5 := Lib.hid (HR4.out.below hb5); have HG5 := Lib.hid (only_trans hHeld (only_below hb5)); clear ho5 hb5
  go_wp2_with fail
  refine hK.out _ _ HG5.out (fun hHeld1 => ?_)
  clear hHeld hK K
  have hHeld := hHeld1
  clear hHeld1
  refine tkq (i := 6) (d := 13) (v := (.tuple #[.slice A5 n5 c5, .int .i64 0])) rfl rfl (Or.inl ⟨by kernel_rfl, fun w hSw => ?_⟩) (by assumption) ?_
  ·(try dsimp only at hSw); go_simp <;> (try rfl)
  simp only [Act.put, sq1, sq2, sq3]
  refine tkq (i := 7) (d := 20) (v := (.slice A5 n5 c5)) rfl rfl (Or.inl ⟨by kernel_rfl, fun w hSw => ?_⟩) (by assumption) ?_
  ·(try dsimp only at hSw); go_simp <;> (try rfl)
  simp only [Act.put, sq1, sq2, sq3]
  refine tkq (i := 8) (d := 21) (v := (.int .i64 0)) rfl rfl (Or.inl ⟨by kernel_rfl, fun w hSw => ?_⟩) (by assumption) ?_
  ·(try dsimp only at hSw); go_simp <;> (try rfl)
  simp only [Act.put, sq1, sq2, sq3]
  refine tkq (i := 9) (d := 6) (v := (.slice A5 n5 c5)) rfl rfl (Or.inl ⟨by kernel_rfl, fun w hSw => ?_⟩) (by assumption) ?_
  ·(try dsimp only at hSw); go_simp <;> (try rfl)
  simp only [Act.put, sq1, sq2, sq3]
  refine tkq (i := 10) (d := 7) (v := (.int .i64 0)) rfl rfl (Or.inl ⟨by kernel_rfl, fun w hSw => ?_⟩) (by assumption) ?_
  ·(try dsimp only at hSw); go_simp <;> (try rfl)
  simp only [Act.put, sq1, sq2, sq3]
  refine wpAnyH_done (by kernel_rfl) ?_ _
  have HB5 := Lib.hid (HBz.out.grown HG5.out (fun e => by have := Option.some.inj e; have := HZz.out; have := HLT.out; omega))
  have HZ5 := Lib.hid (HZc.out.grown HG5.out (fun e => by have := Option.some.inj e; have := HLT0.out; omega))
  have HE5 := Lib.hid (HEc.out.grown HG5.out (fun e => HNE.out (Option.some.inj e)))
  have HT5 : Hid (Tw g ge w w5) := Lib.hid (((Tw.refl g ge w).deep HX1.out).grown (only_trans HGc.out HG5.out))
  have HEB : Hid (ge < wc.heap.size) := Lib.hid (by have := HE0.out.lt; have := HS1.out; have := HGc.out.size; omega)
  clear hHeld
  have HO6 := Lib.hid HO5.out
  have HR6 := Lib.hid HR5.out
  have HB6 := Lib.hid HB5.out
  have HZ6 := Lib.hid HZ5.out
  have HE6 := Lib.hid HE5.out
  have HT6 := Lib.hid HT5.out
  go_wp2_with (first
   | (refine wpList_store_cell rfl 53 (.tmp 26) (.tmp 25) rfl gz 2 (by simp [Act.eval]) (.slice A5 n5 c5) (by simp [Act.eval]) rfl rfl (fun w => by kernel_rfl) 55 [.int .i64 sq, .int .i64 vw, .slice none 0 0] HB6.out (by simp) ?_; intro w7 hb7 hg7; have HB7 : Hid (Blk w7 gz 55 [.int .i64 sq, .int .i64 vw, .slice A5 n5 c5]) := Lib.hid hb7; have HO7 := Lib.hid (OEy.only HO6.out hg7 HB6.out (by decide)); have HR7 := Lib.hid (HR6.out.other hg7 (fun b hb => by have := Option.some.inj hb; exact ⟨fun e => by have := HZz.out; have := HLT.out; omega, fun h9 => by have := HQ.out b h9; have := HZz.out; omega⟩)); have HZ7 := Lib.hid (HZ6.out.grown hg7 (fun e => by have := Option.some.inj e; have := HZz.out; have := HS1.out; omega)); have HE7 := Lib.hid (HE6.out.grown hg7 (fun e => by have := Option.some.inj e; have := HZz.out; have := HE0.out.lt; have := HS1.out; omega)); have HT7 := Lib.hid (HT6.out.turn hg7 (fun b hb => by have := Option.some.inj hb; exact .inr (.inr (by have := HZz.out; have := HS1.out; omega)))); clear hb7 hg7)
   | (refine wpList_load_blk rfl 55 (.tmp 5) rfl gz rfl 55 [.int .i64 sq, .int .i64 vw, .slice A5 n5 c5] _ HB7.out Try.underlying55 rfl (by kernel_rfl) ?_)
   | (refine wpList_store_blk rfl 55 (.tmp 4) (.tmp 27) rfl w.heap.size [.int .i64 sq, .int .i64 vw, .slice A5 n5 c5] rfl rfl 55 [.int .i64 0, .int .i64 0, .slice none 0 0] HZ7.out (by kernel_rfl) rfl (one3p_ _ _ _ _ _) ?_; intro w8 hb8 hg8; have HB8 := Lib.hid hb8; have HR8 := Lib.hid (HR7.out.other hg8 (fun b hb => by have := Option.some.inj hb; exact ⟨fun e => by have := HLT0.out; omega, fun h9 => by have := HQ0.out b h9; omega⟩)); have HT8 := Lib.hid (HT7.out.turn hg8 (fun b hb => by have := Option.some.inj hb; exact .inr (.inr (by omega)))); have HO8 := Lib.hid (OEy.only HO7.out hg8 HZ7.out (by decide)); have HE8 := Lib.hid (HE7.out.grown hg8 (fun e => by have := Option.some.inj e; have := HE0.out.lt; omega)); clear hb8 hg8))
  (try simp only [Exit.inBlock, Exit.then])
  refine bodyPost_ret (v := .agg #[.int .i64 sq, .int .i64 vw, .slice A5 n5 c5]) (results_cell_row rfl _ _ w.heap.size 55 _ (0, 0) _ rfl HB8.out Try.underlying55 rfl (by kernel_rfl)) rfl ⟨A5, n5, c5, rfl, HO8.out.weak_ (by have := HS1.out; have := HGc.out.size; omega), HR8.out, ⟨_, HE8.out, by simp⟩, HT8.out⟩
 ·have hqd : (eb != 0) = true := by simpa using hq
  have HEb := Lib.hid hq
  clear hq
  go_wp2_with fail
  try dsimp only [Act.put]
  refine wp_region_held_drew (S := fun W => wc.grownBy W (some g)) (by kernel_rfl) (only_below (Below.refl _ wc).drew) (fun hHeld => ?_)
  change wpAnyH _ _ _ _ _ _ #[false, false, false, false, false, false, false, false, false, false, false] _ _
  refine tkq (i := 0) (d := 14) (v := (.pointer (some ⟨g, 0, none⟩))) rfl rfl (yields_load_at (by kernel_rfl) 73 (.tmp 0) rfl (.pointer (some ⟨gr, 0, none⟩)) (by simp [Act.eval]) (.pointer (some ⟨g, 0, none⟩)) (fun W hW => load_one' (Try.cagg_prd W) ((HGrc.out.grown hW (fun e => HNR.out (Option.some.inj e))).cellAt (i := 0) rfl))) (by assumption) ?_
  simp only [Act.put, sq1, sq2, sq3]
  refine tkq (i := 1) (d := 15) (v := (.slice A M c)) rfl rfl (yields_load_at (by kernel_rfl) 28 (.tmp 1) rfl (.pointer (some ⟨gb, 0, none⟩)) (by simp [Act.eval]) (.slice A M c) (fun W hW => load_one' (Try.cagg_sl W) ((HGbc.out.grown hW (fun e => HNB.out (Option.some.inj e))).cellAt (i := 0) rfl))) (by assumption) ?_
  simp only [Act.put, sq1, sq2, sq3]
  refine tkq (i := 2) (d := 16) (v := (.int .i64 (M : Int))) rfl rfl (Or.inl ⟨by kernel_rfl, fun w hSw => ?_⟩) (by assumption) ?_
  ·(try dsimp only at hSw); go_simp <;> (try rfl)
  simp only [Act.put, sq1, sq2, sq3]
  refine tkq (i := 4) (d := 18) (v := (.int .i64 N)) rfl rfl (yields_load_at (by kernel_rfl) 3 (.tmp 2) rfl (.pointer (some ⟨gn, 0, none⟩)) (by simp [Act.eval]) (.int .i64 N) (fun W hW => load_one' (Try.agg_int W) ((HGnc.out.grown hW (fun e => HNN.out (Option.some.inj e))).cellAt (i := 0) rfl))) (by assumption) ?_
  simp only [Act.put, sq1, sq2, sq3]
  refine wpAnyH_ready (rs := [3]) (by kernel_rfl) (by simp) ?_
  refine AllReadyH.cons rfl (fun K hK => ?_) AllReadyH.nil
  go_simp
  refine ((HRow.out _ HRc.out.drew)).mono ?_
  rintro e w4 ⟨B4, n4, c4, rfl, hy4, hr4, hg4⟩; have HY4 := Lib.hid hy4; have HR4 := Lib.hid hr4; have HG4 := Lib.hid (only_trans hHeld hg4); clear hy4 hr4 hg4
  go_wp2_with fail
  refine hK.out _ _ HG4.out (fun hHeld1 => ?_)
  clear hHeld hK K
  have hHeld := hHeld1
  clear hHeld1
  refine wpAnyH_ready (rs := [5]) (by kernel_rfl) (by simp) ?_
  refine AllReadyH.cons rfl (fun K hK => ?_) AllReadyH.nil
  go_simp
  refine ((HPa.out _ _ _ _ HY4.out)).mono ?_
  rintro e w5 ⟨A5, n5, c5, rfl, ho5, hb5⟩; have HO5 := Lib.hid (ho5.weak_ HG4.out.size); have HR5 := Lib.hid (HR4.out.below hb5); have HG5 := Lib.hid (only_trans hHeld (only_below hb5)); clear ho5 hb5
  go_wp2_with fail
  refine hK.out _ _ HG5.out (fun hHeld1 => ?_)
  clear hHeld hK K
  have hHeld := hHeld1
  clear hHeld1
  refine tkq (i := 6) (d := 13) (v := (.tuple #[.slice A5 n5 c5, .int .i64 eb])) rfl rfl (Or.inl ⟨by kernel_rfl, fun w hSw => ?_⟩) (by assumption) ?_
  ·(try dsimp only at hSw); go_simp <;> (try rfl)
  simp only [Act.put, sq1, sq2, sq3]
  refine tkq (i := 7) (d := 20) (v := (.slice A5 n5 c5)) rfl rfl (Or.inl ⟨by kernel_rfl, fun w hSw => ?_⟩) (by assumption) ?_
  ·(try dsimp only at hSw); go_simp <;> (try rfl)
  simp only [Act.put, sq1, sq2, sq3]
  refine tkq (i := 8) (d := 21) (v := (.int .i64 eb)) rfl rfl (Or.inl ⟨by kernel_rfl, fun w hSw => ?_⟩) (by assumption) ?_
  ·(try dsimp only at hSw); go_simp <;> (try rfl)
  simp only [Act.put, sq1, sq2, sq3]
  refine tkq (i := 9) (d := 6) (v := (.slice A5 n5 c5)) rfl rfl (Or.inl ⟨by kernel_rfl, fun w hSw => ?_⟩) (by assumption) ?_
  ·(try dsimp only at hSw); go_simp <;> (try rfl)
  simp only [Act.put, sq1, sq2, sq3]
  refine tkq (i := 10) (d := 7) (v := (.int .i64 eb)) rfl rfl (Or.inl ⟨by kernel_rfl, fun w hSw => ?_⟩) (by assumption) ?_
  ·(try dsimp only at hSw); go_simp <;> (try rfl)
  simp only [Act.put, sq1, sq2, sq3]
  refine wpAnyH_done (by kernel_rfl) ?_ _
  have HB5 := Lib.hid (HBz.out.grown HG5.out (fun e => by have := Option.some.inj e; have := HZz.out; have := HLT.out; omega))
  have HZ5 := Lib.hid (HZc.out.grown HG5.out (fun e => by have := Option.some.inj e; have := HLT0.out; omega))
  have HE5 := Lib.hid (HEc.out.grown HG5.out (fun e => HNE.out (Option.some.inj e)))
  have HT5 : Hid (Tw g ge w w5) := Lib.hid (((Tw.refl g ge w).deep HX1.out).grown (only_trans HGc.out HG5.out))
  have HEB : Hid (ge < wc.heap.size) := Lib.hid (by have := HE0.out.lt; have := HS1.out; have := HGc.out.size; omega)
  clear hHeld
  go_wp2_with (first
   | (refine wpList_store_cell rfl 30 (.tmp 3) (.tmp 24) rfl ge 0 (by simp [Act.eval]) (.int .i64 eb) (by simp [Act.eval]) rfl rfl (fun w => by kernel_rfl) 30 [.int .i64 e0] HE5.out (by simp) ?_; intro w6 hb6 hg6; have HE6 : Hid (Blk w6 ge 30 [.int .i64 eb]) := Lib.hid hb6; have HO6 := Lib.hid (HO5.out.far hg6 HEB.out); have HR6 := Lib.hid (HR5.out.other hg6 (fun b hb => by have h8 := Option.some.inj hb; exact ⟨fun e => by have := HNE.out; omega, fun h9 => HQE.out (by rw [h8]; exact h9)⟩)); have HB6 := Lib.hid (HB5.out.grown hg6 (fun e => by have := Option.some.inj e; have := HZz.out; have := HE0.out.lt; have := HS1.out; omega)); have HZ6 := Lib.hid (HZ5.out.grown hg6 (fun e => by have := Option.some.inj e; have := HE0.out.lt; omega)); have HT6 := Lib.hid (HT5.out.turn hg6 (fun b hb => .inr (.inl (Option.some.inj hb).symm))); clear hb6 hg6)
   | (refine wpList_store_cell rfl 53 (.tmp 26) (.tmp 25) rfl gz 2 (by simp [Act.eval]) (.slice A5 n5 c5) (by simp [Act.eval]) rfl rfl (fun w => by kernel_rfl) 55 [.int .i64 sq, .int .i64 vw, .slice none 0 0] HB6.out (by simp) ?_; intro w7 hb7 hg7; have HB7 : Hid (Blk w7 gz 55 [.int .i64 sq, .int .i64 vw, .slice A5 n5 c5]) := Lib.hid hb7; have HO7 := Lib.hid (OEy.only HO6.out hg7 HB6.out (by decide)); have HR7 := Lib.hid (HR6.out.other hg7 (fun b hb => by have := Option.some.inj hb; exact ⟨fun e => by have := HZz.out; have := HLT.out; omega, fun h9 => by have := HQ.out b h9; have := HZz.out; omega⟩)); have HZ7 := Lib.hid (HZ6.out.grown hg7 (fun e => by have := Option.some.inj e; have := HZz.out; have := HS1.out; omega)); have HE7 := Lib.hid (HE6.out.grown hg7 (fun e => by have := Option.some.inj e; have := HZz.out; have := HE0.out.lt; have := HS1.out; omega)); have HT7 := Lib.hid (HT6.out.turn hg7 (fun b hb => by have := Option.some.inj hb; exact .inr (.inr (by have := HZz.out; have := HS1.out; omega)))); clear hb7 hg7)
   | (refine wpList_load_blk rfl 55 (.tmp 5) rfl gz rfl 55 [.int .i64 sq, .int .i64 vw, .slice A5 n5 c5] _ HB7.out Try.underlying55 rfl (by kernel_rfl) ?_)
   | (refine wpList_store_blk rfl 55 (.tmp 4) (.tmp 27) rfl w.heap.size [.int .i64 sq, .int .i64 vw, .slice A5 n5 c5] rfl rfl 55 [.int .i64 0, .int .i64 0, .slice none 0 0] HZ7.out (by kernel_rfl) rfl (one3p_ _ _ _ _ _) ?_; intro w8 hb8 hg8; have HB8 := Lib.hid hb8; have HR8 := Lib.hid (HR7.out.other hg8 (fun b hb => by have := Option.some.inj hb; exact ⟨fun e => by have := HLT0.out; omega, fun h9 => by have := HQ0.out b h9; omega⟩)); have HT8 := Lib.hid (HT7.out.turn hg8 (fun b hb => by have := Option.some.inj hb; exact .inr (.inr (by omega)))); have HO8 := Lib.hid (OEy.only HO7.out hg8 HZ7.out (by decide)); have HE8 := Lib.hid (HE7.out.grown hg8 (fun e => by have := Option.some.inj e; have := HE0.out.lt; omega)); clear hb8 hg8))
  (try simp only [Exit.inBlock, Exit.then])
  refine bodyPost_ret (v := .agg #[.int .i64 sq, .int .i64 vw, .slice A5 n5 c5]) (results_cell_row rfl _ _ w.heap.size 55 _ (0, 0) _ rfl HB8.out Try.underlying55 rfl (by kernel_rfl)) rfl ⟨A5, n5, c5, rfl, HO8.out.weak_ (by have := HS1.out; have := HGc.out.size; omega), HR8.out, ⟨_, HE8.out, by simp [HEb.out]⟩, HT8.out⟩

end Go.Proofs.Ytheecifgbkdecaa
