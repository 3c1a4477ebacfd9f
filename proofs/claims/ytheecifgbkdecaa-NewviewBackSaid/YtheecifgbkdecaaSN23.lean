/-
  ChT
-/
import Derived.Test.YtheecifgbkdecaaSN22
import Derived.Test.YtheecifgbkdecaaSNT
namespace Go.Proofs.Ytheecifgbkdecaa
open Go.RowKit

theorem eq_dgx (x y : List UInt8) (hx : x.length = 32) (hy : y.length = 32) (w : World) : (Op.equalIn 9999 40 (.agg (vs x).toArray) (.agg (vs y).toArray)).run Try.prog w = .ok (x == y) w := by
 obtain ⟨i, hi⟩ := Option.isSome_iff_exists.1 (show (Try.prog.info? 5).isSome = true by kernel_rfl)
 rw [show (9999 : Nat) = 9997 + 1 + 1 from rfl, run_equalIn_array w (9997 + 1) _ _ Try.underlying40 hi, show Try.prog.cellsOf 5 = 1 by kernel_rfl, List.range_eq_range', run_eqItems_bytes 9997 5 w Try.underlying5 x y 32 0 (by omega) (by omega)]
 rfl
set_option maxRecDepth 100000 in
set_option maxHeartbeats 8000000 in
theorem eq_po (p q : Po) (hp : p.dg.length = 32) (hq : q.dg.length = 32) (w : World) : (binOp .eql 52 (.agg (Po.cells p).toArray) (.agg (Po.cells q).toArray)).run Try.prog w = .ok (.bool (p.eqb q)) w := by
 obtain ⟨a, d⟩ := p
 obtain ⟨b, e⟩ := q
 have hdq := eq_dgx d e hp hq w
 unfold Po.eqb
 simp only
 generalize (d == e) = bb at *
 obtain ⟨x0, x1, x2, x3, x4, x5, x6, x7, x8, x9, x10, x11, x12, x13, x14, x15, x16, x17, x18, x19, x20, x21, x22, x23, x24, x25, x26, x27, x28, x29, x30, x31, rfl⟩ := vs_lit d hp
 obtain ⟨y0, y1, y2, y3, y4, y5, y6, y7, y8, y9, y10, y11, y12, y13, y14, y15, y16, y17, y18, y19, y20, y21, y22, y23, y24, y25, y26, y27, y28, y29, y30, y31, rfl⟩ := vs_lit e hq
 simp only [vs, u8, List.map_cons, List.map_nil] at hdq
 cases h0 : (a == b) with
 | false => simp [go_sem, Po.cells, vs, u8, h0]
 | true => cases bb <;> simp [go_sem, Po.cells, vs, u8, h0, hdq]
theorem neq_po (p q : Po) (hp : p.dg.length = 32) (hq : q.dg.length = 32) (w : World) : (binOp .neq 52 (.agg (Po.cells p).toArray) (.agg (Po.cells q).toArray)).run Try.prog w = .ok (.bool (!(p.eqb q))) w := arr_neq (fun w => eq_po p q hp hq w) w
theorem AllP.es_len {w : World} : ∀ {ps : List Pf} {ss : List Pl}, AllP w ps ss → ∀ p ∈ ps, p.es.length ≤ maxLen
 | [], [], _, _, hp => nomatch hp
 | p :: ps, s :: ss, h, x, hx => by
  rcases List.mem_cons.1 hx with rfl | hx
  ·rw [h.1.1.len]; exact Nat.le_trans h.1.2.1 h.1.2.2
  ·exact AllP.es_len h.2 x hx
 | [], _ :: _, h, _, _ => h.elim
 | _ :: _, [], h, _, _ => h.elim
theorem PfsIn.es_len {w : World} {A : Option Addr} {k : Nat} {ps : List Pf} (h : PfsIn w A k ps) : ∀ p ∈ ps, p.es.length ≤ 9223372036854775807 := fun p hp => by
 obtain ⟨ss, _, h2⟩ := h
 have h9 := h2.es_len p hp
 simp only [maxLen] at h9
 omega

set_option maxHeartbeats 32000000 in
set_option maxRecDepth 100000 in
theorem rsame18_any (a b : Ch) (P Q R P' Q' R' : Pl) (w : World) (h : ChIn w P Q R a) (h' : ChIn w P' Q' R' b) :
  Calls Try.prog 15 #[.agg (Ch.cells a P Q R).toArray, .agg (Ch.cells b P' Q' R').toArray] w fun e w' => e = .returned (.bool (a.eqb b)) ∧ Below w.heap.size w w' := by
 obtain ⟨bb, hbb⟩ : ∃ bb, a.eqb b = bb := ⟨_, rfl⟩
 rw [hbb]
 have H1 : Hid (Blk ((w.alloc (.cells (Ch.cells a P Q R).toArray 25)).alloc (.cells (Ch.cells b P' Q' R').toArray 25)) w.heap.size 25 (Ch.cells a P Q R)) := Lib.hid ((Blk.fresh rfl rfl).alloc _)
 have H2 : Hid (Blk ((w.alloc (.cells (Ch.cells a P Q R).toArray 25)).alloc (.cells (Ch.cells b P' Q' R').toArray 25)) (w.heap.size + 1) 25 (Ch.cells b P' Q' R')) := Lib.hid (Blk.fresh (by simp) rfl)
 have HXe : Hid (Below w.heap.size w ((w.alloc (.cells (Ch.cells a P Q R).toArray 25)).alloc (.cells (Ch.cells b P' Q' R').toArray 25))) := Lib.hid (below2_ w _ _)
 have HA := Lib.hid h.1.1
 have HB := Lib.hid h'.1.1
 have HLa := Lib.hid h.1.1.len
 have HLb := Lib.hid h'.1.1.len
 have HM : Hid (P.2.1 ≤ 9223372036854775807) := Lib.hid (by have h9 := h.1.2; simp only [maxLen] at h9; omega)
 obtain ⟨t1, ht1⟩ : ∃ t, allB Pf.eqb a.pp b.pp = t := ⟨_, rfl⟩
 obtain ⟨t2, ht2⟩ : ∃ t, allB Pf.eqb a.pd b.pd = t := ⟨_, rfl⟩
 have HS1 : Hid (∀ W : World, Below w.heap.size w W → Calls Try.prog 54 #[.slice Q.1 Q.2.1 Q.2.2, .slice Q'.1 Q'.2.1 Q'.2.2] W fun e w' => e = .returned (.bool t1) ∧ Below W.heap.size W w') := Lib.hid (fun W hW => ht1 ▸ rsamepfs_any a.pp b.pp Q.1 Q.2.1 Q.2.2 Q'.1 Q'.2.1 Q'.2.2 W (h.2.1.1.through hW) (h'.2.1.1.through hW) (by have h9 := h.2.1.2; simp only [maxLen] at h9; omega) h.2.1.1.es_len)
 have HS2 : Hid (∀ W : World, Below w.heap.size w W → Calls Try.prog 54 #[.slice R.1 R.2.1 R.2.2, .slice R'.1 R'.2.1 R'.2.2] W fun e w' => e = .returned (.bool t2) ∧ Below W.heap.size W w') := Lib.hid (fun W hW => ht2 ▸ rsamepfs_any a.pd b.pd R.1 R.2.1 R.2.2 R'.1 R'.2.1 R'.2.2 W (h.2.2.1.through hW) (h'.2.2.1.through hW) (by have h9 := h.2.2.2; simp only [maxLen] at h9; omega) h.2.2.1.es_len)
 have HQ : Hid (bb = ((a.vw == b.vw) && (a.lw == b.lw) && allB Po.eqb a.po b.po && t1 && t2)) := Lib.hid (by rw [← hbb, ← ht1, ← ht2]; rfl)
 have k10 := H1.out.cellAt (i := 0) rfl
 have k11 := H1.out.cellAt (i := 1) rfl
 have k12 := H1.out.cellAt (i := 2) rfl
 have k20 := H2.out.cellAt (i := 0) rfl
 have k21 := H2.out.cellAt (i := 1) rfl
 have k22 := H2.out.cellAt (i := 2) rfl
 clear h h' hbb ht1 ht2
 by_cases s0 : a.vw = b.vw
 case neg =>
  have b0 : (a.vw == b.vw) = false := by simpa using s0
  have b1 : (a.vw != b.vw) = true := by simpa using s0
  have HF : Hid (bb = false) := Lib.hid (by rw [HQ.out, b0]; rfl)
  clear s0
  go_enter Try.func15, Try.ntmps15
  go_wp2_with (first | go_skip)
  go_ret
  exact ⟨ret_bo HF.out.symm, HXe.out⟩
 have b0 : (a.vw == b.vw) = true := by simpa using s0
 have b1 : (a.vw != b.vw) = false := by simpa using s0
 by_cases s1 : a.lw = b.lw
 case neg =>
  have b2 : (a.lw == b.lw) = false := by simpa using s1
  have b3 : (a.lw != b.lw) = true := by simpa using s1
  have HF : Hid (bb = false) := Lib.hid (by rw [HQ.out, b0, b2]; rfl)
  clear s0 s1
  go_enter Try.func15, Try.ntmps15
  go_wp2_with (first | go_skip)
  go_ret
  exact ⟨ret_bo HF.out.symm, HXe.out⟩
 have b2 : (a.lw == b.lw) = true := by simpa using s1
 have b3 : (a.lw != b.lw) = false := by simpa using s1
 by_cases s2 : P.2.1 = P'.2.1
 case neg =>
  have s2i : ¬ (P.2.1 : Int) = (P'.2.1 : Int) := by omega
  have b6 : ((P.2.1 : Int) == (P'.2.1 : Int)) = false := by simpa using s2i
  have b7 : ((P.2.1 : Int) != (P'.2.1 : Int)) = true := by simpa using s2i
  have b8 : (P.2.1 == P'.2.1) = false := by simpa using s2
  have b9 : (P.2.1 != P'.2.1) = true := by simpa using s2
  have hpo : allB Po.eqb a.po b.po = false := by
   cases hb : allB Po.eqb a.po b.po
   ·rfl
   ·exact absurd (allB_len hb) (by rw [HLa.out, HLb.out]; exact s2)
  have HF : Hid (bb = false) := Lib.hid (by rw [HQ.out, b0, b2, hpo]; rfl)
  clear s0 s1 s2 s2i hpo
  go_enter Try.func15, Try.ntmps15
  go_wp2_with (first | go_skip)
  go_ret
  exact ⟨ret_bo HF.out.symm, HXe.out⟩
 have s2i : (P.2.1 : Int) = (P'.2.1 : Int) := by omega
 have b6 : ((P.2.1 : Int) == (P'.2.1 : Int)) = true := by simpa using s2i
 have b7 : ((P.2.1 : Int) != (P'.2.1 : Int)) = false := by simpa using s2i
 have b8 : (P.2.1 == P'.2.1) = true := by simpa using s2
 have b9 : (P.2.1 != P'.2.1) = false := by simpa using s2
 have HQ2 : Hid (bb = (allB Po.eqb a.po b.po && t1 && t2)) := Lib.hid (by rw [HQ.out, b0, b2]; rfl)
 have HEq := Lib.hid s2
 obtain ⟨ab, hab⟩ : ∃ t, allB Po.eqb a.po b.po = t := ⟨_, rfl⟩
 rw [hab] at HQ2
 have HAB := Lib.hid hab
 clear s0 s1 s2 s2i hab
 go_enter Try.func15, Try.ntmps15
 go_wp2_with (first | go_skip)
 clear b0 b1 b2 b3 b6 b7 b8 b9 k10 k11 k12 k20 k21 k22
 go_loopw [30] (fun iv wr => ∃ i : Nat, i ≤ P.2.1 ∧ iv = .int .i64 i ∧ ab = allB Po.eqb (a.po.drop i) (b.po.drop i) ∧ Blk wr w.heap.size 25 (Ch.cells a P Q R) ∧ Blk wr (w.heap.size + 1) 25 (Ch.cells b P' Q' R') ∧ Below w.heap.size w wr) (fun iv _ => P.2.1 - (intOf iv).toNat)
 case atStart => exact ⟨0, Nat.zero_le _, rfl, HAB.out.symm, H1.out, H2.out, HXe.out⟩
 case round =>
  obtain ⟨i, hi, rfl, hq, hk1, hk2, hx⟩ := hrel
  have K1 := Lib.hid hk1
  have K2 := Lib.hid hk2
  have HX := Lib.hid hx
  have hmx := HM.out
  clear hk1 hk2 hx
  by_cases hlt : i < P.2.1
  ·obtain ⟨g, o, p, hP1, _, _, hd, hpl, hrp⟩ := (HA.out.through HX.out).at hlt
   obtain ⟨g', o', q, hP2, _, _, hd', hql, hrq⟩ := (HB.out.through HX.out).at (show i < P'.2.1 by have := HEq.out; omega)
   rw [hd, hd'] at hq
   have HRp := Lib.hid hrp
   have HRq := Lib.hid hrq
   have HPL : Hid ((Po.cells p).length = 33) := Lib.hid (Po.cells_len p hpl)
   have HQL : Hid ((Po.cells q).length = 33) := Lib.hid (Po.cells_len q hql)
   have hix : ∀ W, (Instr.indexAt 22 (.slice P.1 P.2.1 P.2.2) (.int .i64 (i : Int))).run Try.prog W = .ok (.pointer (some ⟨g, o + i * 33, none⟩)) W := fun W => by rw [hP1]; exact Try.ix_po W g o P.2.1 P.2.2 i hlt
   have hix' : ∀ W, (Instr.indexAt 22 (.slice P'.1 P'.2.1 P'.2.2) (.int .i64 (i : Int))).run Try.prog W = .ok (.pointer (some ⟨g', o' + i * 33, none⟩)) W := fun W => by rw [hP2]; exact Try.ix_po W g' o' P'.2.1 P'.2.2 i (by have := HEq.out; omega)
   have htn := fun W => neq_po p q hpl hql W
   have HLt := Lib.hid hlt
   clear hd hd' hpl hql hrp hrq hP1 hP2
   cases hpq : p.eqb q with
   | false =>
    rw [hpq] at htn
    have HF : Hid (bb = false) := Lib.hid (by rw [HQ2.out, hq]; simp [allB, hpq])
    clear hq hpq
    go_wp2
    try dsimp only [Act.put]
    refine wp_region_held_drew (S := fun W => Below wr.heap.size wr W) (by kernel_rfl) (Below.refl _ _).drew (fun hHeld => ?_)
    change wpAnyH _ _ _ _ _ _ #[false, false, false, false, false, false, false, false, false, false, false] _ _
    refine tkq (i := 0) (d := 33) (v := (.pointer (some ⟨w.heap.size, 2, none⟩))) rfl rfl (Or.inl ⟨by kernel_rfl, fun w hSw => ?_⟩) (by assumption) ?_
    ·(try dsimp only at hSw); go_simp <;> (try rfl)
    simp only [Act.put, sq1, sq2, sq3]
    refine tkq (i := 1) (d := 34) (v := (.slice P.1 P.2.1 P.2.2)) rfl rfl (yields_load_at (by kernel_rfl) 22 (.tmp 33) rfl (.pointer (some ⟨w.heap.size, 2, none⟩)) (by simp [Act.eval]) (.slice P.1 P.2.1 P.2.2) (fun W hW => load_one' (Try.agg_pos W) ((K1.out.through hW).cellAt (i := 2) rfl))) (by assumption) ?_
    simp only [Act.put, sq1, sq2, sq3]
    refine tkq (i := 2) (d := 35) (v := (.int .i64 (i : Int))) rfl rfl (Or.inl ⟨by kernel_rfl, fun w hSw => ?_⟩) (by assumption) ?_
    ·(try dsimp only at hSw); go_simp <;> (try rfl)
    simp only [Act.put, sq1, sq2, sq3]
    refine tkq (i := 3) (d := 36) (v := (.pointer (some ⟨g, o + i * 33, none⟩))) rfl rfl (Or.inl ⟨by kernel_rfl, fun w hSw => ?_⟩) (by assumption) ?_
    ·(try dsimp only at hSw); go_simp <;> (try rfl)
    simp only [Act.put, sq1, sq2, sq3]
    refine tkq (i := 4) (d := 37) (v := (.agg (Po.cells p).toArray)) rfl rfl (yieldsIf_load_mid (by kernel_rfl) 52 (.tmp 36) rfl g (o + i * 33) (by simp [Act.eval]) (Po.cells p) _ (fun W hW => rangeAt.through HRp.out hW) Try.underlying52 rfl (by rw [HPL.out]; kernel_rfl)) (by assumption) ?_
    simp only [Act.put, sq1, sq2, sq3]
    refine tkq (i := 5) (d := 38) (v := (.pointer (some ⟨w.heap.size + 1, 2, none⟩))) rfl rfl (Or.inl ⟨by kernel_rfl, fun w hSw => ?_⟩) (by assumption) ?_
    ·(try dsimp only at hSw); go_simp <;> (try rfl)
    simp only [Act.put, sq1, sq2, sq3]
    refine tkq (i := 6) (d := 39) (v := (.slice P'.1 P'.2.1 P'.2.2)) rfl rfl (yields_load_at (by kernel_rfl) 22 (.tmp 38) rfl (.pointer (some ⟨w.heap.size + 1, 2, none⟩)) (by simp [Act.eval]) (.slice P'.1 P'.2.1 P'.2.2) (fun W hW => load_one' (Try.agg_pos W) ((K2.out.through hW).cellAt (i := 2) rfl))) (by assumption) ?_
    simp only [Act.put, sq1, sq2, sq3]
    refine tkq (i := 7) (d := 40) (v := (.int .i64 (i : Int))) rfl rfl (Or.inl ⟨by kernel_rfl, fun w hSw => ?_⟩) (by assumption) ?_
    ·(try dsimp only at hSw); go_simp <;> (try rfl)
    simp only [Act.put, sq1, sq2, sq3]
    refine tkq (i := 8) (d := 41) (v := (.pointer (some ⟨g', o' + i * 33, none⟩))) rfl rfl (Or.inl ⟨by kernel_rfl, fun w hSw => ?_⟩) (by assumption) ?_
    ·(try dsimp only at hSw); go_simp <;> (try rfl)
    simp only [Act.put, sq1, sq2, sq3]
    refine tkq (i := 9) (d := 42) (v := (.agg (Po.cells q).toArray)) rfl rfl (yieldsIf_load_mid (by kernel_rfl) 52 (.tmp 41) rfl g' (o' + i * 33) (by simp [Act.eval]) (Po.cells q) _ (fun W hW => rangeAt.through HRq.out hW) Try.underlying52 rfl (by rw [HQL.out]; kernel_rfl)) (by assumption) ?_
    simp only [Act.put, sq1, sq2, sq3]
    refine tkq (i := 10) (d := 43) (v := (.bool true)) rfl rfl (Or.inl ⟨by kernel_rfl, fun w hSw => ?_⟩) (by assumption) ?_
    ·(try dsimp only at hSw); go_simp <;> (try rfl)
    simp only [Act.put, sq1, sq2, sq3]
    refine wpAnyH_done (by kernel_rfl) ?_ _
    have HKz := Lib.hid hHeld
    clear hHeld
    go_wp2
    go_ret
    exact ⟨ret_bo HF.out.symm, below_step HX.out HKz.out⟩
   | true =>
    rw [hpq] at htn
    have HN : Hid (ab = allB Po.eqb (a.po.drop (i + 1)) (b.po.drop (i + 1))) := Lib.hid (by rw [hq]; simp [allB, hpq])
    clear hq hpq
    go_wp2
    try dsimp only [Act.put]
    refine wp_region_held_drew (S := fun W => Below wr.heap.size wr W) (by kernel_rfl) (Below.refl _ _).drew (fun hHeld => ?_)
    change wpAnyH _ _ _ _ _ _ #[false, false, false, false, false, false, false, false, false, false, false] _ _
    refine tkq (i := 0) (d := 33) (v := (.pointer (some ⟨w.heap.size, 2, none⟩))) rfl rfl (Or.inl ⟨by kernel_rfl, fun w hSw => ?_⟩) (by assumption) ?_
    ·(try dsimp only at hSw); go_simp <;> (try rfl)
    simp only [Act.put, sq1, sq2, sq3]
    refine tkq (i := 1) (d := 34) (v := (.slice P.1 P.2.1 P.2.2)) rfl rfl (yields_load_at (by kernel_rfl) 22 (.tmp 33) rfl (.pointer (some ⟨w.heap.size, 2, none⟩)) (by simp [Act.eval]) (.slice P.1 P.2.1 P.2.2) (fun W hW => load_one' (Try.agg_pos W) ((K1.out.through hW).cellAt (i := 2) rfl))) (by assumption) ?_
    simp only [Act.put, sq1, sq2, sq3]
    refine tkq (i := 2) (d := 35) (v := (.int .i64 (i : Int))) rfl rfl (Or.inl ⟨by kernel_rfl, fun w hSw => ?_⟩) (by assumption) ?_
    ·(try dsimp only at hSw); go_simp <;> (try rfl)
    simp only [Act.put, sq1, sq2, sq3]
    refine tkq (i := 3) (d := 36) (v := (.pointer (some ⟨g, o + i * 33, none⟩))) rfl rfl (Or.inl ⟨by kernel_rfl, fun w hSw => ?_⟩) (by assumption) ?_
    ·(try dsimp only at hSw); go_simp <;> (try rfl)
    simp only [Act.put, sq1, sq2, sq3]
    refine tkq (i := 4) (d := 37) (v := (.agg (Po.cells p).toArray)) rfl rfl (yieldsIf_load_mid (by kernel_rfl) 52 (.tmp 36) rfl g (o + i * 33) (by simp [Act.eval]) (Po.cells p) _ (fun W hW => rangeAt.through HRp.out hW) Try.underlying52 rfl (by rw [HPL.out]; kernel_rfl)) (by assumption) ?_
    simp only [Act.put, sq1, sq2, sq3]
    refine tkq (i := 5) (d := 38) (v := (.pointer (some ⟨w.heap.size + 1, 2, none⟩))) rfl rfl (Or.inl ⟨by kernel_rfl, fun w hSw => ?_⟩) (by assumption) ?_
    ·(try dsimp only at hSw); go_simp <;> (try rfl)
    simp only [Act.put, sq1, sq2, sq3]
    refine tkq (i := 6) (d := 39) (v := (.slice P'.1 P'.2.1 P'.2.2)) rfl rfl (yields_load_at (by kernel_rfl) 22 (.tmp 38) rfl (.pointer (some ⟨w.heap.size + 1, 2, none⟩)) (by simp [Act.eval]) (.slice P'.1 P'.2.1 P'.2.2) (fun W hW => load_one' (Try.agg_pos W) ((K2.out.through hW).cellAt (i := 2) rfl))) (by assumption) ?_
    simp only [Act.put, sq1, sq2, sq3]
    refine tkq (i := 7) (d := 40) (v := (.int .i64 (i : Int))) rfl rfl (Or.inl ⟨by kernel_rfl, fun w hSw => ?_⟩) (by assumption) ?_
    ·(try dsimp only at hSw); go_simp <;> (try rfl)
    simp only [Act.put, sq1, sq2, sq3]
    refine tkq (i := 8) (d := 41) (v := (.pointer (some ⟨g', o' + i * 33, none⟩))) rfl rfl (Or.inl ⟨by kernel_rfl, fun w hSw => ?_⟩) (by assumption) ?_
    ·(try dsimp only at hSw); go_simp <;> (try rfl)
    simp only [Act.put, sq1, sq2, sq3]
    refine tkq (i := 9) (d := 42) (v := (.agg (Po.cells q).toArray)) rfl rfl (yieldsIf_load_mid (by kernel_rfl) 52 (.tmp 41) rfl g' (o' + i * 33) (by simp [Act.eval]) (Po.cells q) _ (fun W hW => rangeAt.through HRq.out hW) Try.underlying52 rfl (by rw [HQL.out]; kernel_rfl)) (by assumption) ?_
    simp only [Act.put, sq1, sq2, sq3]
    refine tkq (i := 10) (d := 43) (v := (.bool false)) rfl rfl (Or.inl ⟨by kernel_rfl, fun w hSw => ?_⟩) (by assumption) ?_
    ·(try dsimp only at hSw); go_simp <;> (try rfl)
    simp only [Act.put, sq1, sq2, sq3]
    refine wpAnyH_done (by kernel_rfl) ?_ _
    have HKz := Lib.hid hHeld
    clear hHeld
    have hlt9 := HLt.out
    go_wp2
    go_roundw
    case rel => exact ⟨i + 1, by omega, by go_num, HN.out, K1.out.through HKz.out, K2.out.through HKz.out, below_step HX.out HKz.out⟩
    case measure => simp [intOf]; omega
  ·have e1 : a.po.drop i = [] := List.drop_of_length_le (by have := HLa.out; omega)
   have e2 : b.po.drop i = [] := List.drop_of_length_le (by have := HLb.out; have := HEq.out; omega)
   rw [e1, e2] at hq
   have HF : Hid (bb = (t1 && t2)) := Lib.hid (by rw [HQ2.out, hq]; rfl)
   have k13 := K1.out.cellAt (i := 3) rfl
   have k23 := K2.out.cellAt (i := 3) rfl
   clear hq e1 e2
   cases t1 with
   | false =>
    go_wp2_with (first
     | go_skip
     | (go_at_call 54; (with_reducible refine (HS1.out _ HX.out).mono ?_); rintro e w1 ⟨rfl, hb1⟩; have HX1 := Lib.hid (below_step HX.out hb1); have K11 := Lib.hid (K1.out.through hb1); have K21 := Lib.hid (K2.out.through hb1); have k14 := K11.out.cellAt (i := 4) rfl; have k24 := K21.out.cellAt (i := 4) rfl; clear hb1))
    go_ret
    exact ⟨ret_bo HF.out.symm, HX1.out⟩
   | true =>
    go_wp2_with (first
     | go_skip
     | (go_at_call 54; (with_reducible refine (HS1.out _ HX.out).mono ?_); rintro e w1 ⟨rfl, hb1⟩; have HX1 := Lib.hid (below_step HX.out hb1); have K11 := Lib.hid (K1.out.through hb1); have K21 := Lib.hid (K2.out.through hb1); have k14 := K11.out.cellAt (i := 4) rfl; have k24 := K21.out.cellAt (i := 4) rfl; clear hb1)
     | (go_at_call 54; (with_reducible refine (HS2.out _ HX1.out).mono ?_); rintro e w2 ⟨rfl, hb2⟩; have HX2 := Lib.hid (below_step HX1.out hb2); clear hb2))
    go_ret
    exact ⟨ret_bo HF.out.symm, HX2.out⟩

end Go.Proofs.Ytheecifgbkdecaa
