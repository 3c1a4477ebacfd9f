/-
  CwL
-/
import Derived.Test.YtheecifgbkdecaaSN36
import Derived.Test.YtheecifgbkdecaaSN40
import Derived.Test.YtheecifgbkdecaaSN41
import Derived.Test.YtheecifgbkdecaaSNT
namespace Go.Proofs.Ytheecifgbkdecaa
open Go.RowKit
theorem step_build1_g {P : Program} {ops : Array Oper} {o : Oper} {a : Act} {w : World} {K : Act → World → Prop} {Q : Exit → Act → World → Prop} {F : Prop} (hw : Region.wanted o (yielded ops a.tmps) = true) (s e : TypeId) (x0 : Operand) (ho : o.op = .buildSlice s 1 #[(0, x0)])
  (p0 : Value) (h0 : a.eval x0 = p0) (hrun : (Instr.buildSlice s 1 #[(0, p0)]).run P w = .ok (.slice (some ⟨w.heap.size, 0, none⟩) 1 1) (w.alloc (.cells #[p0] e)))
  (h : ∀ g w', Blk w' g e [p0] → Below w.heap.size w w' → K (a.put o.dst (.slice (some ⟨g, 0, none⟩) 1 1)) w') : if Region.wanted o (yielded ops a.tmps) = true then Oper.wp P o a w K Q else F := by
 rw [if_pos hw]
 unfold Oper.wp execOp
 simp only [ho, Sem.run_bind, List.map_toArray, List.map_cons, List.map_nil, h0, hrun, Result.andThen_ok]
 exact h _ _ (Blk.fresh rfl rfl) ((Below.refl _ w).alloc (Nat.le_refl _) _)
theorem step_build2_g {P : Program} {ops : Array Oper} {o : Oper} {a : Act} {w : World} {K : Act → World → Prop} {Q : Exit → Act → World → Prop} {F : Prop} (hw : Region.wanted o (yielded ops a.tmps) = true) (s e : TypeId) (x0 x1 : Operand) (ho : o.op = .buildSlice s 2 #[(0, x0), (1, x1)])
  (p0 p1 : Value) (h0 : a.eval x0 = p0) (h1 : a.eval x1 = p1) (hrun : (Instr.buildSlice s 2 #[(0, p0), (1, p1)]).run P w = .ok (.slice (some ⟨w.heap.size, 0, none⟩) 2 2) (w.alloc (.cells #[p0, p1] e)))
  (h : ∀ g w', Blk w' g e [p0, p1] → Below w.heap.size w w' → K (a.put o.dst (.slice (some ⟨g, 0, none⟩) 2 2)) w') : if Region.wanted o (yielded ops a.tmps) = true then Oper.wp P o a w K Q else F := by
 rw [if_pos hw]
 unfold Oper.wp execOp
 simp only [ho, Sem.run_bind, List.map_toArray, List.map_cons, List.map_nil, h0, h1, hrun, Result.andThen_ok]
 exact h _ _ (Blk.fresh rfl rfl) ((Below.refl _ w).alloc (Nat.le_refl _) _)
theorem Try.run_bpo (w : World) : (Instr.buildSlice 136 1 #[(0, (.func (.func 82) #[] #[]))]).run Try.prog w = .ok (.slice (some ⟨w.heap.size, 0, none⟩) 1 1) (w.alloc (.cells #[(.func (.func 82) #[] #[])] 116)) := by kernel_rfl
theorem Try.run_bpf1 (w : World) : (Instr.buildSlice 138 1 #[(0, (.func (.func 83) #[] #[]))]).run Try.prog w = .ok (.slice (some ⟨w.heap.size, 0, none⟩) 1 1) (w.alloc (.cells #[(.func (.func 83) #[] #[])] 117)) := by kernel_rfl
theorem Try.run_bpf2 (w : World) : (Instr.buildSlice 138 2 #[(0, (.func (.func 83) #[] #[])), (1, (.func (.func 84) #[] #[]))]).run Try.prog w = .ok (.slice (some ⟨w.heap.size, 0, none⟩) 2 2) (w.alloc (.cells #[(.func (.func 83) #[] #[]), (.func (.func 84) #[] #[])] 117)) := by kernel_rfl

/-- the program's way to ask whether a change may be -/
def chgB (c : Ch) (n : Int) : Bool := decide (1 ≤ c.vw) && decide (c.vw ≤ 1048576) && markB c.lw && decide (0 < c.po.length) && (match c.po with | [] => false | p :: _ => decide (p.sq = c.lw)) && (decide (c.po.length ≤ 4) && poB none c.po) && (decide (c.pp.length ≤ 8) && ppB c.vw c.lw n none c.pp) && (decide (c.pd.length ≤ 64) && pdB c.vw c.lw n none c.pd)
theorem chgB_right (c : Ch) (n : Int) : chgB c n = rightB c n := by
 unfold chgB rightB headB isW
 generalize poB none c.po = A
 generalize ppB c.vw c.lw n none c.pp = B
 generalize pdB c.vw c.lw n none c.pd = D
 generalize markB c.lw = M
 rw [Bool.eq_iff_iff]
 simp only [Bool.and_eq_true, decide_eq_true_eq]
 constructor
 ·rintro ⟨⟨⟨⟨⟨⟨⟨a, b⟩, m⟩, d⟩, e⟩, f, g⟩, h, i⟩, j, k⟩
  exact ⟨⟨⟨⟨⟨⟨⟨⟨⟨⟨a, by omega, b⟩, m⟩, by omega⟩, f⟩, e⟩, h⟩, j⟩, g⟩, i⟩, k⟩
 ·rintro ⟨⟨⟨⟨⟨⟨⟨⟨⟨⟨a, _, b⟩, m⟩, d⟩, f⟩, e⟩, h⟩, j⟩, g⟩, i⟩, k⟩
  exact ⟨⟨⟨⟨⟨⟨⟨a, b⟩, m⟩, by omega⟩, e⟩, f, g⟩, h, i⟩, j, k⟩
set_option maxHeartbeats 16000000 in
set_option maxRecDepth 100000 in
theorem ischange_any (c : Ch) (P Q R : Pl) (N : Int) (w : World) (h : ChIn w P Q R c) (hl1 : ∀ p ∈ c.pp, ∀ y ∈ p.es, y.co.lt.length ≤ 1000000) (hl2 : ∀ p ∈ c.pd, ∀ y ∈ p.es, y.co.lt.length ≤ 1000000) :
  Calls Try.prog 40 #[.agg (Ch.cells c P Q R).toArray, .int .i64 N] w fun e w' => e = .returned (.bool (rightB c N)) ∧ Below w.heap.size w w' := by
 rw [← chgB_right]
 have hmf : ∀ (fn : Fn) (first cap : Array Value) (w : World), (Instr.makeFunc fn first cap).run Try.prog w = .ok (.func fn first cap) w := fun _ _ _ _ => rfl
 have HB : Hid (Blk ((w.alloc (.cells (Ch.cells c P Q R).toArray 25)).alloc (.cells #[.int .i64 N] 3)) w.heap.size 25 (Ch.cells c P Q R)) := Lib.hid ((Blk.fresh rfl rfl : Blk (w.alloc (.cells (Ch.cells c P Q R).toArray 25)) w.heap.size 25 (Ch.cells c P Q R)).alloc _)
 have HN : Hid (Blk ((w.alloc (.cells (Ch.cells c P Q R).toArray 25)).alloc (.cells #[.int .i64 N] 3)) (w.heap.size + 1) 3 [.int .i64 N]) := Lib.hid (Blk.fresh (by simp) rfl)
 have HX : Hid (Below w.heap.size w ((w.alloc (.cells (Ch.cells c P Q R).toArray 25)).alloc (.cells #[.int .i64 N] 3))) := Lib.hid ((below1_ w _).alloc (below1_ w _).size _)
 have k0 := HB.out.cellAt (i := 0) rfl
 have k1 := HB.out.cellAt (i := 1) rfl
 obtain ⟨bb, hbb⟩ : ∃ bb, chgB c N = bb := ⟨_, rfl⟩
 rw [hbb]
 obtain ⟨mk, hmk⟩ : ∃ b, markB c.lw = b := ⟨_, rfl⟩
 have HMk : Hid (∀ W : World, Calls Try.prog 78 #[.int .i64 c.lw] W fun e w' => e = .returned (.bool mk) ∧ w' = W) := Lib.hid (fun W => hmk ▸ cmark_any c.lw W)
 by_cases c1 : 1 ≤ c.vw
 ·have d1 : decide (c.vw < 1) = false := by simp; omega
  by_cases c2 : c.vw ≤ 1048576
  ·have d2 : decide (1048576 < c.vw) = false := by simp; omega
   cases mk with
   | false =>
    have HF : Hid (bb = false) := Lib.hid (by rw [← hbb]; unfold chgB; rw [hmk]; simp)
    clear h hl1 hl2 hbb hmk c1 c2
    go_enter Try.func40, Try.ntmps40
    go_wp2_with (first
     | go_skip
     | (go_at_call 78; (with_reducible refine (HMk.out _).mono ?_); rintro e w1 ⟨rfl, rfl⟩))
    go_ret
    exact ⟨ret_bo HF.out.symm, HX.out⟩
   | true =>
   have hlw : isW c.lw = true := by unfold markB at hmk; simp only [Bool.and_eq_true] at hmk; exact hmk.1
   by_cases hk0 : P.2.1 = 0
   ·have hz : decide ((0 : Int) < (P.2.1 : Int)) = false := by simp; omega
    have hz2 : decide (0 < P.2.1) = false := by simp; omega
    have HZ := Lib.hid hk0
    have HF : Hid (bb = false) := Lib.hid (by rw [← hbb]; unfold chgB; rw [show c.po.length = 0 by rw [h.1.1.len, hk0]]; simp)
    clear h hl1 hl2 hbb hmk c1 c2 hk0 hlw
    go_enter Try.func40, Try.ntmps40
    go_wp2_with (first
     | go_skip
     | (go_at_call 78; (with_reducible refine (HMk.out _).mono ?_); rintro e w1 ⟨rfl, rfl⟩))
    try dsimp only [Act.put]
    refine wp_region_held_drew (S := fun W => Below ((w.alloc (.cells (Ch.cells c P Q R).toArray 25)).alloc (.cells #[.int .i64 N] 3)).heap.size ((w.alloc (.cells (Ch.cells c P Q R).toArray 25)).alloc (.cells #[.int .i64 N] 3)) W) (by kernel_rfl) (Below.refl _ _).drew (fun hHeld => ?_)
    change wpAnyH _ _ _ _ _ _ #[false, false, false, false, false, false, false, false, false, false, false, false, false, false, false, false, false, false, false, false, false, false, false, false, false, false, false, false, false, false, false, false, false, false, false, false, false, false, false, false] _ _
    refine tkq (i := 0) (d := 25) (v := (.pointer (some ⟨w.heap.size, 2, none⟩))) rfl rfl (Or.inl ⟨by kernel_rfl, fun w hSw => ?_⟩) (by assumption) ?_
    ·(try dsimp only at hSw); go_simp <;> (try rfl)
    simp only [Act.put, sq1, sq2, sq3]
    refine tkq (i := 1) (d := 26) (v := (.slice P.1 P.2.1 P.2.2)) rfl rfl (yields_load_at (by kernel_rfl) 22 (.tmp 25) rfl (.pointer (some ⟨w.heap.size, 2, none⟩)) (by simp [Act.eval]) (.slice P.1 P.2.1 P.2.2) (fun W hW => load_one' (Try.cagg_pos W) ((HB.out.through hW).cellAt (i := 2) rfl))) (by assumption) ?_
    simp only [Act.put, sq1, sq2, sq3]
    refine tkq (i := 2) (d := 27) (v := (.int .i64 (P.2.1 : Int))) rfl rfl (Or.inl ⟨by kernel_rfl, fun w hSw => ?_⟩) (by assumption) ?_
    ·(try dsimp only at hSw); go_simp <;> (try rfl)
    simp only [Act.put, sq1, sq2, sq3]
    refine tkq (i := 3) (d := 28) (v := (.bool false)) rfl rfl (Or.inl ⟨by kernel_rfl, fun w hSw => ?_⟩) (by assumption) ?_
    ·(try dsimp only at hSw); go_simp <;> (try rfl)
    simp only [Act.put, sq1, sq2, sq3]
    refine tkq (i := 4) (d := 29) (v := (.bool false)) rfl rfl (Or.inl ⟨by kernel_rfl, fun w hSw => ?_⟩) (by assumption) ?_
    ·(try dsimp only at hSw); go_simp <;> (try rfl)
    simp only [Act.put, sq1, sq2, sq3]
    refine tkv (i := 5) (d := 30) rfl rfl (by assumption) ?_
    simp only [Act.put, sq1, sq2, sq3]
    refine tkv (i := 6) (d := 31) rfl rfl (by assumption) ?_
    simp only [Act.put, sq1, sq2, sq3]
    refine tkv (i := 7) (d := 32) rfl rfl (by assumption) ?_
    simp only [Act.put, sq1, sq2, sq3]
    refine tkv (i := 8) (d := 33) rfl rfl (by assumption) ?_
    simp only [Act.put, sq1, sq2, sq3]
    refine tkv (i := 9) (d := 34) rfl rfl (by assumption) ?_
    simp only [Act.put, sq1, sq2, sq3]
    refine tkv (i := 10) (d := 35) rfl rfl (by assumption) ?_
    simp only [Act.put, sq1, sq2, sq3]
    refine tkv (i := 11) (d := 36) rfl rfl (by assumption) ?_
    simp only [Act.put, sq1, sq2, sq3]
    refine tkv (i := 12) (d := 37) rfl rfl (by assumption) ?_
    simp only [Act.put, sq1, sq2, sq3]
    refine tkq (i := 13) (d := 38) (v := (.bool false)) rfl rfl (Or.inl ⟨by kernel_rfl, fun w hSw => ?_⟩) (by assumption) ?_
    ·(try dsimp only at hSw); go_simp <;> (try rfl)
    simp only [Act.put, sq1, sq2, sq3]
    refine tkq (i := 14) (d := 39) (v := (.bool false)) rfl rfl (Or.inl ⟨by kernel_rfl, fun w hSw => ?_⟩) (by assumption) ?_
    ·(try dsimp only at hSw); go_simp <;> (try rfl)
    simp only [Act.put, sq1, sq2, sq3]
    refine tkv (i := 15) (d := 40) rfl rfl (by assumption) ?_
    simp only [Act.put, sq1, sq2, sq3]
    refine tkv (i := 16) (d := 41) rfl rfl (by assumption) ?_
    simp only [Act.put, sq1, sq2, sq3]
    refine tkv (i := 17) (d := 42) rfl rfl (by assumption) ?_
    simp only [Act.put, sq1, sq2, sq3]
    refine tkv (i := 18) (d := 43) rfl rfl (by assumption) ?_
    simp only [Act.put, sq1, sq2, sq3]
    refine tkv (i := 19) (d := 44) rfl rfl (by assumption) ?_
    simp only [Act.put, sq1, sq2, sq3]
    refine tkv (i := 20) (d := 45) rfl rfl (by assumption) ?_
    simp only [Act.put, sq1, sq2, sq3]
    refine tkq (i := 21) (d := 46) (v := (.bool false)) rfl rfl (Or.inl ⟨by kernel_rfl, fun w hSw => ?_⟩) (by assumption) ?_
    ·(try dsimp only at hSw); go_simp <;> (try rfl)
    simp only [Act.put, sq1, sq2, sq3]
    refine tkq (i := 22) (d := 47) (v := (.bool false)) rfl rfl (Or.inl ⟨by kernel_rfl, fun w hSw => ?_⟩) (by assumption) ?_
    ·(try dsimp only at hSw); go_simp <;> (try rfl)
    simp only [Act.put, sq1, sq2, sq3]
    refine tkv (i := 23) (d := 48) rfl rfl (by assumption) ?_
    simp only [Act.put, sq1, sq2, sq3]
    refine tkv (i := 24) (d := 49) rfl rfl (by assumption) ?_
    simp only [Act.put, sq1, sq2, sq3]
    refine tkv (i := 25) (d := 50) rfl rfl (by assumption) ?_
    simp only [Act.put, sq1, sq2, sq3]
    refine tkv (i := 26) (d := 51) rfl rfl (by assumption) ?_
    simp only [Act.put, sq1, sq2, sq3]
    refine tkv (i := 27) (d := 52) rfl rfl (by assumption) ?_
    simp only [Act.put, sq1, sq2, sq3]
    refine tkv (i := 28) (d := 53) rfl rfl (by assumption) ?_
    simp only [Act.put, sq1, sq2, sq3]
    refine tkq (i := 29) (d := 54) (v := (.bool false)) rfl rfl (Or.inl ⟨by kernel_rfl, fun w hSw => ?_⟩) (by assumption) ?_
    ·(try dsimp only at hSw); go_simp <;> (try rfl)
    simp only [Act.put, sq1, sq2, sq3]
    refine tkq (i := 30) (d := 55) (v := (.bool false)) rfl rfl (Or.inl ⟨by kernel_rfl, fun w hSw => ?_⟩) (by assumption) ?_
    ·(try dsimp only at hSw); go_simp <;> (try rfl)
    simp only [Act.put, sq1, sq2, sq3]
    refine tkv (i := 31) (d := 56) rfl rfl (by assumption) ?_
    simp only [Act.put, sq1, sq2, sq3]
    refine tkv (i := 32) (d := 57) rfl rfl (by assumption) ?_
    simp only [Act.put, sq1, sq2, sq3]
    refine tkv (i := 33) (d := 58) rfl rfl (by assumption) ?_
    simp only [Act.put, sq1, sq2, sq3]
    refine tkv (i := 34) (d := 59) rfl rfl (by assumption) ?_
    simp only [Act.put, sq1, sq2, sq3]
    refine tkv (i := 35) (d := 60) rfl rfl (by assumption) ?_
    simp only [Act.put, sq1, sq2, sq3]
    refine tkv (i := 36) (d := 61) rfl rfl (by assumption) ?_
    simp only [Act.put, sq1, sq2, sq3]
    refine tkv (i := 37) (d := 62) rfl rfl (by assumption) ?_
    simp only [Act.put, sq1, sq2, sq3]
    refine tkq (i := 38) (d := 63) (v := (.bool false)) rfl rfl (Or.inl ⟨by kernel_rfl, fun w hSw => ?_⟩) (by assumption) ?_
    ·(try dsimp only at hSw); go_simp <;> (try rfl)
    simp only [Act.put, sq1, sq2, sq3]
    refine tkq (i := 39) (d := 4) (v := (.bool false)) rfl rfl (Or.inl ⟨by kernel_rfl, fun w hSw => ?_⟩) (by assumption) ?_
    ·(try dsimp only at hSw); go_simp <;> (try rfl)
    simp only [Act.put, sq1, sq2, sq3]
    refine wpAnyH_done (by kernel_rfl) ?_ _
    have HXe := Lib.hid (below_step HX.out hHeld)
    clear hHeld
    go_wp2
    go_ret
    exact ⟨ret_bo HF.out.symm, HXe.out⟩
   ·have hkp : 0 < P.2.1 := by omega
    have hz : decide ((0 : Int) < (P.2.1 : Int)) = true := by simp; omega
    have hz2 : decide (0 < P.2.1) = true := by simp; omega
    have HZ := Lib.hid hkp
    obtain ⟨g, o, p, hP1, hgp, _, hdp, _, hrx⟩ := h.1.1.at hkp
    have HRx := Lib.hid hrx
    have hix : ∀ W, (Instr.indexAt 22 (.slice P.1 P.2.1 P.2.2) (.int .i64 0)).run Try.prog W = .ok (.pointer (some ⟨g, o, none⟩)) W := fun W => by
     have h9 := Try.ix_po W g o P.2.1 P.2.2 0 hkp
     rw [hP1]
     simpa using h9
    have hpo : (match c.po with | [] => false | p :: _ => decide (p.sq = c.lw)) = decide (p.sq = c.lw) := by
     rw [List.drop_zero] at hdp
     rw [hdp]
    by_cases hpe : p.sq = c.lw
    ·have he : (p.sq == c.lw) = true := by simpa using hpe
     obtain ⟨r1, hr1⟩ : ∃ b, (decide (P.2.1 ≤ 4) && poB none c.po) = b := ⟨_, rfl⟩
     have HR1 : Hid (∀ (W : World) (g : Nat), Below ((w.alloc (.cells (Ch.cells c P Q R).toArray 25)).alloc (.cells #[.int .i64 N] 3)).heap.size ((w.alloc (.cells (Ch.cells c P Q R).toArray 25)).alloc (.cells #[.int .i64 N] 3)) W → Blk W g 116 [(.func (.func 82) #[] #[])] → Calls Try.prog 85 #[.slice P.1 P.2.1 P.2.2, .int .i64 4, (.func (.func 79) #[] #[]), .slice (some ⟨g, 0, none⟩) 1 1] W fun e w' => e = .returned (.bool r1) ∧ Below W.heap.size W w') := Lib.hid (fun W g hW hg => hr1 ▸ isrowpo_any c.po P.1 P.2.1 P.2.2 4 g W (h.1.1.through (below_step HX.out hW)) hg (by omega) (by have := h.1.2.1; have := h.1.2.2; simp only [maxLen] at this; omega))
     obtain ⟨r2, hr2⟩ : ∃ b, (decide (Q.2.1 ≤ 8) && ppB c.vw c.lw N none c.pp) = b := ⟨_, rfl⟩
     have HR2 : Hid (∀ (W : World) (g : Nat), Below ((w.alloc (.cells (Ch.cells c P Q R).toArray 25)).alloc (.cells #[.int .i64 N] 3)).heap.size ((w.alloc (.cells (Ch.cells c P Q R).toArray 25)).alloc (.cells #[.int .i64 N] 3)) W → Blk W g 117 [(.func (.func 83) #[] #[])] → Calls Try.prog 86 #[.slice Q.1 Q.2.1 Q.2.2, .int .i64 8, (.func (.func 80) #[] #[.pointer (some ⟨w.heap.size, 0, none⟩), .pointer (some ⟨w.heap.size + 1, 0, none⟩)]), .slice (some ⟨g, 0, none⟩) 1 1] W fun e w' => e = .returned (.bool r2) ∧ Below W.heap.size W w') := Lib.hid (fun W g hW hg => hr2 ▸ isrowpf1_any c.pp Q.1 Q.2.1 Q.2.2 8 g W (h.2.1.1.through (below_step HX.out hW)) c P Q R N w.heap.size (w.heap.size + 1) (HB.out.through hW) (HN.out.through hW) hlw hl1 hg (by omega) (by have := h.2.1.2.1; have := h.2.1.2.2; simp only [maxLen] at this; omega))
     obtain ⟨r3, hr3⟩ : ∃ b, (decide (R.2.1 ≤ 64) && pdB c.vw c.lw N none c.pd) = b := ⟨_, rfl⟩
     have HR3 : Hid (∀ (W : World) (g : Nat), Below ((w.alloc (.cells (Ch.cells c P Q R).toArray 25)).alloc (.cells #[.int .i64 N] 3)).heap.size ((w.alloc (.cells (Ch.cells c P Q R).toArray 25)).alloc (.cells #[.int .i64 N] 3)) W → Blk W g 117 [(.func (.func 83) #[] #[]), (.func (.func 84) #[] #[])] → Calls Try.prog 86 #[.slice R.1 R.2.1 R.2.2, .int .i64 64, (.func (.func 80) #[] #[.pointer (some ⟨w.heap.size, 0, none⟩), .pointer (some ⟨w.heap.size + 1, 0, none⟩)]), .slice (some ⟨g, 0, none⟩) 2 2] W fun e w' => e = .returned (.bool r3) ∧ Below W.heap.size W w') := Lib.hid (fun W g hW hg => hr3 ▸ isrowpf2_any c.pd R.1 R.2.1 R.2.2 64 g W (h.2.2.1.through (below_step HX.out hW)) c P Q R N w.heap.size (w.heap.size + 1) (HB.out.through hW) (HN.out.through hW) hlw hl2 hg (by omega) (by have := h.2.2.2.1; have := h.2.2.2.2; simp only [maxLen] at this; omega))
     have HQ : Hid (bb = (r1 && r2 && r3)) := Lib.hid (by
      rw [← hbb, ← hr1, ← hr2, ← hr3]
      unfold chgB
      rw [hpo, hmk, h.1.1.len, h.2.1.1.len, h.2.2.1.len, decide_eq_true c1, decide_eq_true c2, decide_eq_true hkp, decide_eq_true hpe]
      simp only [Bool.true_and, Bool.and_assoc])
     clear h hl1 hl2 hbb hmk c1 c2 hk0 hkp hlw hrx hP1 hgp hdp hpo hpe hr1 hr2 hr3
     cases r1 with
     | false =>
      have HF : Hid (bb = false) := Lib.hid (by rw [HQ.out]; simp)
      go_enter Try.func40, Try.ntmps40
      go_wp2_with (first
       | go_skip
       | (go_at_call 78; (with_reducible refine (HMk.out _).mono ?_); rintro e w1 ⟨rfl, rfl⟩))
      try dsimp only [Act.put]
      refine wp_region_held_drew (S := fun W => Below ((w.alloc (.cells (Ch.cells c P Q R).toArray 25)).alloc (.cells #[.int .i64 N] 3)).heap.size ((w.alloc (.cells (Ch.cells c P Q R).toArray 25)).alloc (.cells #[.int .i64 N] 3)) W) (by kernel_rfl) (Below.refl _ _).drew (fun hHeld => ?_)
      change wpAnyH _ _ _ _ _ _ #[false, false, false, false, false, false, false, false, false, false, false, false, false, false, false, false, false, false, false, false, false, false, false, false, false, false, false, false, false, false, false, false, false, false, false, false, false, false, false, false] _ _
      refine tkq (i := 0) (d := 25) (v := (.pointer (some ⟨w.heap.size, 2, none⟩))) rfl rfl (Or.inl ⟨by kernel_rfl, fun w hSw => ?_⟩) (by assumption) ?_
      ·(try dsimp only at hSw); go_simp <;> (try rfl)
      simp only [Act.put, sq1, sq2, sq3]
      refine tkq (i := 1) (d := 26) (v := (.slice P.1 P.2.1 P.2.2)) rfl rfl (yields_load_at (by kernel_rfl) 22 (.tmp 25) rfl (.pointer (some ⟨w.heap.size, 2, none⟩)) (by simp [Act.eval]) (.slice P.1 P.2.1 P.2.2) (fun W hW => load_one' (Try.cagg_pos W) ((HB.out.through hW).cellAt (i := 2) rfl))) (by assumption) ?_
      simp only [Act.put, sq1, sq2, sq3]
      refine tkq (i := 2) (d := 27) (v := (.int .i64 (P.2.1 : Int))) rfl rfl (Or.inl ⟨by kernel_rfl, fun w hSw => ?_⟩) (by assumption) ?_
      ·(try dsimp only at hSw); go_simp <;> (try rfl)
      simp only [Act.put, sq1, sq2, sq3]
      refine tkq (i := 3) (d := 28) (v := (.bool true)) rfl rfl (Or.inl ⟨by kernel_rfl, fun w hSw => ?_⟩) (by assumption) ?_
      ·(try dsimp only at hSw); go_simp <;> (try rfl)
      simp only [Act.put, sq1, sq2, sq3]
      refine tkq (i := 4) (d := 29) (v := (.bool true)) rfl rfl (Or.inl ⟨by kernel_rfl, fun w hSw => ?_⟩) (by assumption) ?_
      ·(try dsimp only at hSw); go_simp <;> (try rfl)
      simp only [Act.put, sq1, sq2, sq3]
      refine tkq (i := 5) (d := 30) (v := (.pointer (some ⟨w.heap.size, 2, none⟩))) rfl rfl (Or.inl ⟨by kernel_rfl, fun w hSw => ?_⟩) (by assumption) ?_
      ·(try dsimp only at hSw); go_simp <;> (try rfl)
      simp only [Act.put, sq1, sq2, sq3]
      refine tkq (i := 6) (d := 31) (v := (.slice P.1 P.2.1 P.2.2)) rfl rfl (yields_load_at (by kernel_rfl) 22 (.tmp 30) rfl (.pointer (some ⟨w.heap.size, 2, none⟩)) (by simp [Act.eval]) (.slice P.1 P.2.1 P.2.2) (fun W hW => load_one' (Try.cagg_pos W) ((HB.out.through hW).cellAt (i := 2) rfl))) (by assumption) ?_
      simp only [Act.put, sq1, sq2, sq3]
      refine tkq (i := 7) (d := 32) (v := (.pointer (some ⟨g, o, none⟩))) rfl rfl (Or.inl ⟨by kernel_rfl, fun w hSw => ?_⟩) (by assumption) ?_
      ·(try dsimp only at hSw); go_simp <;> (try rfl)
      simp only [Act.put, sq1, sq2, sq3]
      refine tkq (i := 8) (d := 33) (v := (.pointer (some ⟨g, o, none⟩))) rfl rfl (Or.inl ⟨by kernel_rfl, fun w hSw => ?_⟩) (by assumption) ?_
      ·(try dsimp only at hSw); go_simp <;> (try rfl)
      simp only [Act.put, sq1, sq2, sq3]
      refine tkq (i := 9) (d := 34) (v := (.int .i64 p.sq)) rfl rfl (yields_load_at (by kernel_rfl) 2 (.tmp 33) rfl (.pointer (some ⟨g, o, none⟩)) (by simp [Act.eval]) (.int .i64 p.sq) (fun W hW => load_one' (Try.agg_i64 W) (by have h9 := rangeAt.through HRx.out (below_step HX.out hW) 0 _ rfl; simpa using h9))) (by assumption) ?_
      simp only [Act.put, sq1, sq2, sq3]
      refine tkq (i := 10) (d := 35) (v := (.pointer (some ⟨w.heap.size, 1, none⟩))) rfl rfl (Or.inl ⟨by kernel_rfl, fun w hSw => ?_⟩) (by assumption) ?_
      ·(try dsimp only at hSw); go_simp <;> (try rfl)
      simp only [Act.put, sq1, sq2, sq3]
      refine tkq (i := 11) (d := 36) (v := (.int .i64 c.lw)) rfl rfl (yields_load_at (by kernel_rfl) 2 (.tmp 35) rfl (.pointer (some ⟨w.heap.size, 1, none⟩)) (by simp [Act.eval]) (.int .i64 c.lw) (fun W hW => load_one' (Try.agg_i64 W) ((HB.out.through hW).cellAt (i := 1) rfl))) (by assumption) ?_
      simp only [Act.put, sq1, sq2, sq3]
      refine tkq (i := 12) (d := 37) (v := (.bool true)) rfl rfl (Or.inl ⟨by kernel_rfl, fun w hSw => ?_⟩) (by assumption) ?_
      ·(try dsimp only at hSw); go_simp <;> (try rfl)
      simp only [Act.put, sq1, sq2, sq3]
      refine tkq (i := 13) (d := 38) (v := (.bool true)) rfl rfl (Or.inl ⟨by kernel_rfl, fun w hSw => ?_⟩) (by assumption) ?_
      ·(try dsimp only at hSw); go_simp <;> (try rfl)
      simp only [Act.put, sq1, sq2, sq3]
      refine tkq (i := 14) (d := 39) (v := (.bool true)) rfl rfl (Or.inl ⟨by kernel_rfl, fun w hSw => ?_⟩) (by assumption) ?_
      ·(try dsimp only at hSw); go_simp <;> (try rfl)
      simp only [Act.put, sq1, sq2, sq3]
      refine tkq (i := 15) (d := 40) (v := (.pointer (some ⟨w.heap.size, 2, none⟩))) rfl rfl (Or.inl ⟨by kernel_rfl, fun w hSw => ?_⟩) (by assumption) ?_
      ·(try dsimp only at hSw); go_simp <;> (try rfl)
      simp only [Act.put, sq1, sq2, sq3]
      refine tkq (i := 16) (d := 41) (v := (.slice P.1 P.2.1 P.2.2)) rfl rfl (yields_load_at (by kernel_rfl) 22 (.tmp 40) rfl (.pointer (some ⟨w.heap.size, 2, none⟩)) (by simp [Act.eval]) (.slice P.1 P.2.1 P.2.2) (fun W hW => load_one' (Try.cagg_pos W) ((HB.out.through hW).cellAt (i := 2) rfl))) (by assumption) ?_
      simp only [Act.put, sq1, sq2, sq3]
      refine tkq (i := 17) (d := 42) (v := (.func (.func 79) #[] #[])) rfl rfl (Or.inl ⟨by kernel_rfl, fun w hSw => ?_⟩) (by assumption) ?_
      ·(try dsimp only at hSw); go_simp <;> (try rfl)
      simp only [Act.put, sq1, sq2, sq3]
      refine tkq (i := 18) (d := 43) (v := (.func (.func 82) #[] #[])) rfl rfl (Or.inl ⟨by kernel_rfl, fun w hSw => ?_⟩) (by assumption) ?_
      ·(try dsimp only at hSw); go_simp <;> (try rfl)
      simp only [Act.put, sq1, sq2, sq3]
      refine wpAnyH_ready (rs := [19]) (by kernel_rfl) (by simp) ?_
      refine AllReadyH.cons (o := ⟨some 44, .buildSlice 136 1 #[(0, .tmp 43)], _, _, _, _⟩) rfl (fun K hK => ?_) AllReadyH.nil
      refine step_build1_g (by kernel_rfl) 136 116 (.tmp 43) rfl (.func (.func 82) #[] #[]) (by simp [Act.eval]) (Try.run_bpo _) ?_; intro gx wx hbx hxx; have HBx := Lib.hid hbx; have HKx := Lib.hid (below_step hHeld hxx); clear hbx hxx
      refine hK.out _ _ HKx.out (fun hHeld1 => ?_)
      clear hHeld hK K
      have hHeld := hHeld1
      clear hHeld1
      change wpAnyH _ _ _ _ _ _ _ (Act.put _ (some (44 : Nat)) (.slice (some ⟨gx, 0, none⟩) 1 1)) _
      simp only [Act.put, sq1, sq2, sq3]
      refine wpAnyH_ready (rs := [20]) (by kernel_rfl) (by simp) ?_
      refine AllReadyH.cons rfl (fun K hK => ?_) AllReadyH.nil
      go_simp
      refine (HR1.out _ _ hHeld HBx.out).mono ?_
      rintro e w5 ⟨rfl, hb5⟩; have HK5 := Lib.hid (below_step hHeld hb5); clear hb5
      go_wp2_with fail
      refine hK.out _ _ HK5.out (fun hHeld1 => ?_)
      clear hHeld hK K
      have hHeld := hHeld1
      clear hHeld1
      refine tkq (i := 21) (d := 46) (v := (.bool false)) rfl rfl (Or.inl ⟨by kernel_rfl, fun w hSw => ?_⟩) (by assumption) ?_
      ·(try dsimp only at hSw); go_simp <;> (try rfl)
      simp only [Act.put, sq1, sq2, sq3]
      refine tkq (i := 22) (d := 47) (v := (.bool false)) rfl rfl (Or.inl ⟨by kernel_rfl, fun w hSw => ?_⟩) (by assumption) ?_
      ·(try dsimp only at hSw); go_simp <;> (try rfl)
      simp only [Act.put, sq1, sq2, sq3]
      refine tkv (i := 23) (d := 48) rfl rfl (by assumption) ?_
      simp only [Act.put, sq1, sq2, sq3]
      refine tkv (i := 24) (d := 49) rfl rfl (by assumption) ?_
      simp only [Act.put, sq1, sq2, sq3]
      refine tkv (i := 25) (d := 50) rfl rfl (by assumption) ?_
      simp only [Act.put, sq1, sq2, sq3]
      refine tkv (i := 26) (d := 51) rfl rfl (by assumption) ?_
      simp only [Act.put, sq1, sq2, sq3]
      refine tkv (i := 27) (d := 52) rfl rfl (by assumption) ?_
      simp only [Act.put, sq1, sq2, sq3]
      refine tkv (i := 28) (d := 53) rfl rfl (by assumption) ?_
      simp only [Act.put, sq1, sq2, sq3]
      refine tkq (i := 29) (d := 54) (v := (.bool false)) rfl rfl (Or.inl ⟨by kernel_rfl, fun w hSw => ?_⟩) (by assumption) ?_
      ·(try dsimp only at hSw); go_simp <;> (try rfl)
      simp only [Act.put, sq1, sq2, sq3]
      refine tkq (i := 30) (d := 55) (v := (.bool false)) rfl rfl (Or.inl ⟨by kernel_rfl, fun w hSw => ?_⟩) (by assumption) ?_
      ·(try dsimp only at hSw); go_simp <;> (try rfl)
      simp only [Act.put, sq1, sq2, sq3]
      refine tkv (i := 31) (d := 56) rfl rfl (by assumption) ?_
      simp only [Act.put, sq1, sq2, sq3]
      refine tkv (i := 32) (d := 57) rfl rfl (by assumption) ?_
      simp only [Act.put, sq1, sq2, sq3]
      refine tkv (i := 33) (d := 58) rfl rfl (by assumption) ?_
      simp only [Act.put, sq1, sq2, sq3]
      refine tkv (i := 34) (d := 59) rfl rfl (by assumption) ?_
      simp only [Act.put, sq1, sq2, sq3]
      refine tkv (i := 35) (d := 60) rfl rfl (by assumption) ?_
      simp only [Act.put, sq1, sq2, sq3]
      refine tkv (i := 36) (d := 61) rfl rfl (by assumption) ?_
      simp only [Act.put, sq1, sq2, sq3]
      refine tkv (i := 37) (d := 62) rfl rfl (by assumption) ?_
      simp only [Act.put, sq1, sq2, sq3]
      refine tkq (i := 38) (d := 63) (v := (.bool false)) rfl rfl (Or.inl ⟨by kernel_rfl, fun w hSw => ?_⟩) (by assumption) ?_
      ·(try dsimp only at hSw); go_simp <;> (try rfl)
      simp only [Act.put, sq1, sq2, sq3]
      refine tkq (i := 39) (d := 4) (v := (.bool false)) rfl rfl (Or.inl ⟨by kernel_rfl, fun w hSw => ?_⟩) (by assumption) ?_
      ·(try dsimp only at hSw); go_simp <;> (try rfl)
      simp only [Act.put, sq1, sq2, sq3]
      refine wpAnyH_done (by kernel_rfl) ?_ _
      have HXe := Lib.hid (below_step HX.out hHeld)
      clear hHeld
      go_wp2
      go_ret
      exact ⟨ret_bo HF.out.symm, HXe.out⟩
     | true =>
     cases r2 with
     | false =>
      have HF : Hid (bb = false) := Lib.hid (by rw [HQ.out]; simp)
      go_enter Try.func40, Try.ntmps40
      go_wp2_with (first
       | go_skip
       | (go_at_call 78; (with_reducible refine (HMk.out _).mono ?_); rintro e w1 ⟨rfl, rfl⟩))
      try dsimp only [Act.put]
      refine wp_region_held_drew (S := fun W => Below ((w.alloc (.cells (Ch.cells c P Q R).toArray 25)).alloc (.cells #[.int .i64 N] 3)).heap.size ((w.alloc (.cells (Ch.cells c P Q R).toArray 25)).alloc (.cells #[.int .i64 N] 3)) W) (by kernel_rfl) (Below.refl _ _).drew (fun hHeld => ?_)
      change wpAnyH _ _ _ _ _ _ #[false, false, false, false, false, false, false, false, false, false, false, false, false, false, false, false, false, false, false, false, false, false, false, false, false, false, false, false, false, false, false, false, false, false, false, false, false, false, false, false] _ _
      refine tkq (i := 0) (d := 25) (v := (.pointer (some ⟨w.heap.size, 2, none⟩))) rfl rfl (Or.inl ⟨by kernel_rfl, fun w hSw => ?_⟩) (by assumption) ?_
      ·(try dsimp only at hSw); go_simp <;> (try rfl)
      simp only [Act.put, sq1, sq2, sq3]
      refine tkq (i := 1) (d := 26) (v := (.slice P.1 P.2.1 P.2.2)) rfl rfl (yields_load_at (by kernel_rfl) 22 (.tmp 25) rfl (.pointer (some ⟨w.heap.size, 2, none⟩)) (by simp [Act.eval]) (.slice P.1 P.2.1 P.2.2) (fun W hW => load_one' (Try.cagg_pos W) ((HB.out.through hW).cellAt (i := 2) rfl))) (by assumption) ?_
      simp only [Act.put, sq1, sq2, sq3]
      refine tkq (i := 2) (d := 27) (v := (.int .i64 (P.2.1 : Int))) rfl rfl (Or.inl ⟨by kernel_rfl, fun w hSw => ?_⟩) (by assumption) ?_
      ·(try dsimp only at hSw); go_simp <;> (try rfl)
      simp only [Act.put, sq1, sq2, sq3]
      refine tkq (i := 3) (d := 28) (v := (.bool true)) rfl rfl (Or.inl ⟨by kernel_rfl, fun w hSw => ?_⟩) (by assumption) ?_
      ·(try dsimp only at hSw); go_simp <;> (try rfl)
      simp only [Act.put, sq1, sq2, sq3]
      refine tkq (i := 4) (d := 29) (v := (.bool true)) rfl rfl (Or.inl ⟨by kernel_rfl, fun w hSw => ?_⟩) (by assumption) ?_
      ·(try dsimp only at hSw); go_simp <;> (try rfl)
      simp only [Act.put, sq1, sq2, sq3]
      refine tkq (i := 5) (d := 30) (v := (.pointer (some ⟨w.heap.size, 2, none⟩))) rfl rfl (Or.inl ⟨by kernel_rfl, fun w hSw => ?_⟩) (by assumption) ?_
      ·(try dsimp only at hSw); go_simp <;> (try rfl)
      simp only [Act.put, sq1, sq2, sq3]
      refine tkq (i := 6) (d := 31) (v := (.slice P.1 P.2.1 P.2.2)) rfl rfl (yields_load_at (by kernel_rfl) 22 (.tmp 30) rfl (.pointer (some ⟨w.heap.size, 2, none⟩)) (by simp [Act.eval]) (.slice P.1 P.2.1 P.2.2) (fun W hW => load_one' (Try.cagg_pos W) ((HB.out.through hW).cellAt (i := 2) rfl))) (by assumption) ?_
      simp only [Act.put, sq1, sq2, sq3]
      refine tkq (i := 7) (d := 32) (v := (.pointer (some ⟨g, o, none⟩))) rfl rfl (Or.inl ⟨by kernel_rfl, fun w hSw => ?_⟩) (by assumption) ?_
      ·(try dsimp only at hSw); go_simp <;> (try rfl)
      simp only [Act.put, sq1, sq2, sq3]
      refine tkq (i := 8) (d := 33) (v := (.pointer (some ⟨g, o, none⟩))) rfl rfl (Or.inl ⟨by kernel_rfl, fun w hSw => ?_⟩) (by assumption) ?_
      ·(try dsimp only at hSw); go_simp <;> (try rfl)
      simp only [Act.put, sq1, sq2, sq3]
      refine tkq (i := 9) (d := 34) (v := (.int .i64 p.sq)) rfl rfl (yields_load_at (by kernel_rfl) 2 (.tmp 33) rfl (.pointer (some ⟨g, o, none⟩)) (by simp [Act.eval]) (.int .i64 p.sq) (fun W hW => load_one' (Try.agg_i64 W) (by have h9 := rangeAt.through HRx.out (below_step HX.out hW) 0 _ rfl; simpa using h9))) (by assumption) ?_
      simp only [Act.put, sq1, sq2, sq3]
      refine tkq (i := 10) (d := 35) (v := (.pointer (some ⟨w.heap.size, 1, none⟩))) rfl rfl (Or.inl ⟨by kernel_rfl, fun w hSw => ?_⟩) (by assumption) ?_
      ·(try dsimp only at hSw); go_simp <;> (try rfl)
      simp only [Act.put, sq1, sq2, sq3]
      refine tkq (i := 11) (d := 36) (v := (.int .i64 c.lw)) rfl rfl (yields_load_at (by kernel_rfl) 2 (.tmp 35) rfl (.pointer (some ⟨w.heap.size, 1, none⟩)) (by simp [Act.eval]) (.int .i64 c.lw) (fun W hW => load_one' (Try.agg_i64 W) ((HB.out.through hW).cellAt (i := 1) rfl))) (by assumption) ?_
      simp only [Act.put, sq1, sq2, sq3]
      refine tkq (i := 12) (d := 37) (v := (.bool true)) rfl rfl (Or.inl ⟨by kernel_rfl, fun w hSw => ?_⟩) (by assumption) ?_
      ·(try dsimp only at hSw); go_simp <;> (try rfl)
      simp only [Act.put, sq1, sq2, sq3]
      refine tkq (i := 13) (d := 38) (v := (.bool true)) rfl rfl (Or.inl ⟨by kernel_rfl, fun w hSw => ?_⟩) (by assumption) ?_
      ·(try dsimp only at hSw); go_simp <;> (try rfl)
      simp only [Act.put, sq1, sq2, sq3]
      refine tkq (i := 14) (d := 39) (v := (.bool true)) rfl rfl (Or.inl ⟨by kernel_rfl, fun w hSw => ?_⟩) (by assumption) ?_
      ·(try dsimp only at hSw); go_simp <;> (try rfl)
      simp only [Act.put, sq1, sq2, sq3]
      refine tkq (i := 15) (d := 40) (v := (.pointer (some ⟨w.heap.size, 2, none⟩))) rfl rfl (Or.inl ⟨by kernel_rfl, fun w hSw => ?_⟩) (by assumption) ?_
      ·(try dsimp only at hSw); go_simp <;> (try rfl)
      simp only [Act.put, sq1, sq2, sq3]
      refine tkq (i := 16) (d := 41) (v := (.slice P.1 P.2.1 P.2.2)) rfl rfl (yields_load_at (by kernel_rfl) 22 (.tmp 40) rfl (.pointer (some ⟨w.heap.size, 2, none⟩)) (by simp [Act.eval]) (.slice P.1 P.2.1 P.2.2) (fun W hW => load_one' (Try.cagg_pos W) ((HB.out.through hW).cellAt (i := 2) rfl))) (by assumption) ?_
      simp only [Act.put, sq1, sq2, sq3]
      refine tkq (i := 17) (d := 42) (v := (.func (.func 79) #[] #[])) rfl rfl (Or.inl ⟨by kernel_rfl, fun w hSw => ?_⟩) (by assumption) ?_
      ·(try dsimp only at hSw); go_simp <;> (try rfl)
      simp only [Act.put, sq1, sq2, sq3]
      refine tkq (i := 18) (d := 43) (v := (.func (.func 82) #[] #[])) rfl rfl (Or.inl ⟨by kernel_rfl, fun w hSw => ?_⟩) (by assumption) ?_
      ·(try dsimp only at hSw); go_simp <;> (try rfl)
      simp only [Act.put, sq1, sq2, sq3]
      refine wpAnyH_ready (rs := [19]) (by kernel_rfl) (by simp) ?_
      refine AllReadyH.cons (o := ⟨some 44, .buildSlice 136 1 #[(0, .tmp 43)], _, _, _, _⟩) rfl (fun K hK => ?_) AllReadyH.nil
      refine step_build1_g (by kernel_rfl) 136 116 (.tmp 43) rfl (.func (.func 82) #[] #[]) (by simp [Act.eval]) (Try.run_bpo _) ?_; intro gx wx hbx hxx; have HBx := Lib.hid hbx; have HKx := Lib.hid (below_step hHeld hxx); clear hbx hxx
      refine hK.out _ _ HKx.out (fun hHeld1 => ?_)
      clear hHeld hK K
      have hHeld := hHeld1
      clear hHeld1
      change wpAnyH _ _ _ _ _ _ _ (Act.put _ (some (44 : Nat)) (.slice (some ⟨gx, 0, none⟩) 1 1)) _
      simp only [Act.put, sq1, sq2, sq3]
      refine wpAnyH_ready (rs := [20]) (by kernel_rfl) (by simp) ?_
      refine AllReadyH.cons rfl (fun K hK => ?_) AllReadyH.nil
      go_simp
      refine (HR1.out _ _ hHeld HBx.out).mono ?_
      rintro e w5 ⟨rfl, hb5⟩; have HK5 := Lib.hid (below_step hHeld hb5); clear hb5
      go_wp2_with fail
      refine hK.out _ _ HK5.out (fun hHeld1 => ?_)
      clear hHeld hK K
      have hHeld := hHeld1
      clear hHeld1
      refine tkq (i := 21) (d := 46) (v := (.bool true)) rfl rfl (Or.inl ⟨by kernel_rfl, fun w hSw => ?_⟩) (by assumption) ?_
      ·(try dsimp only at hSw); go_simp <;> (try rfl)
      simp only [Act.put, sq1, sq2, sq3]
      refine tkq (i := 22) (d := 47) (v := (.bool true)) rfl rfl (Or.inl ⟨by kernel_rfl, fun w hSw => ?_⟩) (by assumption) ?_
      ·(try dsimp only at hSw); go_simp <;> (try rfl)
      simp only [Act.put, sq1, sq2, sq3]
      refine tkq (i := 23) (d := 48) (v := (.pointer (some ⟨w.heap.size, 3, none⟩))) rfl rfl (Or.inl ⟨by kernel_rfl, fun w hSw => ?_⟩) (by assumption) ?_
      ·(try dsimp only at hSw); go_simp <;> (try rfl)
      simp only [Act.put, sq1, sq2, sq3]
      refine tkq (i := 24) (d := 49) (v := (.slice Q.1 Q.2.1 Q.2.2)) rfl rfl (yields_load_at (by kernel_rfl) 23 (.tmp 48) rfl (.pointer (some ⟨w.heap.size, 3, none⟩)) (by simp [Act.eval]) (.slice Q.1 Q.2.1 Q.2.2) (fun W hW => load_one' (Try.cagg_pfs W) ((HB.out.through hW).cellAt (i := 3) rfl))) (by assumption) ?_
      simp only [Act.put, sq1, sq2, sq3]
      refine tkq (i := 25) (d := 50) (v := (.func (.func 80) #[] #[.pointer (some ⟨w.heap.size, 0, none⟩), .pointer (some ⟨w.heap.size + 1, 0, none⟩)])) rfl rfl (Or.inl ⟨by kernel_rfl, fun w hSw => ?_⟩) (by assumption) ?_
      ·(try dsimp only at hSw); go_simp <;> (try rfl)
      simp only [Act.put, sq1, sq2, sq3]
      refine tkq (i := 26) (d := 51) (v := (.func (.func 83) #[] #[])) rfl rfl (Or.inl ⟨by kernel_rfl, fun w hSw => ?_⟩) (by assumption) ?_
      ·(try dsimp only at hSw); go_simp <;> (try rfl)
      simp only [Act.put, sq1, sq2, sq3]
      refine wpAnyH_ready (rs := [27]) (by kernel_rfl) (by simp) ?_
      refine AllReadyH.cons (o := ⟨some 52, .buildSlice 138 1 #[(0, .tmp 51)], _, _, _, _⟩) rfl (fun K hK => ?_) AllReadyH.nil
      refine step_build1_g (by kernel_rfl) 138 117 (.tmp 51) rfl (.func (.func 83) #[] #[]) (by simp [Act.eval]) (Try.run_bpf1 _) ?_; intro gy wy hby hxy; have HBy := Lib.hid hby; have HKy := Lib.hid (below_step hHeld hxy); clear hby hxy
      refine hK.out _ _ HKy.out (fun hHeld1 => ?_)
      clear hHeld hK K
      have hHeld := hHeld1
      clear hHeld1
      change wpAnyH _ _ _ _ _ _ _ (Act.put _ (some (52 : Nat)) (.slice (some ⟨gy, 0, none⟩) 1 1)) _
      simp only [Act.put, sq1, sq2, sq3]
      refine wpAnyH_ready (rs := [28]) (by kernel_rfl) (by simp) ?_
      refine AllReadyH.cons rfl (fun K hK => ?_) AllReadyH.nil
      go_simp
      refine (HR2.out _ _ hHeld HBy.out).mono ?_
      rintro e w6 ⟨rfl, hb6⟩; have HK6 := Lib.hid (below_step hHeld hb6); clear hb6
      go_wp2_with fail
      refine hK.out _ _ HK6.out (fun hHeld1 => ?_)
      clear hHeld hK K
      have hHeld := hHeld1
      clear hHeld1
      refine tkq (i := 29) (d := 54) (v := (.bool false)) rfl rfl (Or.inl ⟨by kernel_rfl, fun w hSw => ?_⟩) (by assumption) ?_
      ·(try dsimp only at hSw); go_simp <;> (try rfl)
      simp only [Act.put, sq1, sq2, sq3]
      refine tkq (i := 30) (d := 55) (v := (.bool false)) rfl rfl (Or.inl ⟨by kernel_rfl, fun w hSw => ?_⟩) (by assumption) ?_
      ·(try dsimp only at hSw); go_simp <;> (try rfl)
      simp only [Act.put, sq1, sq2, sq3]
      refine tkv (i := 31) (d := 56) rfl rfl (by assumption) ?_
      simp only [Act.put, sq1, sq2, sq3]
      refine tkv (i := 32) (d := 57) rfl rfl (by assumption) ?_
      simp only [Act.put, sq1, sq2, sq3]
      refine tkv (i := 33) (d := 58) rfl rfl (by assumption) ?_
      simp only [Act.put, sq1, sq2, sq3]
      refine tkv (i := 34) (d := 59) rfl rfl (by assumption) ?_
      simp only [Act.put, sq1, sq2, sq3]
      refine tkv (i := 35) (d := 60) rfl rfl (by assumption) ?_
      simp only [Act.put, sq1, sq2, sq3]
      refine tkv (i := 36) (d := 61) rfl rfl (by assumption) ?_
      simp only [Act.put, sq1, sq2, sq3]
      refine tkv (i := 37) (d := 62) rfl rfl (by assumption) ?_
      simp only [Act.put, sq1, sq2, sq3]
      refine tkq (i := 38) (d := 63) (v := (.bool false)) rfl rfl (Or.inl ⟨by kernel_rfl, fun w hSw => ?_⟩) (by assumption) ?_
      ·(try dsimp only at hSw); go_simp <;> (try rfl)
      simp only [Act.put, sq1, sq2, sq3]
      refine tkq (i := 39) (d := 4) (v := (.bool false)) rfl rfl (Or.inl ⟨by kernel_rfl, fun w hSw => ?_⟩) (by assumption) ?_
      ·(try dsimp only at hSw); go_simp <;> (try rfl)
      simp only [Act.put, sq1, sq2, sq3]
      refine wpAnyH_done (by kernel_rfl) ?_ _
      have HXe := Lib.hid (below_step HX.out hHeld)
      clear hHeld
      go_wp2
      go_ret
      exact ⟨ret_bo HF.out.symm, HXe.out⟩
     | true =>
      have HF : Hid (bb = r3) := Lib.hid (by rw [HQ.out]; simp)
      go_enter Try.func40, Try.ntmps40
      go_wp2_with (first
       | go_skip
       | (go_at_call 78; (with_reducible refine (HMk.out _).mono ?_); rintro e w1 ⟨rfl, rfl⟩))
      try dsimp only [Act.put]
      refine wp_region_held_drew (S := fun W => Below ((w.alloc (.cells (Ch.cells c P Q R).toArray 25)).alloc (.cells #[.int .i64 N] 3)).heap.size ((w.alloc (.cells (Ch.cells c P Q R).toArray 25)).alloc (.cells #[.int .i64 N] 3)) W) (by kernel_rfl) (Below.refl _ _).drew (fun hHeld => ?_)
      change wpAnyH _ _ _ _ _ _ #[false, false, false, false, false, false, false, false, false, false, false, false, false, false, false, false, false, false, false, false, false, false, false, false, false, false, false, false, false, false, false, false, false, false, false, false, false, false, false, false] _ _
      refine tkq (i := 0) (d := 25) (v := (.pointer (some ⟨w.heap.size, 2, none⟩))) rfl rfl (Or.inl ⟨by kernel_rfl, fun w hSw => ?_⟩) (by assumption) ?_
      ·(try dsimp only at hSw); go_simp <;> (try rfl)
      simp only [Act.put, sq1, sq2, sq3]
      refine tkq (i := 1) (d := 26) (v := (.slice P.1 P.2.1 P.2.2)) rfl rfl (yields_load_at (by kernel_rfl) 22 (.tmp 25) rfl (.pointer (some ⟨w.heap.size, 2, none⟩)) (by simp [Act.eval]) (.slice P.1 P.2.1 P.2.2) (fun W hW => load_one' (Try.cagg_pos W) ((HB.out.through hW).cellAt (i := 2) rfl))) (by assumption) ?_
      simp only [Act.put, sq1, sq2, sq3]
      refine tkq (i := 2) (d := 27) (v := (.int .i64 (P.2.1 : Int))) rfl rfl (Or.inl ⟨by kernel_rfl, fun w hSw => ?_⟩) (by assumption) ?_
      ·(try dsimp only at hSw); go_simp <;> (try rfl)
      simp only [Act.put, sq1, sq2, sq3]
      refine tkq (i := 3) (d := 28) (v := (.bool true)) rfl rfl (Or.inl ⟨by kernel_rfl, fun w hSw => ?_⟩) (by assumption) ?_
      ·(try dsimp only at hSw); go_simp <;> (try rfl)
      simp only [Act.put, sq1, sq2, sq3]
      refine tkq (i := 4) (d := 29) (v := (.bool true)) rfl rfl (Or.inl ⟨by kernel_rfl, fun w hSw => ?_⟩) (by assumption) ?_
      ·(try dsimp only at hSw); go_simp <;> (try rfl)
      simp only [Act.put, sq1, sq2, sq3]
      refine tkq (i := 5) (d := 30) (v := (.pointer (some ⟨w.heap.size, 2, none⟩))) rfl rfl (Or.inl ⟨by kernel_rfl, fun w hSw => ?_⟩) (by assumption) ?_
      ·(try dsimp only at hSw); go_simp <;> (try rfl)
      simp only [Act.put, sq1, sq2, sq3]
      refine tkq (i := 6) (d := 31) (v := (.slice P.1 P.2.1 P.2.2)) rfl rfl (yields_load_at (by kernel_rfl) 22 (.tmp 30) rfl (.pointer (some ⟨w.heap.size, 2, none⟩)) (by simp [Act.eval]) (.slice P.1 P.2.1 P.2.2) (fun W hW => load_one' (Try.cagg_pos W) ((HB.out.through hW).cellAt (i := 2) rfl))) (by assumption) ?_
      simp only [Act.put, sq1, sq2, sq3]
      refine tkq (i := 7) (d := 32) (v := (.pointer (some ⟨g, o, none⟩))) rfl rfl (Or.inl ⟨by kernel_rfl, fun w hSw => ?_⟩) (by assumption) ?_
      ·(try dsimp only at hSw); go_simp <;> (try rfl)
      simp only [Act.put, sq1, sq2, sq3]
      refine tkq (i := 8) (d := 33) (v := (.pointer (some ⟨g, o, none⟩))) rfl rfl (Or.inl ⟨by kernel_rfl, fun w hSw => ?_⟩) (by assumption) ?_
      ·(try dsimp only at hSw); go_simp <;> (try rfl)
      simp only [Act.put, sq1, sq2, sq3]
      refine tkq (i := 9) (d := 34) (v := (.int .i64 p.sq)) rfl rfl (yields_load_at (by kernel_rfl) 2 (.tmp 33) rfl (.pointer (some ⟨g, o, none⟩)) (by simp [Act.eval]) (.int .i64 p.sq) (fun W hW => load_one' (Try.agg_i64 W) (by have h9 := rangeAt.through HRx.out (below_step HX.out hW) 0 _ rfl; simpa using h9))) (by assumption) ?_
      simp only [Act.put, sq1, sq2, sq3]
      refine tkq (i := 10) (d := 35) (v := (.pointer (some ⟨w.heap.size, 1, none⟩))) rfl rfl (Or.inl ⟨by kernel_rfl, fun w hSw => ?_⟩) (by assumption) ?_
      ·(try dsimp only at hSw); go_simp <;> (try rfl)
      simp only [Act.put, sq1, sq2, sq3]
      refine tkq (i := 11) (d := 36) (v := (.int .i64 c.lw)) rfl rfl (yields_load_at (by kernel_rfl) 2 (.tmp 35) rfl (.pointer (some ⟨w.heap.size, 1, none⟩)) (by simp [Act.eval]) (.int .i64 c.lw) (fun W hW => load_one' (Try.agg_i64 W) ((HB.out.through hW).cellAt (i := 1) rfl))) (by assumption) ?_
      simp only [Act.put, sq1, sq2, sq3]
      refine tkq (i := 12) (d := 37) (v := (.bool true)) rfl rfl (Or.inl ⟨by kernel_rfl, fun w hSw => ?_⟩) (by assumption) ?_
      ·(try dsimp only at hSw); go_simp <;> (try rfl)
      simp only [Act.put, sq1, sq2, sq3]
      refine tkq (i := 13) (d := 38) (v := (.bool true)) rfl rfl (Or.inl ⟨by kernel_rfl, fun w hSw => ?_⟩) (by assumption) ?_
      ·(try dsimp only at hSw); go_simp <;> (try rfl)
      simp only [Act.put, sq1, sq2, sq3]
      refine tkq (i := 14) (d := 39) (v := (.bool true)) rfl rfl (Or.inl ⟨by kernel_rfl, fun w hSw => ?_⟩) (by assumption) ?_
      ·(try dsimp only at hSw); go_simp <;> (try rfl)
      simp only [Act.put, sq1, sq2, sq3]
      refine tkq (i := 15) (d := 40) (v := (.pointer (some ⟨w.heap.size, 2, none⟩))) rfl rfl (Or.inl ⟨by kernel_rfl, fun w hSw => ?_⟩) (by assumption) ?_
      ·(try dsimp only at hSw); go_simp <;> (try rfl)
      simp only [Act.put, sq1, sq2, sq3]
      refine tkq (i := 16) (d := 41) (v := (.slice P.1 P.2.1 P.2.2)) rfl rfl (yields_load_at (by kernel_rfl) 22 (.tmp 40) rfl (.pointer (some ⟨w.heap.size, 2, none⟩)) (by simp [Act.eval]) (.slice P.1 P.2.1 P.2.2) (fun W hW => load_one' (Try.cagg_pos W) ((HB.out.through hW).cellAt (i := 2) rfl))) (by assumption) ?_
      simp only [Act.put, sq1, sq2, sq3]
      refine tkq (i := 17) (d := 42) (v := (.func (.func 79) #[] #[])) rfl rfl (Or.inl ⟨by kernel_rfl, fun w hSw => ?_⟩) (by assumption) ?_
      ·(try dsimp only at hSw); go_simp <;> (try rfl)
      simp only [Act.put, sq1, sq2, sq3]
      refine tkq (i := 18) (d := 43) (v := (.func (.func 82) #[] #[])) rfl rfl (Or.inl ⟨by kernel_rfl, fun w hSw => ?_⟩) (by assumption) ?_
      ·(try dsimp only at hSw); go_simp <;> (try rfl)
      simp only [Act.put, sq1, sq2, sq3]
      refine wpAnyH_ready (rs := [19]) (by kernel_rfl) (by simp) ?_
      refine AllReadyH.cons (o := ⟨some 44, .buildSlice 136 1 #[(0, .tmp 43)], _, _, _, _⟩) rfl (fun K hK => ?_) AllReadyH.nil
      refine step_build1_g (by kernel_rfl) 136 116 (.tmp 43) rfl (.func (.func 82) #[] #[]) (by simp [Act.eval]) (Try.run_bpo _) ?_; intro gx wx hbx hxx; have HBx := Lib.hid hbx; have HKx := Lib.hid (below_step hHeld hxx); clear hbx hxx
      refine hK.out _ _ HKx.out (fun hHeld1 => ?_)
      clear hHeld hK K
      have hHeld := hHeld1
      clear hHeld1
      change wpAnyH _ _ _ _ _ _ _ (Act.put _ (some (44 : Nat)) (.slice (some ⟨gx, 0, none⟩) 1 1)) _
      simp only [Act.put, sq1, sq2, sq3]
      refine wpAnyH_ready (rs := [20]) (by kernel_rfl) (by simp) ?_
      refine AllReadyH.cons rfl (fun K hK => ?_) AllReadyH.nil
      go_simp
      refine (HR1.out _ _ hHeld HBx.out).mono ?_
      rintro e w5 ⟨rfl, hb5⟩; have HK5 := Lib.hid (below_step hHeld hb5); clear hb5
      go_wp2_with fail
      refine hK.out _ _ HK5.out (fun hHeld1 => ?_)
      clear hHeld hK K
      have hHeld := hHeld1
      clear hHeld1
      refine tkq (i := 21) (d := 46) (v := (.bool true)) rfl rfl (Or.inl ⟨by kernel_rfl, fun w hSw => ?_⟩) (by assumption) ?_
      ·(try dsimp only at hSw); go_simp <;> (try rfl)
      simp only [Act.put, sq1, sq2, sq3]
      refine tkq (i := 22) (d := 47) (v := (.bool true)) rfl rfl (Or.inl ⟨by kernel_rfl, fun w hSw => ?_⟩) (by assumption) ?_
      ·(try dsimp only at hSw); go_simp <;> (try rfl)
      simp only [Act.put, sq1, sq2, sq3]
      refine tkq (i := 23) (d := 48) (v := (.pointer (some ⟨w.heap.size, 3, none⟩))) rfl rfl (Or.inl ⟨by kernel_rfl, fun w hSw => ?_⟩) (by assumption) ?_
      ·(try dsimp only at hSw); go_simp <;> (try rfl)
      simp only [Act.put, sq1, sq2, sq3]
      refine tkq (i := 24) (d := 49) (v := (.slice Q.1 Q.2.1 Q.2.2)) rfl rfl (yields_load_at (by kernel_rfl) 23 (.tmp 48) rfl (.pointer (some ⟨w.heap.size, 3, none⟩)) (by simp [Act.eval]) (.slice Q.1 Q.2.1 Q.2.2) (fun W hW => load_one' (Try.cagg_pfs W) ((HB.out.through hW).cellAt (i := 3) rfl))) (by assumption) ?_
      simp only [Act.put, sq1, sq2, sq3]
      refine tkq (i := 25) (d := 50) (v := (.func (.func 80) #[] #[.pointer (some ⟨w.heap.size, 0, none⟩), .pointer (some ⟨w.heap.size + 1, 0, none⟩)])) rfl rfl (Or.inl ⟨by kernel_rfl, fun w hSw => ?_⟩) (by assumption) ?_
      ·(try dsimp only at hSw); go_simp <;> (try rfl)
      simp only [Act.put, sq1, sq2, sq3]
      refine tkq (i := 26) (d := 51) (v := (.func (.func 83) #[] #[])) rfl rfl (Or.inl ⟨by kernel_rfl, fun w hSw => ?_⟩) (by assumption) ?_
      ·(try dsimp only at hSw); go_simp <;> (try rfl)
      simp only [Act.put, sq1, sq2, sq3]
      refine wpAnyH_ready (rs := [27]) (by kernel_rfl) (by simp) ?_
      refine AllReadyH.cons (o := ⟨some 52, .buildSlice 138 1 #[(0, .tmp 51)], _, _, _, _⟩) rfl (fun K hK => ?_) AllReadyH.nil
      refine step_build1_g (by kernel_rfl) 138 117 (.tmp 51) rfl (.func (.func 83) #[] #[]) (by simp [Act.eval]) (Try.run_bpf1 _) ?_; intro gy wy hby hxy; have HBy := Lib.hid hby; have HKy := Lib.hid (below_step hHeld hxy); clear hby hxy
      refine hK.out _ _ HKy.out (fun hHeld1 => ?_)
      clear hHeld hK K
      have hHeld := hHeld1
      clear hHeld1
      change wpAnyH _ _ _ _ _ _ _ (Act.put _ (some (52 : Nat)) (.slice (some ⟨gy, 0, none⟩) 1 1)) _
      simp only [Act.put, sq1, sq2, sq3]
      refine wpAnyH_ready (rs := [28]) (by kernel_rfl) (by simp) ?_
      refine AllReadyH.cons rfl (fun K hK => ?_) AllReadyH.nil
      go_simp
      refine (HR2.out _ _ hHeld HBy.out).mono ?_
      rintro e w6 ⟨rfl, hb6⟩; have HK6 := Lib.hid (below_step hHeld hb6); clear hb6
      go_wp2_with fail
      refine hK.out _ _ HK6.out (fun hHeld1 => ?_)
      clear hHeld hK K
      have hHeld := hHeld1
      clear hHeld1
      refine tkq (i := 29) (d := 54) (v := (.bool true)) rfl rfl (Or.inl ⟨by kernel_rfl, fun w hSw => ?_⟩) (by assumption) ?_
      ·(try dsimp only at hSw); go_simp <;> (try rfl)
      simp only [Act.put, sq1, sq2, sq3]
      refine tkq (i := 30) (d := 55) (v := (.bool true)) rfl rfl (Or.inl ⟨by kernel_rfl, fun w hSw => ?_⟩) (by assumption) ?_
      ·(try dsimp only at hSw); go_simp <;> (try rfl)
      simp only [Act.put, sq1, sq2, sq3]
      refine tkq (i := 31) (d := 56) (v := (.pointer (some ⟨w.heap.size, 4, none⟩))) rfl rfl (Or.inl ⟨by kernel_rfl, fun w hSw => ?_⟩) (by assumption) ?_
      ·(try dsimp only at hSw); go_simp <;> (try rfl)
      simp only [Act.put, sq1, sq2, sq3]
      refine tkq (i := 32) (d := 57) (v := (.slice R.1 R.2.1 R.2.2)) rfl rfl (yields_load_at (by kernel_rfl) 23 (.tmp 56) rfl (.pointer (some ⟨w.heap.size, 4, none⟩)) (by simp [Act.eval]) (.slice R.1 R.2.1 R.2.2) (fun W hW => load_one' (Try.cagg_pfs W) ((HB.out.through hW).cellAt (i := 4) rfl))) (by assumption) ?_
      simp only [Act.put, sq1, sq2, sq3]
      refine tkq (i := 33) (d := 58) (v := (.func (.func 80) #[] #[.pointer (some ⟨w.heap.size, 0, none⟩), .pointer (some ⟨w.heap.size + 1, 0, none⟩)])) rfl rfl (Or.inl ⟨by kernel_rfl, fun w hSw => ?_⟩) (by assumption) ?_
      ·(try dsimp only at hSw); go_simp <;> (try rfl)
      simp only [Act.put, sq1, sq2, sq3]
      refine tkq (i := 34) (d := 59) (v := (.func (.func 83) #[] #[])) rfl rfl (Or.inl ⟨by kernel_rfl, fun w hSw => ?_⟩) (by assumption) ?_
      ·(try dsimp only at hSw); go_simp <;> (try rfl)
      simp only [Act.put, sq1, sq2, sq3]
      refine tkq (i := 35) (d := 60) (v := (.func (.func 84) #[] #[])) rfl rfl (Or.inl ⟨by kernel_rfl, fun w hSw => ?_⟩) (by assumption) ?_
      ·(try dsimp only at hSw); go_simp <;> (try rfl)
      simp only [Act.put, sq1, sq2, sq3]
      refine wpAnyH_ready (rs := [36]) (by kernel_rfl) (by simp) ?_
      refine AllReadyH.cons (o := ⟨some 61, .buildSlice 138 2 #[(0, .tmp 59), (1, .tmp 60)], _, _, _, _⟩) rfl (fun K hK => ?_) AllReadyH.nil
      refine step_build2_g (by kernel_rfl) 138 117 (.tmp 59) (.tmp 60) rfl (.func (.func 83) #[] #[]) (.func (.func 84) #[] #[]) (by simp [Act.eval]) (by simp [Act.eval]) (Try.run_bpf2 _) ?_; intro gz wz hbz hxz; have HBz := Lib.hid hbz; have HKz := Lib.hid (below_step hHeld hxz); clear hbz hxz
      refine hK.out _ _ HKz.out (fun hHeld1 => ?_)
      clear hHeld hK K
      have hHeld := hHeld1
      clear hHeld1
      change wpAnyH _ _ _ _ _ _ _ (Act.put _ (some (61 : Nat)) (.slice (some ⟨gz, 0, none⟩) 2 2)) _
      simp only [Act.put, sq1, sq2, sq3]
      refine wpAnyH_ready (rs := [37]) (by kernel_rfl) (by simp) ?_
      refine AllReadyH.cons rfl (fun K hK => ?_) AllReadyH.nil
      go_simp
      refine (HR3.out _ _ hHeld HBz.out).mono ?_
      rintro e w7 ⟨rfl, hb7⟩; have HK7 := Lib.hid (below_step hHeld hb7); clear hb7
      go_wp2_with fail
      refine hK.out _ _ HK7.out (fun hHeld1 => ?_)
      clear hHeld hK K
      have hHeld := hHeld1
      clear hHeld1
      refine tkq (i := 38) (d := 63) (v := (.bool r3)) rfl rfl (Or.inl ⟨by kernel_rfl, fun w hSw => ?_⟩) (by assumption) ?_
      ·(try dsimp only at hSw); go_simp <;> (try rfl)
      simp only [Act.put, sq1, sq2, sq3]
      refine tkq (i := 39) (d := 4) (v := (.bool r3)) rfl rfl (Or.inl ⟨by kernel_rfl, fun w hSw => ?_⟩) (by assumption) ?_
      ·(try dsimp only at hSw); go_simp <;> (try rfl)
      simp only [Act.put, sq1, sq2, sq3]
      refine wpAnyH_done (by kernel_rfl) ?_ _
      have HXe := Lib.hid (below_step HX.out hHeld)
      clear hHeld
      go_wp2
      go_ret
      exact ⟨ret_bo HF.out.symm, HXe.out⟩
    ·have he : (p.sq == c.lw) = false := by simpa using hpe
     have HF : Hid (bb = false) := Lib.hid (by rw [← hbb]; unfold chgB; rw [hpo, decide_eq_false hpe]; simp)
     clear h hl1 hl2 hbb hmk c1 c2 hk0 hkp hlw hrx hP1 hgp hdp hpo hpe
     go_enter Try.func40, Try.ntmps40
     go_wp2_with (first
      | go_skip
      | (go_at_call 78; (with_reducible refine (HMk.out _).mono ?_); rintro e w1 ⟨rfl, rfl⟩))
     try dsimp only [Act.put]
     refine wp_region_held_drew (S := fun W => Below ((w.alloc (.cells (Ch.cells c P Q R).toArray 25)).alloc (.cells #[.int .i64 N] 3)).heap.size ((w.alloc (.cells (Ch.cells c P Q R).toArray 25)).alloc (.cells #[.int .i64 N] 3)) W) (by kernel_rfl) (Below.refl _ _).drew (fun hHeld => ?_)
     change wpAnyH _ _ _ _ _ _ #[false, false, false, false, false, false, false, false, false, false, false, false, false, false, false, false, false, false, false, false, false, false, false, false, false, false, false, false, false, false, false, false, false, false, false, false, false, false, false, false] _ _
     refine tkq (i := 0) (d := 25) (v := (.pointer (some ⟨w.heap.size, 2, none⟩))) rfl rfl (Or.inl ⟨by kernel_rfl, fun w hSw => ?_⟩) (by assumption) ?_
     ·(try dsimp only at hSw); go_simp <;> (try rfl)
     simp only [Act.put, sq1, sq2, sq3]
     refine tkq (i := 1) (d := 26) (v := (.slice P.1 P.2.1 P.2.2)) rfl rfl (yields_load_at (by kernel_rfl) 22 (.tmp 25) rfl (.pointer (some ⟨w.heap.size, 2, none⟩)) (by simp [Act.eval]) (.slice P.1 P.2.1 P.2.2) (fun W hW => load_one' (Try.cagg_pos W) ((HB.out.through hW).cellAt (i := 2) rfl))) (by assumption) ?_
     simp only [Act.put, sq1, sq2, sq3]
     refine tkq (i := 2) (d := 27) (v := (.int .i64 (P.2.1 : Int))) rfl rfl (Or.inl ⟨by kernel_rfl, fun w hSw => ?_⟩) (by assumption) ?_
     ·(try dsimp only at hSw); go_simp <;> (try rfl)
     simp only [Act.put, sq1, sq2, sq3]
     refine tkq (i := 3) (d := 28) (v := (.bool true)) rfl rfl (Or.inl ⟨by kernel_rfl, fun w hSw => ?_⟩) (by assumption) ?_
     ·(try dsimp only at hSw); go_simp <;> (try rfl)
     simp only [Act.put, sq1, sq2, sq3]
     refine tkq (i := 4) (d := 29) (v := (.bool true)) rfl rfl (Or.inl ⟨by kernel_rfl, fun w hSw => ?_⟩) (by assumption) ?_
     ·(try dsimp only at hSw); go_simp <;> (try rfl)
     simp only [Act.put, sq1, sq2, sq3]
     refine tkq (i := 5) (d := 30) (v := (.pointer (some ⟨w.heap.size, 2, none⟩))) rfl rfl (Or.inl ⟨by kernel_rfl, fun w hSw => ?_⟩) (by assumption) ?_
     ·(try dsimp only at hSw); go_simp <;> (try rfl)
     simp only [Act.put, sq1, sq2, sq3]
     refine tkq (i := 6) (d := 31) (v := (.slice P.1 P.2.1 P.2.2)) rfl rfl (yields_load_at (by kernel_rfl) 22 (.tmp 30) rfl (.pointer (some ⟨w.heap.size, 2, none⟩)) (by simp [Act.eval]) (.slice P.1 P.2.1 P.2.2) (fun W hW => load_one' (Try.cagg_pos W) ((HB.out.through hW).cellAt (i := 2) rfl))) (by assumption) ?_
     simp only [Act.put, sq1, sq2, sq3]
     refine tkq (i := 7) (d := 32) (v := (.pointer (some ⟨g, o, none⟩))) rfl rfl (Or.inl ⟨by kernel_rfl, fun w hSw => ?_⟩) (by assumption) ?_
     ·(try dsimp only at hSw); go_simp <;> (try rfl)
     simp only [Act.put, sq1, sq2, sq3]
     refine tkq (i := 8) (d := 33) (v := (.pointer (some ⟨g, o, none⟩))) rfl rfl (Or.inl ⟨by kernel_rfl, fun w hSw => ?_⟩) (by assumption) ?_
     ·(try dsimp only at hSw); go_simp <;> (try rfl)
     simp only [Act.put, sq1, sq2, sq3]
     refine tkq (i := 9) (d := 34) (v := (.int .i64 p.sq)) rfl rfl (yields_load_at (by kernel_rfl) 2 (.tmp 33) rfl (.pointer (some ⟨g, o, none⟩)) (by simp [Act.eval]) (.int .i64 p.sq) (fun W hW => load_one' (Try.agg_i64 W) (by have h9 := rangeAt.through HRx.out (below_step HX.out hW) 0 _ rfl; simpa using h9))) (by assumption) ?_
     simp only [Act.put, sq1, sq2, sq3]
     refine tkq (i := 10) (d := 35) (v := (.pointer (some ⟨w.heap.size, 1, none⟩))) rfl rfl (Or.inl ⟨by kernel_rfl, fun w hSw => ?_⟩) (by assumption) ?_
     ·(try dsimp only at hSw); go_simp <;> (try rfl)
     simp only [Act.put, sq1, sq2, sq3]
     refine tkq (i := 11) (d := 36) (v := (.int .i64 c.lw)) rfl rfl (yields_load_at (by kernel_rfl) 2 (.tmp 35) rfl (.pointer (some ⟨w.heap.size, 1, none⟩)) (by simp [Act.eval]) (.int .i64 c.lw) (fun W hW => load_one' (Try.agg_i64 W) ((HB.out.through hW).cellAt (i := 1) rfl))) (by assumption) ?_
     simp only [Act.put, sq1, sq2, sq3]
     refine tkq (i := 12) (d := 37) (v := (.bool false)) rfl rfl (Or.inl ⟨by kernel_rfl, fun w hSw => ?_⟩) (by assumption) ?_
     ·(try dsimp only at hSw); go_simp <;> (try rfl)
     simp only [Act.put, sq1, sq2, sq3]
     refine tkq (i := 13) (d := 38) (v := (.bool false)) rfl rfl (Or.inl ⟨by kernel_rfl, fun w hSw => ?_⟩) (by assumption) ?_
     ·(try dsimp only at hSw); go_simp <;> (try rfl)
     simp only [Act.put, sq1, sq2, sq3]
     refine tkq (i := 14) (d := 39) (v := (.bool false)) rfl rfl (Or.inl ⟨by kernel_rfl, fun w hSw => ?_⟩) (by assumption) ?_
     ·(try dsimp only at hSw); go_simp <;> (try rfl)
     simp only [Act.put, sq1, sq2, sq3]
     refine tkv (i := 15) (d := 40) rfl rfl (by assumption) ?_
     simp only [Act.put, sq1, sq2, sq3]
     refine tkv (i := 16) (d := 41) rfl rfl (by assumption) ?_
     simp only [Act.put, sq1, sq2, sq3]
     refine tkv (i := 17) (d := 42) rfl rfl (by assumption) ?_
     simp only [Act.put, sq1, sq2, sq3]
     refine tkv (i := 18) (d := 43) rfl rfl (by assumption) ?_
     simp only [Act.put, sq1, sq2, sq3]
     refine tkv (i := 19) (d := 44) rfl rfl (by assumption) ?_
     simp only [Act.put, sq1, sq2, sq3]
     refine tkv (i := 20) (d := 45) rfl rfl (by assumption) ?_
     simp only [Act.put, sq1, sq2, sq3]
     refine tkq (i := 21) (d := 46) (v := (.bool false)) rfl rfl (Or.inl ⟨by kernel_rfl, fun w hSw => ?_⟩) (by assumption) ?_
     ·(try dsimp only at hSw); go_simp <;> (try rfl)
     simp only [Act.put, sq1, sq2, sq3]
     refine tkq (i := 22) (d := 47) (v := (.bool false)) rfl rfl (Or.inl ⟨by kernel_rfl, fun w hSw => ?_⟩) (by assumption) ?_
     ·(try dsimp only at hSw); go_simp <;> (try rfl)
     simp only [Act.put, sq1, sq2, sq3]
     refine tkv (i := 23) (d := 48) rfl rfl (by assumption) ?_
     simp only [Act.put, sq1, sq2, sq3]
     refine tkv (i := 24) (d := 49) rfl rfl (by assumption) ?_
     simp only [Act.put, sq1, sq2, sq3]
     refine tkv (i := 25) (d := 50) rfl rfl (by assumption) ?_
     simp only [Act.put, sq1, sq2, sq3]
     refine tkv (i := 26) (d := 51) rfl rfl (by assumption) ?_
     simp only [Act.put, sq1, sq2, sq3]
     refine tkv (i := 27) (d := 52) rfl rfl (by assumption) ?_
     simp only [Act.put, sq1, sq2, sq3]
     refine tkv (i := 28) (d := 53) rfl rfl (by assumption) ?_
     simp only [Act.put, sq1, sq2, sq3]
     refine tkq (i := 29) (d := 54) (v := (.bool false)) rfl rfl (Or.inl ⟨by kernel_rfl, fun w hSw => ?_⟩) (by assumption) ?_
     ·(try dsimp only at hSw); go_simp <;> (try rfl)
     simp only [Act.put, sq1, sq2, sq3]
     refine tkq (i := 30) (d := 55) (v := (.bool false)) rfl rfl (Or.inl ⟨by kernel_rfl, fun w hSw => ?_⟩) (by assumption) ?_
     ·(try dsimp only at hSw); go_simp <;> (try rfl)
     simp only [Act.put, sq1, sq2, sq3]
     refine tkv (i := 31) (d := 56) rfl rfl (by assumption) ?_
     simp only [Act.put, sq1, sq2, sq3]
     refine tkv (i := 32) (d := 57) rfl rfl (by assumption) ?_
     simp only [Act.put, sq1, sq2, sq3]
     refine tkv (i := 33) (d := 58) rfl rfl (by assumption) ?_
     simp only [Act.put, sq1, sq2, sq3]
     refine tkv (i := 34) (d := 59) rfl rfl (by assumption) ?_
     simp only [Act.put, sq1, sq2, sq3]
     refine tkv (i := 35) (d := 60) rfl rfl (by assumption) ?_
     simp only [Act.put, sq1, sq2, sq3]
     refine tkv (i := 36) (d := 61) rfl rfl (by assumption) ?_
     simp only [Act.put, sq1, sq2, sq3]
     refine tkv (i := 37) (d := 62) rfl rfl (by assumption) ?_
     simp only [Act.put, sq1, sq2, sq3]
     refine tkq (i := 38) (d := 63) (v := (.bool false)) rfl rfl (Or.inl ⟨by kernel_rfl, fun w hSw => ?_⟩) (by assumption) ?_
     ·(try dsimp only at hSw); go_simp <;> (try rfl)
     simp only [Act.put, sq1, sq2, sq3]
     refine tkq (i := 39) (d := 4) (v := (.bool false)) rfl rfl (Or.inl ⟨by kernel_rfl, fun w hSw => ?_⟩) (by assumption) ?_
     ·(try dsimp only at hSw); go_simp <;> (try rfl)
     simp only [Act.put, sq1, sq2, sq3]
     refine wpAnyH_done (by kernel_rfl) ?_ _
     have HXe := Lib.hid (below_step HX.out hHeld)
     clear hHeld
     go_wp2
     go_ret
     exact ⟨ret_bo HF.out.symm, HXe.out⟩
  ·have d2 : decide (1048576 < c.vw) = true := by simp; omega
   have HF : Hid (bb = false) := Lib.hid (by rw [← hbb]; unfold chgB; rw [decide_eq_false c2]; simp)
   clear h hl1 hl2 hbb hmk c1 c2
   go_enter Try.func40, Try.ntmps40
   go_wp2_with (first
    | go_skip
    | (go_at_call 78; (with_reducible refine (HMk.out _).mono ?_); rintro e w1 ⟨rfl, rfl⟩))
   go_ret
   exact ⟨ret_bo HF.out.symm, HX.out⟩
 ·have d1 : decide (c.vw < 1) = true := by simp; omega
  have HF : Hid (bb = false) := Lib.hid (by rw [← hbb]; unfold chgB; rw [decide_eq_false c1]; simp)
  clear h hl1 hl2 hbb hmk c1
  go_enter Try.func40, Try.ntmps40
  go_wp2_with (first
   | go_skip
   | (go_at_call 78; (with_reducible refine (HMk.out _).mono ?_); rintro e w1 ⟨rfl, rfl⟩))
  go_ret
  exact ⟨ret_bo HF.out.symm, HX.out⟩

set_option maxHeartbeats 16000000 in
set_option maxRecDepth 100000 in
theorem check18_any (c : Ch) (P Q R : Pl) (N : Int) (w : World) (h : ChIn w P Q R c) (hl1 : ∀ p ∈ c.pp, ∀ y ∈ p.es, y.co.lt.length ≤ 1000000) (hl2 : ∀ p ∈ c.pd, ∀ y ∈ p.es, y.co.lt.length ≤ 1000000) :
  Calls Try.prog 11 #[.agg (Ch.cells c P Q R).toArray, .int .i64 N] w fun e w' => e = .returned (.int .i64 (chkCh c N)) ∧ Below w.heap.size w w' := by
 have HB : Hid (Blk (w.alloc (.cells (Ch.cells c P Q R).toArray 25)) w.heap.size 25 (Ch.cells c P Q R)) := Lib.hid (Blk.fresh rfl rfl)
 have HX : Hid (Below w.heap.size w (w.alloc (.cells (Ch.cells c P Q R).toArray 25))) := Lib.hid (below1_ w _)
 obtain ⟨bn, hbn⟩ : ∃ b, badN N = b := ⟨_, rfl⟩
 have HSz : Hid (∀ W : World, Calls Try.prog 39 #[.int .i64 N] W fun e w' => e = .returned (.bool (!bn)) ∧ w' = W) := Lib.hid (fun W => hbn ▸ csize_any N W)
 obtain ⟨rb, hrb⟩ : ∃ b, rightB c N = b := ⟨_, rfl⟩
 have HIc : Hid (Calls Try.prog 40 #[.agg (Ch.cells c P Q R).toArray, .int .i64 N] (w.alloc (.cells (Ch.cells c P Q R).toArray 25)) fun e w' => e = .returned (.bool rb) ∧ Below (w.alloc (.cells (Ch.cells c P Q R).toArray 25)).heap.size (w.alloc (.cells (Ch.cells c P Q R).toArray 25)) w') := Lib.hid (hrb ▸ ischange_any c P Q R N (w.alloc (.cells (Ch.cells c P Q R).toArray 25)) (h.through HX.out) hl1 hl2)
 unfold chkCh
 rw [hbn, hrb]
 clear h hl1 hl2 hbn hrb
 cases bn with
 | true =>
  go_enter Try.func11, Try.ntmps11
  go_wp2_with (first
   | (go_at_call 39; (with_reducible refine (HSz.out _).mono ?_); rintro e ws ⟨rfl, rfl⟩))
  go_ret
  exact ⟨rfl, HX.out⟩
 | false =>
 cases rb with
 | true =>
  go_enter Try.func11, Try.ntmps11
  go_wp2_with (first
   | (go_at_call 39; (with_reducible refine (HSz.out _).mono ?_); rintro e ws ⟨rfl, rfl⟩)
   | (refine wpList_load_blk rfl 25 (.tmp 2) rfl w.heap.size rfl 25 (Ch.cells c P Q R) _ HB.out Try.underlying25 rfl (by kernel_rfl) ?_)
   | (go_at_call 40; (with_reducible refine HIc.out.mono ?_); rintro e w1 ⟨rfl, hb1⟩; have HX1 := Lib.hid (below_step HX.out hb1); clear hb1))
  go_ret
  exact ⟨rfl, HX1.out⟩
 | false =>
  go_enter Try.func11, Try.ntmps11
  go_wp2_with (first
   | (go_at_call 39; (with_reducible refine (HSz.out _).mono ?_); rintro e ws ⟨rfl, rfl⟩)
   | (refine wpList_load_blk rfl 25 (.tmp 2) rfl w.heap.size rfl 25 (Ch.cells c P Q R) _ HB.out Try.underlying25 rfl (by kernel_rfl) ?_)
   | (go_at_call 40; (with_reducible refine HIc.out.mono ?_); rintro e w1 ⟨rfl, hb1⟩; have HX1 := Lib.hid (below_step HX.out hb1); clear hb1))
  go_ret
  exact ⟨rfl, HX1.out⟩
end Go.Proofs.Ytheecifgbkdecaa
