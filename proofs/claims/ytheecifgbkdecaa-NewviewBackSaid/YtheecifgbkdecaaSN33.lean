/-
  CwA
-/
import Derived.Test.YtheecifgbkdecaaSN12
import Derived.Test.YtheecifgbkdecaaSN16
import Derived.Test.YtheecifgbkdecaaSN5
import Derived.Test.YtheecifgbkdecaaSNT
namespace Go.Proofs.Ytheecifgbkdecaa
open Go.RowKit

set_option maxHeartbeats 1000000 in
theorem csize_any (n : Int) (w : World) : Calls Try.prog 39 #[.int .i64 n] w fun e w' => e = .returned (.bool (!(badN n))) ∧ w' = w := by
 unfold badN
 by_cases h1 : 1 ≤ n
 ·have d1 : decide (1 ≤ n) = true := by simpa using h1
  go_enter Try.func39, Try.ntmps39
  go_wp2
  go_ret
  exact ⟨ret_bo (by first | rfl | (rw [Bool.eq_iff_iff]; simp <;> omega)), rfl⟩
 ·have d1 : decide (1 ≤ n) = false := by simpa using h1
  go_enter Try.func39, Try.ntmps39
  go_wp2
  go_ret
  exact ⟨ret_bo (by first | rfl | (rw [Bool.eq_iff_iff]; simp <;> omega)), rfl⟩

set_option maxHeartbeats 1000000 in
theorem nsize_any (n : Int) (w : World) : Calls Try.prog 69 #[.int .i64 n] w fun e w' => e = .returned (.bool (!(badN n))) ∧ w' = w := by
 unfold badN
 by_cases h1 : 1 ≤ n
 ·have d1 : decide (1 ≤ n) = true := by simpa using h1
  go_enter Try.func69, Try.ntmps69
  go_wp2
  go_ret
  exact ⟨ret_bo (by first | rfl | (rw [Bool.eq_iff_iff]; simp <;> omega)), rfl⟩
 ·have d1 : decide (1 ≤ n) = false := by simpa using h1
  go_enter Try.func69, Try.ntmps69
  go_wp2
  go_ret
  exact ⟨ret_bo (by first | rfl | (rw [Bool.eq_iff_iff]; simp <;> omega)), rfl⟩

set_option maxHeartbeats 2000000 in
theorem cmark_any (s : Int) (w : World) : Calls Try.prog 78 #[.int .i64 s] w fun e w' => e = .returned (.bool (markB s)) ∧ w' = w := by
 by_cases h1 : 0 ≤ s
 ·have d1 : decide (0 ≤ s) = true := by simpa using h1
  by_cases h2 : s ≤ 1048576
  ·have d2 : decide (s ≤ 1048576) = true := by simpa using h2
   obtain ⟨m, hm⟩ : ∃ m : Int, s % 4 = m := ⟨_, rfl⟩
   have ht : s.tmod 4 = m := by rw [Int.tmod_eq_emod_of_nonneg h1]; exact hm
   have hw : IntKind.i64.wrap m = m := IntWalk.i64_in _ (by omega)
   have hw2 : wrap64 m = m := by unfold wrap64; omega
   obtain ⟨mb, hmb⟩ : ∃ mb, (m == 0) = mb := ⟨_, rfl⟩
   have hd : markB s = mb := by unfold markB isW; rw [hm, ← hmb, d1, d2]; by_cases h0 : m = 0 <;> simp [h0]
   rw [hd]
   clear hd h1 h2
   go_enter Try.func78, Try.ntmps78
   go_wp2
   go_ret
   exact ⟨ret_bo (by simp), rfl⟩
  ·have d2 : decide (s ≤ 1048576) = false := by simpa using h2
   have hd : markB s = false := by unfold markB isW; rw [d2]; simp
   rw [hd]
   clear hd h1 h2
   go_enter Try.func78, Try.ntmps78
   go_wp2
   go_ret
   exact ⟨ret_bo (by simp), rfl⟩
 ·have d1 : decide (0 ≤ s) = false := by simpa using h1
  have hd : markB s = false := by unfold markB isW; rw [d1]; simp
  rw [hd]
  clear hd h1
  go_enter Try.func78, Try.ntmps78
  go_wp2
  go_ret
  exact ⟨ret_bo (by simp), rfl⟩

theorem cnum_any {Q : Nat → Prop} {g : Nat} {st : Option (List UInt8)} {w : World} (h : Rs Q w g tR st) :
  Calls Try.prog 46 #[.pointer (some ⟨g, 0, none⟩)] w fun e w' => e = .returned (.int .i64 (sx 8 (nval 8 st))) ∧ Rs Q w' g tR (nnext 8 st) ∧ w.grownBy w' (some g) := by
 have HN : Hid (Calls Try.prog 72 #[.pointer (some ⟨g, 0, none⟩), .int .i64 8] w fun e w' => e = .returned (.int .u64 (nval 8 st)) ∧ Rs Q w' g tR (nnext 8 st) ∧ w.grownBy w' (some g)) := Lib.hid (number_rs h 8 rfl)
 have hcv := fun (W : World) => conv_i64 70 2 Try.underlying70 Try.underlying2 (nval 8 st) (by have := nval_lt 8 st; omega) W
 obtain ⟨v, hv⟩ : ∃ v : Int, sx 8 (nval 8 st) = v := ⟨_, rfl⟩; rw [hv] at hcv ⊢; clear hv
 generalize nval 8 st = q at *
 clear h
 go_enter Try.func46, Try.ntmps46
 go_wp2_with (first
  | (go_at_call 72; (with_reducible refine HN.out.mono ?_); rintro e w1 ⟨rfl, hr1, hg1⟩; have HR1 := Lib.hid hr1; have HG1 := Lib.hid hg1; clear hr1 hg1))
 go_ret
 exact ⟨rfl, HR1.out, HG1.out⟩
theorem splice_all {α : Type} {xs ys : List α} (h : xs.length = ys.length) : splice xs 0 ys = ys := by
 unfold splice
 rw [List.take_zero, List.nil_append, List.drop_of_length_le (by omega), List.append_nil]
theorem Try.sl_dg (g o : Nat) (W : World) : (Instr.sliceAt 40 (.pointer (some ⟨g, o, none⟩)) none none none).run Try.prog W = .ok (.slice (some ⟨g, o, none⟩) 32 32) W := by
 have ht := Try.underlying40
 obtain ⟨i, hi, _⟩ := Option.map_eq_some_iff.1 Try.info_u8
 have ea : (⟨g, o, none⟩ : Addr).add 0 = ⟨g, o, none⟩ := by simp [Addr.add]
 simp [Instr.sliceAt, Instr.sureAddr, Sem.run_bind, run_underlying ht, Instr.sliceBounds, sizeOf, typeInfo, hi, ea]
theorem cdig_any {Q : Nat → Prop} {g : Nat} {st : Option (List UInt8)} {w : World} (h : Rs Q w g tR st) (hQ : ∀ b, Q b → b < w.heap.size) :
  Calls Try.prog 50 #[.pointer (some ⟨g, 0, none⟩)] w fun e w' => e = .returned (.agg (vs (tagOf (tval 32 st))).toArray) ∧ Rs Q w' g tR (nnext 32 st) ∧ w.grownBy w' (some g) := by
 have HLT := Lib.hid h.lt
 have HQ := Lib.hid hQ
 have HFx : Hid (∀ (W : World), Rs Q W g tR st → Calls Try.prog 95 #[.pointer (some ⟨g, 0, none⟩), .int .i64 32] W fun e w' => ∃ B m c, e = .returned (.slice B m c) ∧ By w' (fun _ => True) B m (tval 32 st) ∧ Rs Q w' g tR (nnext 32 st) ∧ W.grownBy w' (some g)) := Lib.hid (fun W hR => fixed_rs hR 32)
 obtain ⟨gs, hgs⟩ : ∃ gs, w.heap.size = gs := ⟨_, rfl⟩
 have HGZ : Hid (w.heap.size ≤ gs) := Lib.hid (Nat.le_of_eq hgs)
 have HNE : Hid (gs ≠ g) := Lib.hid (by have := HLT.out; omega)
 have HBz : Hid (Blk (w.alloc (.cells #[.int .u8 0, .int .u8 0, .int .u8 0, .int .u8 0, .int .u8 0, .int .u8 0, .int .u8 0, .int .u8 0, .int .u8 0, .int .u8 0, .int .u8 0, .int .u8 0, .int .u8 0, .int .u8 0, .int .u8 0, .int .u8 0, .int .u8 0, .int .u8 0, .int .u8 0, .int .u8 0, .int .u8 0, .int .u8 0, .int .u8 0, .int .u8 0, .int .u8 0, .int .u8 0, .int .u8 0, .int .u8 0, .int .u8 0, .int .u8 0, .int .u8 0, .int .u8 0] 40)) gs 40 (vs (List.replicate 32 0))) := Lib.hid (Blk.fresh hgs.symm rfl)
 have HRz := Lib.hid (h.alloc (.cells #[.int .u8 0, .int .u8 0, .int .u8 0, .int .u8 0, .int .u8 0, .int .u8 0, .int .u8 0, .int .u8 0, .int .u8 0, .int .u8 0, .int .u8 0, .int .u8 0, .int .u8 0, .int .u8 0, .int .u8 0, .int .u8 0, .int .u8 0, .int .u8 0, .int .u8 0, .int .u8 0, .int .u8 0, .int .u8 0, .int .u8 0, .int .u8 0, .int .u8 0, .int .u8 0, .int .u8 0, .int .u8 0, .int .u8 0, .int .u8 0, .int .u8 0, .int .u8 0] 40))
 have hsl := fun W => Try.sl_dg gs 0 W
 obtain ⟨tg, htg⟩ : ∃ tg, tagOf (tval 32 st) = tg := ⟨_, rfl⟩
 have HTL : Hid (tg.length = 32) := Lib.hid (by rw [← htg]; exact tagOf_len _)
 have HTG := Lib.hid htg
 rw [htg]
 clear h hQ htg
 go_enter Try.func50, Try.ntmps50
 rcases tval_32 st with hT | hT
 ·have HT := Lib.hid hT
  clear hT
  go_wp2
  try dsimp only [Act.put]
  refine wp_region_held_drew (S := fun W => w.grownBy W (some g)) (by kernel_rfl) (grown_drew (only_below (below1_ w (.cells #[.int .u8 0, .int .u8 0, .int .u8 0, .int .u8 0, .int .u8 0, .int .u8 0, .int .u8 0, .int .u8 0, .int .u8 0, .int .u8 0, .int .u8 0, .int .u8 0, .int .u8 0, .int .u8 0, .int .u8 0, .int .u8 0, .int .u8 0, .int .u8 0, .int .u8 0, .int .u8 0, .int .u8 0, .int .u8 0, .int .u8 0, .int .u8 0, .int .u8 0, .int .u8 0, .int .u8 0, .int .u8 0, .int .u8 0, .int .u8 0, .int .u8 0, .int .u8 0] 40)))) (fun hHeld => ?_)
  change wpAnyH _ _ _ _ _ _ #[false, false, false, false] _ _
  refine tkq (i := 0) (d := 3) (v := (.slice (some ⟨gs, 0, none⟩) 32 32)) rfl rfl (Or.inl ⟨by kernel_rfl, fun w hSw => ?_⟩) (by assumption) ?_
  ·(try dsimp only at hSw); go_simp <;> (try rfl)
  simp only [Act.put, sq1, sq2, sq3]
  refine tkq (i := 1) (d := 4) (v := (.pointer (some ⟨g, 0, none⟩))) rfl rfl (Or.inl ⟨by kernel_rfl, fun w hSw => ?_⟩) (by assumption) ?_
  ·(try dsimp only at hSw); go_simp <;> (try rfl)
  simp only [Act.put, sq1, sq2, sq3]
  refine wpAnyH_ready (rs := [2]) (by kernel_rfl) (by simp) ?_
  refine AllReadyH.cons rfl (fun K hK => ?_) AllReadyH.nil
  go_simp
  refine (HFx.out _ HRz.out.drew).mono ?_
  rintro e w5 ⟨B, m, c, rfl, hy, hr5, hg5⟩; have HY5 := Lib.hid hy; have HR5 := Lib.hid hr5; have HG5 := Lib.hid hg5; have HB5 := Lib.hid (HBz.out.drew.grown hg5 (fun e => HNE.out (Option.some.inj e))); clear hy hr5 hg5
  go_wp2_with fail
  refine hK.out _ _ (only_trans hHeld HG5.out) (fun hHeld1 => ?_)
  clear hHeld hK K
  have hHeld := hHeld1
  clear hHeld1
  refine wpAnyH_ready (rs := [3]) (by kernel_rfl) (by simp) ?_
  refine AllReadyH.cons (o := ⟨some 6, .call { callee := .builtin .copy, args := #[.tmp 3, .tmp 5], argTypes := #[28, 28] }, _, _, _, none⟩) rfl (fun K hK => ?_) AllReadyH.nil
  refine step_copy_blk rfl (.tmp 3) (.tmp 5) 28 28 rfl 5 Try.underlying28 (by kernel_rfl) gs 0 32 32 B m c (by simp [Act.eval]) (by simp [Act.eval]) (vs (List.replicate 32 0)) 40 HB5.out (vs (tval 32 st)) 32 (by rw [vs_length]; exact HT.out) (by have := HY5.out.len; have := HT.out; have h9 : m = 32 := (by omega); rw [h9]; rfl) (by decide) (by_src HY5.out HT.out) (by rw [vs_length, List.length_replicate]; omega) vs_one ?_; intro w6 hb6 hg6; rw [splice_all (xs := vs (List.replicate 32 0)) (ys := vs (tval 32 st)) (by rw [vs_length, vs_length, HT.out, List.length_replicate])] at hb6; have HB6 := Lib.hid hb6; have HG6 := Lib.hid hg6; have HR6 := Lib.hid (HR5.out.other hg6 (fun b hb => ⟨fun e => HNE.out (by rw [Option.some.inj hb]; exact e), fun h9 => by have := HQ.out b h9; have := Option.some.inj hb; have := HGZ.out; omega⟩)); clear hb6 hg6
  refine hK.out _ _ (only_new_ hHeld HG6.out HGZ.out) (fun hHeld1 => ?_)
  clear hHeld hK K
  have hHeld := hHeld1
  clear hHeld1
  change wpAnyH _ _ _ _ _ _ _ (Act.put _ (some (6 : Nat)) (.int .i64 ((32 : Nat) : Int))) _
  simp only [Act.put, sq1, sq2, sq3]
  refine wpAnyH_done (by kernel_rfl) ?_ _
  have HTV : Hid (tagOf (tval 32 st) = tval 32 st) := Lib.hid (tagOf_32 HT.out)
  have HGe := Lib.hid hHeld
  clear hHeld
  have HT6 : Hid (Blk _ gs 40 (vs tg)) := Lib.hid (by rw [← HTG.out, HTV.out]; exact HB6.out)
  go_wp2_with (first
   | (refine wpList_load_blk rfl 40 (.tmp 2) rfl gs rfl 40 (vs tg) _ HT6.out Try.underlying40 rfl (by rw [vs_length, HTL.out]; kernel_rfl) ?_)
   | (refine wpList_store_blk rfl 40 (.tmp 2) (.tmp 7) rfl gs (vs tg) rfl rfl 40 (vs tg) HT6.out (by rw [vs_length, HTL.out]; kernel_rfl) rfl (Array.all_eq_true_iff_forall_mem.2 (fun u hu => vs_one u (by simpa using hu))) ?_; intro wy hby hgy; have HBy := Lib.hid hby; have HGy := Lib.hid hgy; clear hby hgy))
  (try simp only [Exit.inBlock, Exit.then])
  refine bodyPost_ret (v := .agg (vs tg).toArray) (results_cell_row rfl _ _ gs 40 _ (0, 0) _ rfl HBy.out Try.underlying40 rfl ?r0) rfl ⟨rfl, HR6.out.other HGy.out (fun b hb => ⟨fun e => HNE.out (by rw [Option.some.inj hb]; exact e), fun h9 => by have := HQ.out b h9; have := Option.some.inj hb; have := HGZ.out; omega⟩), only_own_ HGe.out HGy.out (fun h e => by have := Option.some.inj e; have := HGZ.out; omega)⟩
  rw [List.size_toArray, vs_length, HTL.out]
  kernel_rfl
 ·have HT := Lib.hid hT
  clear hT
  go_wp2
  try dsimp only [Act.put]
  refine wp_region_held_drew (S := fun W => w.grownBy W (some g)) (by kernel_rfl) (grown_drew (only_below (below1_ w (.cells #[.int .u8 0, .int .u8 0, .int .u8 0, .int .u8 0, .int .u8 0, .int .u8 0, .int .u8 0, .int .u8 0, .int .u8 0, .int .u8 0, .int .u8 0, .int .u8 0, .int .u8 0, .int .u8 0, .int .u8 0, .int .u8 0, .int .u8 0, .int .u8 0, .int .u8 0, .int .u8 0, .int .u8 0, .int .u8 0, .int .u8 0, .int .u8 0, .int .u8 0, .int .u8 0, .int .u8 0, .int .u8 0, .int .u8 0, .int .u8 0, .int .u8 0, .int .u8 0] 40)))) (fun hHeld => ?_)
  change wpAnyH _ _ _ _ _ _ #[false, false, false, false] _ _
  refine tkq (i := 0) (d := 3) (v := (.slice (some ⟨gs, 0, none⟩) 32 32)) rfl rfl (Or.inl ⟨by kernel_rfl, fun w hSw => ?_⟩) (by assumption) ?_
  ·(try dsimp only at hSw); go_simp <;> (try rfl)
  simp only [Act.put, sq1, sq2, sq3]
  refine tkq (i := 1) (d := 4) (v := (.pointer (some ⟨g, 0, none⟩))) rfl rfl (Or.inl ⟨by kernel_rfl, fun w hSw => ?_⟩) (by assumption) ?_
  ·(try dsimp only at hSw); go_simp <;> (try rfl)
  simp only [Act.put, sq1, sq2, sq3]
  refine wpAnyH_ready (rs := [2]) (by kernel_rfl) (by simp) ?_
  refine AllReadyH.cons rfl (fun K hK => ?_) AllReadyH.nil
  go_simp
  refine (HFx.out _ HRz.out.drew).mono ?_
  rintro e w5 ⟨B, m, c, rfl, hy, hr5, hg5⟩; have HY5 := Lib.hid hy; have HR5 := Lib.hid hr5; have HG5 := Lib.hid hg5; have HB5 := Lib.hid (HBz.out.drew.grown hg5 (fun e => HNE.out (Option.some.inj e))); clear hy hr5 hg5
  go_wp2_with fail
  refine hK.out _ _ (only_trans hHeld HG5.out) (fun hHeld1 => ?_)
  clear hHeld hK K
  have hHeld := hHeld1
  clear hHeld1
  refine wpAnyH_ready (rs := [3]) (by kernel_rfl) (by simp) ?_
  refine AllReadyH.cons (o := ⟨some 6, .call { callee := .builtin .copy, args := #[.tmp 3, .tmp 5], argTypes := #[28, 28] }, _, _, _, none⟩) rfl (fun K hK => ?_) AllReadyH.nil
  refine step_copy_none rfl (.tmp 3) (.tmp 5) 28 28 rfl 5 Try.underlying28 (by kernel_rfl) (some ⟨gs, 0, none⟩) 32 32 B m c (by simp [Act.eval]) (by simp [Act.eval]) (by have := HY5.out.len; rw [HT.out] at this; have h9 : m = 0 := (by simpa using this.symm); rw [h9]; rfl) ?_
  refine hK.out _ _ hHeld (fun hHeld1 => ?_)
  clear hHeld hK K
  have hHeld := hHeld1
  clear hHeld1
  change wpAnyH _ _ _ _ _ _ _ (Act.put _ (some (6 : Nat)) (.int .i64 0)) _
  simp only [Act.put, sq1, sq2, sq3]
  refine wpAnyH_done (by kernel_rfl) ?_ _
  have HTV : Hid (tagOf (tval 32 st) = List.replicate 32 0) := Lib.hid (by rw [HT.out, tagOf_nil])
  have HB6 := Lib.hid HB5.out
  have HR6 := Lib.hid HR5.out
  have HGe := Lib.hid hHeld
  clear hHeld
  have HT6 : Hid (Blk _ gs 40 (vs tg)) := Lib.hid (by rw [← HTG.out, HTV.out]; exact HB6.out)
  go_wp2_with (first
   | (refine wpList_load_blk rfl 40 (.tmp 2) rfl gs rfl 40 (vs tg) _ HT6.out Try.underlying40 rfl (by rw [vs_length, HTL.out]; kernel_rfl) ?_)
   | (refine wpList_store_blk rfl 40 (.tmp 2) (.tmp 7) rfl gs (vs tg) rfl rfl 40 (vs tg) HT6.out (by rw [vs_length, HTL.out]; kernel_rfl) rfl (Array.all_eq_true_iff_forall_mem.2 (fun u hu => vs_one u (by simpa using hu))) ?_; intro wy hby hgy; have HBy := Lib.hid hby; have HGy := Lib.hid hgy; clear hby hgy))
  (try simp only [Exit.inBlock, Exit.then])
  refine bodyPost_ret (v := .agg (vs tg).toArray) (results_cell_row rfl _ _ gs 40 _ (0, 0) _ rfl HBy.out Try.underlying40 rfl ?r1) rfl ⟨rfl, HR6.out.other HGy.out (fun b hb => ⟨fun e => HNE.out (by rw [Option.some.inj hb]; exact e), fun h9 => by have := HQ.out b h9; have := Option.some.inj hb; have := HGZ.out; omega⟩), only_own_ HGe.out HGy.out (fun h e => by have := Option.some.inj e; have := HGZ.out; omega)⟩
  rw [List.size_toArray, vs_length, HTL.out]
  kernel_rfl

theorem cret_in {a b : Int} (h : a = b) : Ending.returned (.int .i64 a) = Ending.returned (.int .i64 b) := by rw [h]
/-- f of n -/
def fltP (n : Int) : Int := if n < 4 then 0 else (n - 1) / 3
set_option maxHeartbeats 2000000 in
theorem nfaults_any (n : Int) (w : World) (hn : n ≤ 1000000) : Calls Try.prog 30 #[.int .i64 n] w fun e w' => e = .returned (.int .i64 (fltP n)) ∧ w' = w := by
 obtain ⟨v, hv⟩ : ∃ v, fltP n = v := ⟨_, rfl⟩
 rw [hv]
 have HV := Lib.hid hv
 clear hv
 go_enter Try.func30, Try.ntmps30
 go_wp2
 all_goals go_ret
 all_goals exact ⟨cret_in (by rw [← HV.out]; unfold fltP; split <;> omega), rfl⟩
set_option maxHeartbeats 2000000 in
theorem nquorum_any (n : Int) (w : World) (hn : n ≤ 1000000) : Calls Try.prog 32 #[.int .i64 n] w fun e w' => e = .returned (.int .i64 (2 * fltP n + 1)) ∧ w' = w := by
 have HF : Hid (∀ W : World, Calls Try.prog 30 #[.int .i64 n] W fun e w' => e = .returned (.int .i64 (fltP n)) ∧ w' = W) := Lib.hid (fun W => nfaults_any n W hn)
 have hb : 0 ≤ fltP n ∧ fltP n ≤ 1000000 := by unfold fltP; split <;> omega
 obtain ⟨v, hv⟩ : ∃ v, fltP n = v := ⟨_, rfl⟩
 rw [hv] at HF hb ⊢
 clear hv hn
 go_enter Try.func32, Try.ntmps32
 go_wp2_with (first
  | (go_at_call 30; (with_reducible refine (HF.out _).mono ?_); rintro e w1 ⟨rfl, rfl⟩))
 go_ret
 exact ⟨cret_in (by omega), rfl⟩

end Go.Proofs.Ytheecifgbkdecaa
