/-
  CwH
-/
import Derived.Test.YtheecifgbkdecaaSN37
import Derived.Test.YtheecifgbkdecaaSNT
namespace Go.Proofs.Ytheecifgbkdecaa
open Go.RowKit

theorem Try.el_fpo : El Try.prog 136 116 1 8 .nilFunc := ⟨Try.underlying136, by kernel_rfl, rfl, by omega, by omega, by omega⟩
theorem Try.ix_fpo (W : World) (g n c j : Nat) (hj : j < n) : (Instr.indexAt 136 (.slice (some ⟨g, 0, none⟩) n c) (.int .i64 (j : Int))).run Try.prog W = .ok (.pointer (some ⟨g, j, none⟩)) W := by
 have h9 := El.index Try.el_fpo (by kernel_rfl) W g 0 n c j hj
 simpa using h9

theorem Try.el_fpf : El Try.prog 138 117 1 8 .nilFunc := ⟨Try.underlying138, by kernel_rfl, rfl, by omega, by omega, by omega⟩
theorem Try.ix_fpf (W : World) (g n c j : Nat) (hj : j < n) : (Instr.indexAt 138 (.slice (some ⟨g, 0, none⟩) n c) (.int .i64 (j : Int))).run Try.prog W = .ok (.pointer (some ⟨g, j, none⟩)) W := by
 have h9 := El.index Try.el_fpf (by kernel_rfl) W g 0 n c j hj
 simpa using h9

set_option maxHeartbeats 16000000 in
set_option maxRecDepth 100000 in
theorem risespo_any (a b : Po) (ha : a.dg.length = 32) (hb : b.dg.length = 32) (gf : Nat) (w : World) (hf : Blk w gf 116 [(.func (.func 82) #[] #[])]) :
  Calls Try.prog 106 #[.agg (Po.cells a).toArray, .agg (Po.cells b).toArray, .slice (some ⟨gf, 0, none⟩) 1 1] w fun e w' => e = .returned (.bool (decide (a.sq < b.sq))) ∧ Below w.heap.size w w' := by
 have HX0 : Hid (Below w.heap.size w ((w.alloc (.cells (Po.cells a).toArray 52)).alloc (.cells (Po.cells b).toArray 52))) := Lib.hid ((below1_ w _).alloc (below1_ w _).size _)
 have HA : Hid (Blk ((w.alloc (.cells (Po.cells a).toArray 52)).alloc (.cells (Po.cells b).toArray 52)) w.heap.size 52 (Po.cells a)) := Lib.hid ((Blk.fresh rfl rfl : Blk (w.alloc (.cells (Po.cells a).toArray 52)) w.heap.size 52 (Po.cells a)).alloc _)
 have HB : Hid (Blk ((w.alloc (.cells (Po.cells a).toArray 52)).alloc (.cells (Po.cells b).toArray 52)) (w.heap.size + 1) 52 (Po.cells b)) := Lib.hid (Blk.fresh (by simp) rfl)
 have HF : Hid (Blk w gf 116 [(.func (.func 82) #[] #[])]) := Lib.hid hf
 have HDa := Lib.hid ha
 have HDb := Lib.hid hb
 clear hf ha hb
 go_enter Try.func106, Try.ntmps106
 go_wp2
 generalize hW0 : ((w.alloc (.cells (Po.cells a).toArray 52)).alloc (.cells (Po.cells b).toArray 52)) = w0 at *
 go_loopw [13] (fun iv wr => ∃ i : Nat, i ≤ 1 ∧ iv = .int .i64 (i : Int) ∧ ((1 ≤ i → a.sq = b.sq) ∧ (2 ≤ i → a.sq = b.sq)) ∧ Below w0.heap.size w0 wr) (fun iv _ => 1 - (intOf iv).toNat)
 case atStart => exact ⟨0, Nat.zero_le _, rfl, ⟨fun h9 => absurd h9 (by omega), fun h9 => absurd h9 (by omega)⟩, Below.refl _ _⟩
 case round =>
  obtain ⟨i, hi, rfl, hp, hx⟩ := hrel
  have HP := Lib.hid hp
  have HX := Lib.hid hx
  clear hp hx
  rcases i with _ | _ | i
  ·-- 0
   have hcl := ((HF.out.through HX0.out).through HX.out).cellAt (i := 0) rfl
   have hix := fun W => Try.ix_fpo W gf 1 1 0 (by omega)
   go_wp2
   try dsimp only [Act.put]
   refine wp_region_held_drew (S := fun W => Below wr.heap.size wr W) (by kernel_rfl) (Below.refl _ _).drew (fun hHeld => ?_)
   change wpAnyH _ _ _ _ _ _ #[false, false, false, false, false, false, false, false] _ _
   refine tkq (i := 0) (d := 17) (v := (.func (.func 82) #[] #[])) rfl rfl (Or.inl ⟨by kernel_rfl, fun w hSw => ?_⟩) (by assumption) ?_
   ·(try dsimp only at hSw); go_simp <;> (try rfl)
   simp only [Act.put, sq1, sq2, sq3]
   refine tkq (i := 1) (d := 18) (v := (.agg (Po.cells a).toArray)) rfl rfl (yieldsIf_load_mid (by kernel_rfl) 52 (.tmp 3) rfl w.heap.size 0 (by simp [Act.eval]) (Po.cells a) _ (fun W hW => (HA.out.through (below_step HX.out hW)).whl_) Try.underlying52 rfl (by rw [(Po.cells_len _ HDa.out)]; kernel_rfl)) (by assumption) ?_
   simp only [Act.put, sq1, sq2, sq3]
   refine tkq (i := 3) (d := 20) (v := (.func (.func 82) #[] #[])) rfl rfl (Or.inl ⟨by kernel_rfl, fun w hSw => ?_⟩) (by assumption) ?_
   ·(try dsimp only at hSw); go_simp <;> (try rfl)
   simp only [Act.put, sq1, sq2, sq3]
   refine tkq (i := 4) (d := 21) (v := (.agg (Po.cells b).toArray)) rfl rfl (yieldsIf_load_mid (by kernel_rfl) 52 (.tmp 4) rfl (w.heap.size + 1) 0 (by simp [Act.eval]) (Po.cells b) _ (fun W hW => (HB.out.through (below_step HX.out hW)).whl_) Try.underlying52 rfl (by rw [(Po.cells_len _ HDb.out)]; kernel_rfl)) (by assumption) ?_
   simp only [Act.put, sq1, sq2, sq3]
   refine wpAnyH_ready (rs := [2]) (by kernel_rfl) (by simp) ?_
   refine AllReadyH.cons rfl (fun K hK => ?_) AllReadyH.nil
   go_simp
   refine (cl3_any a _).mono ?_
   rintro e w5 ⟨rfl, hb5⟩; have HK5 := Lib.hid (below_step hHeld hb5); clear hb5
   go_wp2_with fail
   refine hK.out _ _ HK5.out (fun hHeld1 => ?_)
   clear hHeld hK K
   have hHeld := hHeld1
   clear hHeld1
   refine wpAnyH_ready (rs := [5]) (by kernel_rfl) (by simp) ?_
   refine AllReadyH.cons rfl (fun K hK => ?_) AllReadyH.nil
   go_simp
   refine (cl3_any b _).mono ?_
   rintro e w6 ⟨rfl, hb6⟩; have HK6 := Lib.hid (below_step hHeld hb6); clear hb6
   go_wp2_with fail
   refine hK.out _ _ HK6.out (fun hHeld1 => ?_)
   clear hHeld hK K
   have hHeld := hHeld1
   clear hHeld1
   refine tkq (i := 6) (d := 9) (v := (.int .i64 a.sq)) rfl rfl (Or.inl ⟨by kernel_rfl, fun w hSw => ?_⟩) (by assumption) ?_
   ·(try dsimp only at hSw); go_simp <;> (try rfl)
   simp only [Act.put, sq1, sq2, sq3]
   refine tkq (i := 7) (d := 10) (v := (.int .i64 b.sq)) rfl rfl (Or.inl ⟨by kernel_rfl, fun w hSw => ?_⟩) (by assumption) ?_
   ·(try dsimp only at hSw); go_simp <;> (try rfl)
   simp only [Act.put, sq1, sq2, sq3]
   refine wpAnyH_done (by kernel_rfl) ?_ _
   by_cases hq : a.sq = b.sq
   ·have hdn : (a.sq != b.sq) = false := by simpa using hq
    have HXe := Lib.hid (below_step HX.out hHeld)
    clear hHeld
    go_wp2
    go_roundw
    case rel => exact ⟨1, by omega, by go_num, ⟨fun _ => hq, fun h9 => absurd h9 (by omega)⟩, HXe.out⟩
    case measure => first | (simp [intOf]; done) | (simp [intOf]; omega)
   ·have hdn : (a.sq != b.sq) = true := by simpa using hq
    have HXe := Lib.hid (below_step HX.out hHeld)
    clear hHeld
    go_wp2
    go_ret
    exact ⟨ret_bo (by rfl), below_step HX0.out HXe.out⟩
  ·go_wp2
   go_ret
   exact ⟨ret_bo (by have h8 : a.sq = b.sq := HP.out.1 (by omega); simp [h8]), below_step HX0.out HX.out⟩
  ·omega

set_option maxHeartbeats 16000000 in
set_option maxRecDepth 100000 in
theorem risespf1_any (a b : Pf) (B1 : Option Addr) (m1 c1 : Nat) (B2 : Option Addr) (m2 c2 : Nat) (gf : Nat) (w : World) (hf : Blk w gf 117 [(.func (.func 83) #[] #[])]) :
  Calls Try.prog 107 #[.agg #[.int .i64 a.sq, .int .i64 a.vw, .slice B1 m1 c1], .agg #[.int .i64 b.sq, .int .i64 b.vw, .slice B2 m2 c2], .slice (some ⟨gf, 0, none⟩) 1 1] w fun e w' => e = .returned (.bool (decide (a.sq < b.sq))) ∧ Below w.heap.size w w' := by
 have HX0 : Hid (Below w.heap.size w ((w.alloc (.cells #[.int .i64 a.sq, .int .i64 a.vw, .slice B1 m1 c1] 55)).alloc (.cells #[.int .i64 b.sq, .int .i64 b.vw, .slice B2 m2 c2] 55))) := Lib.hid ((below1_ w _).alloc (below1_ w _).size _)
 have HA : Hid (Blk ((w.alloc (.cells #[.int .i64 a.sq, .int .i64 a.vw, .slice B1 m1 c1] 55)).alloc (.cells #[.int .i64 b.sq, .int .i64 b.vw, .slice B2 m2 c2] 55)) w.heap.size 55 [.int .i64 a.sq, .int .i64 a.vw, .slice B1 m1 c1]) := Lib.hid ((Blk.fresh rfl rfl : Blk (w.alloc (.cells #[.int .i64 a.sq, .int .i64 a.vw, .slice B1 m1 c1] 55)) w.heap.size 55 [.int .i64 a.sq, .int .i64 a.vw, .slice B1 m1 c1]).alloc _)
 have HB : Hid (Blk ((w.alloc (.cells #[.int .i64 a.sq, .int .i64 a.vw, .slice B1 m1 c1] 55)).alloc (.cells #[.int .i64 b.sq, .int .i64 b.vw, .slice B2 m2 c2] 55)) (w.heap.size + 1) 55 [.int .i64 b.sq, .int .i64 b.vw, .slice B2 m2 c2]) := Lib.hid (Blk.fresh (by simp) rfl)
 have HF : Hid (Blk w gf 117 [(.func (.func 83) #[] #[])]) := Lib.hid hf
 clear hf
 go_enter Try.func107, Try.ntmps107
 go_wp2
 generalize hW0 : ((w.alloc (.cells #[.int .i64 a.sq, .int .i64 a.vw, .slice B1 m1 c1] 55)).alloc (.cells #[.int .i64 b.sq, .int .i64 b.vw, .slice B2 m2 c2] 55)) = w0 at *
 go_loopw [13] (fun iv wr => ∃ i : Nat, i ≤ 1 ∧ iv = .int .i64 (i : Int) ∧ ((1 ≤ i → a.sq = b.sq) ∧ (2 ≤ i → a.sq = b.sq)) ∧ Below w0.heap.size w0 wr) (fun iv _ => 1 - (intOf iv).toNat)
 case atStart => exact ⟨0, Nat.zero_le _, rfl, ⟨fun h9 => absurd h9 (by omega), fun h9 => absurd h9 (by omega)⟩, Below.refl _ _⟩
 case round =>
  obtain ⟨i, hi, rfl, hp, hx⟩ := hrel
  have HP := Lib.hid hp
  have HX := Lib.hid hx
  clear hp hx
  rcases i with _ | _ | i
  ·-- 0
   have hcl := ((HF.out.through HX0.out).through HX.out).cellAt (i := 0) rfl
   have hix := fun W => Try.ix_fpf W gf 1 1 0 (by omega)
   go_wp2
   try dsimp only [Act.put]
   refine wp_region_held_drew (S := fun W => Below wr.heap.size wr W) (by kernel_rfl) (Below.refl _ _).drew (fun hHeld => ?_)
   change wpAnyH _ _ _ _ _ _ #[false, false, false, false, false, false, false, false] _ _
   refine tkq (i := 0) (d := 17) (v := (.func (.func 83) #[] #[])) rfl rfl (Or.inl ⟨by kernel_rfl, fun w hSw => ?_⟩) (by assumption) ?_
   ·(try dsimp only at hSw); go_simp <;> (try rfl)
   simp only [Act.put, sq1, sq2, sq3]
   refine tkq (i := 1) (d := 18) (v := (.agg #[.int .i64 a.sq, .int .i64 a.vw, .slice B1 m1 c1])) rfl rfl (yieldsIf_load_mid (by kernel_rfl) 55 (.tmp 3) rfl w.heap.size 0 (by simp [Act.eval]) [.int .i64 a.sq, .int .i64 a.vw, .slice B1 m1 c1] _ (fun W hW => (HA.out.through (below_step HX.out hW)).whl_) Try.underlying55 rfl (by kernel_rfl)) (by assumption) ?_
   simp only [Act.put, sq1, sq2, sq3]
   refine tkq (i := 3) (d := 20) (v := (.func (.func 83) #[] #[])) rfl rfl (Or.inl ⟨by kernel_rfl, fun w hSw => ?_⟩) (by assumption) ?_
   ·(try dsimp only at hSw); go_simp <;> (try rfl)
   simp only [Act.put, sq1, sq2, sq3]
   refine tkq (i := 4) (d := 21) (v := (.agg #[.int .i64 b.sq, .int .i64 b.vw, .slice B2 m2 c2])) rfl rfl (yieldsIf_load_mid (by kernel_rfl) 55 (.tmp 4) rfl (w.heap.size + 1) 0 (by simp [Act.eval]) [.int .i64 b.sq, .int .i64 b.vw, .slice B2 m2 c2] _ (fun W hW => (HB.out.through (below_step HX.out hW)).whl_) Try.underlying55 rfl (by kernel_rfl)) (by assumption) ?_
   simp only [Act.put, sq1, sq2, sq3]
   refine wpAnyH_ready (rs := [2]) (by kernel_rfl) (by simp) ?_
   refine AllReadyH.cons rfl (fun K hK => ?_) AllReadyH.nil
   go_simp
   refine (cl4_any a B1 m1 c1 _).mono ?_
   rintro e w5 ⟨rfl, hb5⟩; have HK5 := Lib.hid (below_step hHeld hb5); clear hb5
   go_wp2_with fail
   refine hK.out _ _ HK5.out (fun hHeld1 => ?_)
   clear hHeld hK K
   have hHeld := hHeld1
   clear hHeld1
   refine wpAnyH_ready (rs := [5]) (by kernel_rfl) (by simp) ?_
   refine AllReadyH.cons rfl (fun K hK => ?_) AllReadyH.nil
   go_simp
   refine (cl4_any b B2 m2 c2 _).mono ?_
   rintro e w6 ⟨rfl, hb6⟩; have HK6 := Lib.hid (below_step hHeld hb6); clear hb6
   go_wp2_with fail
   refine hK.out _ _ HK6.out (fun hHeld1 => ?_)
   clear hHeld hK K
   have hHeld := hHeld1
   clear hHeld1
   refine tkq (i := 6) (d := 9) (v := (.int .i64 a.sq)) rfl rfl (Or.inl ⟨by kernel_rfl, fun w hSw => ?_⟩) (by assumption) ?_
   ·(try dsimp only at hSw); go_simp <;> (try rfl)
   simp only [Act.put, sq1, sq2, sq3]
   refine tkq (i := 7) (d := 10) (v := (.int .i64 b.sq)) rfl rfl (Or.inl ⟨by kernel_rfl, fun w hSw => ?_⟩) (by assumption) ?_
   ·(try dsimp only at hSw); go_simp <;> (try rfl)
   simp only [Act.put, sq1, sq2, sq3]
   refine wpAnyH_done (by kernel_rfl) ?_ _
   by_cases hq : a.sq = b.sq
   ·have hdn : (a.sq != b.sq) = false := by simpa using hq
    have HXe := Lib.hid (below_step HX.out hHeld)
    clear hHeld
    go_wp2
    go_roundw
    case rel => exact ⟨1, by omega, by go_num, ⟨fun _ => hq, fun h9 => absurd h9 (by omega)⟩, HXe.out⟩
    case measure => first | (simp [intOf]; done) | (simp [intOf]; omega)
   ·have hdn : (a.sq != b.sq) = true := by simpa using hq
    have HXe := Lib.hid (below_step HX.out hHeld)
    clear hHeld
    go_wp2
    go_ret
    exact ⟨ret_bo (by rfl), below_step HX0.out HXe.out⟩
  ·go_wp2
   go_ret
   exact ⟨ret_bo (by have h8 : a.sq = b.sq := HP.out.1 (by omega); simp [h8]), below_step HX0.out HX.out⟩
  ·omega

set_option maxHeartbeats 16000000 in
set_option maxRecDepth 100000 in
theorem risespf2_any (a b : Pf) (B1 : Option Addr) (m1 c1 : Nat) (B2 : Option Addr) (m2 c2 : Nat) (gf : Nat) (w : World) (hf : Blk w gf 117 [(.func (.func 83) #[] #[]), (.func (.func 84) #[] #[])]) :
  Calls Try.prog 107 #[.agg #[.int .i64 a.sq, .int .i64 a.vw, .slice B1 m1 c1], .agg #[.int .i64 b.sq, .int .i64 b.vw, .slice B2 m2 c2], .slice (some ⟨gf, 0, none⟩) 2 2] w fun e w' => e = .returned (.bool (decide (a.sq < b.sq) || (decide (a.sq = b.sq) && decide (a.vw < b.vw)))) ∧ Below w.heap.size w w' := by
 have HX0 : Hid (Below w.heap.size w ((w.alloc (.cells #[.int .i64 a.sq, .int .i64 a.vw, .slice B1 m1 c1] 55)).alloc (.cells #[.int .i64 b.sq, .int .i64 b.vw, .slice B2 m2 c2] 55))) := Lib.hid ((below1_ w _).alloc (below1_ w _).size _)
 have HA : Hid (Blk ((w.alloc (.cells #[.int .i64 a.sq, .int .i64 a.vw, .slice B1 m1 c1] 55)).alloc (.cells #[.int .i64 b.sq, .int .i64 b.vw, .slice B2 m2 c2] 55)) w.heap.size 55 [.int .i64 a.sq, .int .i64 a.vw, .slice B1 m1 c1]) := Lib.hid ((Blk.fresh rfl rfl : Blk (w.alloc (.cells #[.int .i64 a.sq, .int .i64 a.vw, .slice B1 m1 c1] 55)) w.heap.size 55 [.int .i64 a.sq, .int .i64 a.vw, .slice B1 m1 c1]).alloc _)
 have HB : Hid (Blk ((w.alloc (.cells #[.int .i64 a.sq, .int .i64 a.vw, .slice B1 m1 c1] 55)).alloc (.cells #[.int .i64 b.sq, .int .i64 b.vw, .slice B2 m2 c2] 55)) (w.heap.size + 1) 55 [.int .i64 b.sq, .int .i64 b.vw, .slice B2 m2 c2]) := Lib.hid (Blk.fresh (by simp) rfl)
 have HF : Hid (Blk w gf 117 [(.func (.func 83) #[] #[]), (.func (.func 84) #[] #[])]) := Lib.hid hf
 clear hf
 go_enter Try.func107, Try.ntmps107
 go_wp2
 generalize hW0 : ((w.alloc (.cells #[.int .i64 a.sq, .int .i64 a.vw, .slice B1 m1 c1] 55)).alloc (.cells #[.int .i64 b.sq, .int .i64 b.vw, .slice B2 m2 c2] 55)) = w0 at *
 go_loopw [13] (fun iv wr => ∃ i : Nat, i ≤ 2 ∧ iv = .int .i64 (i : Int) ∧ ((1 ≤ i → a.sq = b.sq) ∧ (2 ≤ i → a.vw = b.vw)) ∧ Below w0.heap.size w0 wr) (fun iv _ => 2 - (intOf iv).toNat)
 case atStart => exact ⟨0, Nat.zero_le _, rfl, ⟨fun h9 => absurd h9 (by omega), fun h9 => absurd h9 (by omega)⟩, Below.refl _ _⟩
 case round =>
  obtain ⟨i, hi, rfl, hp, hx⟩ := hrel
  have HP := Lib.hid hp
  have HX := Lib.hid hx
  clear hp hx
  rcases i with _ | _ | _ | i
  ·-- 0
   have hcl := ((HF.out.through HX0.out).through HX.out).cellAt (i := 0) rfl
   have hix := fun W => Try.ix_fpf W gf 2 2 0 (by omega)
   go_wp2
   try dsimp only [Act.put]
   refine wp_region_held_drew (S := fun W => Below wr.heap.size wr W) (by kernel_rfl) (Below.refl _ _).drew (fun hHeld => ?_)
   change wpAnyH _ _ _ _ _ _ #[false, false, false, false, false, false, false, false] _ _
   refine tkq (i := 0) (d := 17) (v := (.func (.func 83) #[] #[])) rfl rfl (Or.inl ⟨by kernel_rfl, fun w hSw => ?_⟩) (by assumption) ?_
   ·(try dsimp only at hSw); go_simp <;> (try rfl)
   simp only [Act.put, sq1, sq2, sq3]
   refine tkq (i := 1) (d := 18) (v := (.agg #[.int .i64 a.sq, .int .i64 a.vw, .slice B1 m1 c1])) rfl rfl (yieldsIf_load_mid (by kernel_rfl) 55 (.tmp 3) rfl w.heap.size 0 (by simp [Act.eval]) [.int .i64 a.sq, .int .i64 a.vw, .slice B1 m1 c1] _ (fun W hW => (HA.out.through (below_step HX.out hW)).whl_) Try.underlying55 rfl (by kernel_rfl)) (by assumption) ?_
   simp only [Act.put, sq1, sq2, sq3]
   refine tkq (i := 3) (d := 20) (v := (.func (.func 83) #[] #[])) rfl rfl (Or.inl ⟨by kernel_rfl, fun w hSw => ?_⟩) (by assumption) ?_
   ·(try dsimp only at hSw); go_simp <;> (try rfl)
   simp only [Act.put, sq1, sq2, sq3]
   refine tkq (i := 4) (d := 21) (v := (.agg #[.int .i64 b.sq, .int .i64 b.vw, .slice B2 m2 c2])) rfl rfl (yieldsIf_load_mid (by kernel_rfl) 55 (.tmp 4) rfl (w.heap.size + 1) 0 (by simp [Act.eval]) [.int .i64 b.sq, .int .i64 b.vw, .slice B2 m2 c2] _ (fun W hW => (HB.out.through (below_step HX.out hW)).whl_) Try.underlying55 rfl (by kernel_rfl)) (by assumption) ?_
   simp only [Act.put, sq1, sq2, sq3]
   refine wpAnyH_ready (rs := [2]) (by kernel_rfl) (by simp) ?_
   refine AllReadyH.cons rfl (fun K hK => ?_) AllReadyH.nil
   go_simp
   refine (cl4_any a B1 m1 c1 _).mono ?_
   rintro e w5 ⟨rfl, hb5⟩; have HK5 := Lib.hid (below_step hHeld hb5); clear hb5
   go_wp2_with fail
   refine hK.out _ _ HK5.out (fun hHeld1 => ?_)
   clear hHeld hK K
   have hHeld := hHeld1
   clear hHeld1
   refine wpAnyH_ready (rs := [5]) (by kernel_rfl) (by simp) ?_
   refine AllReadyH.cons rfl (fun K hK => ?_) AllReadyH.nil
   go_simp
   refine (cl4_any b B2 m2 c2 _).mono ?_
   rintro e w6 ⟨rfl, hb6⟩; have HK6 := Lib.hid (below_step hHeld hb6); clear hb6
   go_wp2_with fail
   refine hK.out _ _ HK6.out (fun hHeld1 => ?_)
   clear hHeld hK K
   have hHeld := hHeld1
   clear hHeld1
   refine tkq (i := 6) (d := 9) (v := (.int .i64 a.sq)) rfl rfl (Or.inl ⟨by kernel_rfl, fun w hSw => ?_⟩) (by assumption) ?_
   ·(try dsimp only at hSw); go_simp <;> (try rfl)
   simp only [Act.put, sq1, sq2, sq3]
   refine tkq (i := 7) (d := 10) (v := (.int .i64 b.sq)) rfl rfl (Or.inl ⟨by kernel_rfl, fun w hSw => ?_⟩) (by assumption) ?_
   ·(try dsimp only at hSw); go_simp <;> (try rfl)
   simp only [Act.put, sq1, sq2, sq3]
   refine wpAnyH_done (by kernel_rfl) ?_ _
   by_cases hq : a.sq = b.sq
   ·have hdn : (a.sq != b.sq) = false := by simpa using hq
    have HXe := Lib.hid (below_step HX.out hHeld)
    clear hHeld
    go_wp2
    go_roundw
    case rel => exact ⟨1, by omega, by go_num, ⟨fun _ => hq, fun h9 => absurd h9 (by omega)⟩, HXe.out⟩
    case measure => first | (simp [intOf]; done) | (simp [intOf]; omega)
   ·have hdn : (a.sq != b.sq) = true := by simpa using hq
    have HXe := Lib.hid (below_step HX.out hHeld)
    clear hHeld
    go_wp2
    go_ret
    exact ⟨ret_bo (by have h8 : ¬ a.sq = b.sq := hq; simp [h8]), below_step HX0.out HXe.out⟩
  ·-- 1
   have hcl := ((HF.out.through HX0.out).through HX.out).cellAt (i := 1) rfl
   have hix := fun W => Try.ix_fpf W gf 2 2 1 (by omega)
   go_wp2
   try dsimp only [Act.put]
   refine wp_region_held_drew (S := fun W => Below wr.heap.size wr W) (by kernel_rfl) (Below.refl _ _).drew (fun hHeld => ?_)
   change wpAnyH _ _ _ _ _ _ #[false, false, false, false, false, false, false, false] _ _
   refine tkq (i := 0) (d := 17) (v := (.func (.func 84) #[] #[])) rfl rfl (Or.inl ⟨by kernel_rfl, fun w hSw => ?_⟩) (by assumption) ?_
   ·(try dsimp only at hSw); go_simp <;> (try rfl)
   simp only [Act.put, sq1, sq2, sq3]
   refine tkq (i := 1) (d := 18) (v := (.agg #[.int .i64 a.sq, .int .i64 a.vw, .slice B1 m1 c1])) rfl rfl (yieldsIf_load_mid (by kernel_rfl) 55 (.tmp 3) rfl w.heap.size 0 (by simp [Act.eval]) [.int .i64 a.sq, .int .i64 a.vw, .slice B1 m1 c1] _ (fun W hW => (HA.out.through (below_step HX.out hW)).whl_) Try.underlying55 rfl (by kernel_rfl)) (by assumption) ?_
   simp only [Act.put, sq1, sq2, sq3]
   refine tkq (i := 3) (d := 20) (v := (.func (.func 84) #[] #[])) rfl rfl (Or.inl ⟨by kernel_rfl, fun w hSw => ?_⟩) (by assumption) ?_
   ·(try dsimp only at hSw); go_simp <;> (try rfl)
   simp only [Act.put, sq1, sq2, sq3]
   refine tkq (i := 4) (d := 21) (v := (.agg #[.int .i64 b.sq, .int .i64 b.vw, .slice B2 m2 c2])) rfl rfl (yieldsIf_load_mid (by kernel_rfl) 55 (.tmp 4) rfl (w.heap.size + 1) 0 (by simp [Act.eval]) [.int .i64 b.sq, .int .i64 b.vw, .slice B2 m2 c2] _ (fun W hW => (HB.out.through (below_step HX.out hW)).whl_) Try.underlying55 rfl (by kernel_rfl)) (by assumption) ?_
   simp only [Act.put, sq1, sq2, sq3]
   refine wpAnyH_ready (rs := [2]) (by kernel_rfl) (by simp) ?_
   refine AllReadyH.cons rfl (fun K hK => ?_) AllReadyH.nil
   go_simp
   refine (cl5_any a B1 m1 c1 _).mono ?_
   rintro e w5 ⟨rfl, hb5⟩; have HK5 := Lib.hid (below_step hHeld hb5); clear hb5
   go_wp2_with fail
   refine hK.out _ _ HK5.out (fun hHeld1 => ?_)
   clear hHeld hK K
   have hHeld := hHeld1
   clear hHeld1
   refine wpAnyH_ready (rs := [5]) (by kernel_rfl) (by simp) ?_
   refine AllReadyH.cons rfl (fun K hK => ?_) AllReadyH.nil
   go_simp
   refine (cl5_any b B2 m2 c2 _).mono ?_
   rintro e w6 ⟨rfl, hb6⟩; have HK6 := Lib.hid (below_step hHeld hb6); clear hb6
   go_wp2_with fail
   refine hK.out _ _ HK6.out (fun hHeld1 => ?_)
   clear hHeld hK K
   have hHeld := hHeld1
   clear hHeld1
   refine tkq (i := 6) (d := 9) (v := (.int .i64 a.vw)) rfl rfl (Or.inl ⟨by kernel_rfl, fun w hSw => ?_⟩) (by assumption) ?_
   ·(try dsimp only at hSw); go_simp <;> (try rfl)
   simp only [Act.put, sq1, sq2, sq3]
   refine tkq (i := 7) (d := 10) (v := (.int .i64 b.vw)) rfl rfl (Or.inl ⟨by kernel_rfl, fun w hSw => ?_⟩) (by assumption) ?_
   ·(try dsimp only at hSw); go_simp <;> (try rfl)
   simp only [Act.put, sq1, sq2, sq3]
   refine wpAnyH_done (by kernel_rfl) ?_ _
   by_cases hq : a.vw = b.vw
   ·have hdn : (a.vw != b.vw) = false := by simpa using hq
    have HXe := Lib.hid (below_step HX.out hHeld)
    clear hHeld
    go_wp2
    go_roundw
    case rel => exact ⟨2, by omega, by go_num, ⟨fun _ => HP.out.1 (by omega), fun _ => hq⟩, HXe.out⟩
    case measure => first | (simp [intOf]; done) | (simp [intOf]; omega)
   ·have hdn : (a.vw != b.vw) = true := by simpa using hq
    have HXe := Lib.hid (below_step HX.out hHeld)
    clear hHeld
    go_wp2
    go_ret
    exact ⟨ret_bo (by have h8 : a.sq = b.sq := HP.out.1 (by omega); simp [h8]), below_step HX0.out HXe.out⟩
  ·go_wp2
   go_ret
   exact ⟨ret_bo (by have h8 : a.sq = b.sq := HP.out.1 (by omega); have h7 : a.vw = b.vw := HP.out.2 (by omega); simp [h8, h7]), below_step HX0.out HX.out⟩
  ·omega

end Go.Proofs.Ytheecifgbkdecaa
