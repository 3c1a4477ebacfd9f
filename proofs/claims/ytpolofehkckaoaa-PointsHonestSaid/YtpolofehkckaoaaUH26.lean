/-
  Joined: PwB.
-/
import Derived.Test.YtpolofehkckaoaaUH25
import Derived.Test.YtpolofehkckaoaaUH19
import Derived.Test.YtpolofehkckaoaaUH22
import Derived.Test.YtpolofehkckaoaaUHT
namespace Go.Proofs.Ytpolofehkckaoaa
open Go.RowKit

def cmpI (a b : Int) : Int := if a < b then -1 else if b < a then 1 else 0
set_option maxHeartbeats 16000000 in
set_option maxRecDepth 100000 in
theorem isnan_any (a : Int) (w : World) : Calls Try.prog 60 #[.int .i64 a] w fun e w' => e = .returned (.bool false) ∧ w' = w := by
 go_enter Try.func60, Try.ntmps60
 go_wp2
 go_ret
 exact ⟨by simp, rfl⟩
set_option maxHeartbeats 16000000 in
set_option maxRecDepth 100000 in
theorem compare_any (a b : Int) (w : World) : Calls Try.prog 52 #[.int .i64 a, .int .i64 b] w fun e w' => e = .returned (.int .i64 (cmpI a b)) ∧ w' = w := by
 unfold cmpI
 by_cases h1 : a < b
 ·have d1 : decide (a < b) = true := by simpa using h1
  rw [if_pos h1]
  go_enter Try.func52, Try.ntmps52
  go_wp2_with (first
   | (go_at_call 60; (with_reducible refine (isnan_any _ _).mono ?_); rintro e w1 ⟨rfl, hw9⟩; have hw8 := hw9.symm; clear hw9; subst hw8))
  go_ret
  exact ⟨rfl, rfl⟩
 ·have d1 : decide (a < b) = false := by simpa using h1
  rw [if_neg h1]
  by_cases h2 : b < a
  ·have d2 : decide (b < a) = true := by simpa using h2
   rw [if_pos h2]
   go_enter Try.func52, Try.ntmps52
   go_wp2_with (first
    | (go_at_call 60; (with_reducible refine (isnan_any _ _).mono ?_); rintro e w1 ⟨rfl, hw9⟩; have hw8 := hw9.symm; clear hw9; subst hw8))
   go_ret
   exact ⟨rfl, rfl⟩
  ·have d2 : decide (b < a) = false := by simpa using h2
   rw [if_neg h2]
   go_enter Try.func52, Try.ntmps52
   go_wp2_with (first
    | (go_at_call 60; (with_reducible refine (isnan_any _ _).mono ?_); rintro e w1 ⟨rfl, hw9⟩; have hw8 := hw9.symm; clear hw9; subst hw8))
   go_ret
   exact ⟨rfl, rfl⟩
theorem cmpI_eq (a b : Int) : (cmpI a b == 0) = (a == b) := by
 unfold cmpI
 by_cases h1 : a < b
 ·rw [if_pos h1]
  have : (a == b) = false := by simp; omega
  rw [this]; rfl
 ·rw [if_neg h1]
  by_cases h2 : b < a
  ·rw [if_pos h2]
   have : (a == b) = false := by simp; omega
   rw [this]; rfl
  ·rw [if_neg h2]
   have : (a == b) = true := by simp; omega
   rw [this]; rfl
theorem BefP_ris {l : List Po} (h : Ris l) {i : Nat} {x : Po} {q : Int} (hx : l[i]? = some x) (hs : x.sq < q) : BefP l q (i + 1) := fun j z hj hz => by
 rcases (by omega : j < i ∨ j = i) with h9 | rfl
 ·have := ris_at h hz hx h9
  omega
 ·rw [hx] at hz
  rw [← Option.some.inj hz]
  exact hs
theorem aft_ris {l : List Po} (h : Ris l) {i : Nat} {x : Po} {q : Int} (hx : l[i]? = some x) (hs : q ≤ x.sq) : ∀ (m : Nat) (y : Po), i ≤ m → l[m]? = some y → q ≤ y.sq := fun m y hm hy => by
 rcases (by omega : i < m ∨ m = i) with h9 | rfl
 ·have := ris_at h hx hy h9
  omega
 ·rw [hx] at hy
  rw [← Option.some.inj hy]
  exact hs
set_option maxHeartbeats 16000000 in
set_option maxRecDepth 100000 in
theorem bynum_any (x y : Po) (w : World) (hx : x.dg.length = 32) (hy : y.dg.length = 32) : Calls Try.prog 38 #[.agg (Po.cells x).toArray, .agg (Po.cells y).toArray] w fun e w' => e = .returned (.int .i64 (cmpI x.sq y.sq)) ∧ Below w.heap.size w w' := by
 have hbx := fun W => Try.box_po x hx W
 have hby := fun W => Try.box_po y hy W
 have X1 : Below w.heap.size w (w.alloc (.cells (Po.cells x).toArray tPo)) := below1_ w _
 have B1 : Blk (w.alloc (.cells (Po.cells x).toArray tPo)) w.heap.size tPo (Po.cells x) := Blk.fresh rfl rfl
 have X2 : Below (w.alloc (.cells (Po.cells x).toArray tPo)).heap.size (w.alloc (.cells (Po.cells x).toArray tPo)) ((w.alloc (.cells (Po.cells x).toArray tPo)).alloc (.cells (Po.cells y).toArray tPo)) := below1_ _ _
 have B2 : Blk ((w.alloc (.cells (Po.cells x).toArray tPo)).alloc (.cells (Po.cells y).toArray tPo)) (w.alloc (.cells (Po.cells x).toArray tPo)).heap.size tPo (Po.cells y) := Blk.fresh rfl rfl
 have kx : ((w.alloc (.cells (Po.cells x).toArray tPo)).alloc (.cells (Po.cells y).toArray tPo)).cell? ⟨w.heap.size, 0, none⟩ = some (.int .i64 x.sq) := (B1.through X2).cellAt rfl
 have ky : ((w.alloc (.cells (Po.cells x).toArray tPo)).alloc (.cells (Po.cells y).toArray tPo)).cell? ⟨w.heap.size + 1, 0, none⟩ = some (.int .i64 y.sq) := by
  have := B2.cellAt (i := 0) rfl
  rw [World.size_alloc] at this
  exact this
 have HX := Lib.hid (below_step X1 X2)
 clear hx hy X1 X2 B1 B2
 go_enter Try.func38, Try.ntmps38
 go_wp2_with (go_at_call 52; (with_reducible refine (compare_any _ _ _).mono ?_); rintro e w1 ⟨rfl, hw9⟩; have hw8 := hw9; clear hw9; subst hw8)
 go_ret
 exact ⟨rfl, HX.out⟩
set_option maxHeartbeats 16000000 in
set_option maxRecDepth 100000 in
theorem bsearch_any (x : Po) (l : List Po) (A : Option Addr) (k c : Nat) (w : World) (h : PosIn w A k l) (hx : x.dg.length = 32) (hr : Ris l) (hk : k ≤ 1000000) :
  Calls Try.prog 37 #[.slice A k c, .agg (Po.cells x).toArray, .func (.func 38) #[] #[]] w fun e w' => e = .returned (.tuple #[.int .i64 (befP x.sq l : Int), .bool (thP x.sq l)]) ∧ Below w.heap.size w w' := by
 have hbx := fun W => Try.box_po x hx W
 have HXl : Hid ((Po.cells x).length = 33) := Lib.hid (Po.cells_len x hx)
 have HXd := Lib.hid hx
 have X1 : Below w.heap.size w (w.alloc (.cells (Po.cells x).toArray tPo)) := below1_ w _
 have HBX : Hid (Blk (w.alloc (.cells (Po.cells x).toArray tPo)) w.heap.size tPo (Po.cells x)) := Lib.hid (Blk.fresh rfl rfl)
 have HX1 := Lib.hid X1
 have HI := Lib.hid (h.through X1)
 have HLn := Lib.hid h.len
 have HK := Lib.hid hk
 have HRi := Lib.hid hr
 clear h hx X1 hk hr
 go_enter Try.func37, Try.ntmps37
 go_wp2
 generalize (w.alloc (.cells (Po.cells x).toArray tPo)) = w4 at *
 go_loopw [9, 10] (fun iv jv wr => ∃ i j : Nat, iv = .int .i64 (i : Int) ∧ jv = .int .i64 (j : Int) ∧ i ≤ j ∧ j ≤ k ∧ BefP l x.sq i ∧ (∀ (m : Nat) (y : Po), j ≤ m → l[m]? = some y → x.sq ≤ y.sq) ∧ Below w4.heap.size w4 wr) (fun iv jv _ => (intOf jv).toNat - (intOf iv).toNat)
 case atStart => exact ⟨0, k, rfl, rfl, Nat.zero_le _, Nat.le_refl _, (fun j x h => absurd h (Nat.not_lt_zero _)), (fun m y hm hy => by rw [List.getElem?_eq_none (by rw [HLn.out]; exact hm)] at hy; cases hy), Below.refl _ _⟩
 case round =>
  obtain ⟨i, j, rfl, rfl, hij, hjk, hb, ha, hw⟩ := hrel
  have HBf := Lib.hid hb
  have HAf := Lib.hid ha
  have HW := Lib.hid hw
  have hjb : j ≤ 1000000 := by have := HK.out; omega
  clear hb ha hw
  have HBr : Hid (wr.rangeAt w.heap.size 0 (Po.cells x)) := Lib.hid (HBX.out.through HW.out).rng0
  by_cases hlt : i < j
  ·obtain ⟨h9, hh9⟩ : ∃ h9, (i + j) / 2 = h9 := ⟨_, rfl⟩
   have hlk : h9 < k := by omega
   have hli : i ≤ h9 := by omega
   have hlj : h9 < j := by omega
   obtain ⟨g0, o0, y, rfl, hy, _, _, hyd, hry⟩ := (HI.out.through HW.out).at hlk
   have HY := Lib.hid hy
   have HRy := Lib.hid hry
   have HYd := Lib.hid hyd
   have HYl : Hid ((Po.cells y).length = 33) := Lib.hid (Po.cells_len y hyd)
   have hix := fun (W : World) => Try.ix_po W g0 o0 k c h9 hlk
   have hwa : IntKind.i64.wrap ((i : Int) + (j : Int)) = ((i + j : Nat) : Int) := by rw [IntWalk.i64_in _ (by omega)]; omega
   have d0 : decide ((i : Int) < (j : Int)) = true := by simp; omega
   have e9 : ((i : Int) + (j : Int)) / 2 = (h9 : Int) := by omega
   have hwb : IntKind.i64.wrap ((h9 : Int) + 1) = ((h9 + 1 : Nat) : Int) := by rw [IntWalk.i64_in _ (by omega)]; omega
   have HM : Hid (i ≤ h9 ∧ h9 < j) := Lib.hid ⟨hli, hlj⟩
   clear hy hry hyd hh9 hli hlj
   obtain ⟨cv, hcv⟩ : ∃ cv, cmpI y.sq x.sq = cv := ⟨_, rfl⟩
   have HCv := Lib.hid hcv
   by_cases hs : y.sq < x.sq
   ·have dc : decide (cv < 0) = true := by rw [← hcv]; unfold cmpI; rw [if_pos hs]; rfl
    have HS := Lib.hid hs
    clear hs hcv
    go_upto_region 5 with fail
    refine wp_region_held_drew (S := fun W => Below wr.heap.size wr W) (by kernel_rfl) (Below.refl _ wr).drew (fun hHeld => ?_)
    change wpAnyH _ _ _ _ _ _ #[false, false, false, false, false, false, false, false] _ _
    refine tkq (i := 0) (d := 24) (v := (.func (.func 38) #[] #[])) rfl rfl (Or.inl ⟨by kernel_rfl, fun w hSw => ?_⟩) (by assumption) ?_
    ·(try dsimp only at hSw); go_simp <;> (try rfl)
    simp only [Act.put, sq1, sq2, sq3]
    refine tkq (i := 1) (d := 25) (v := (.slice (some ⟨g0, o0, none⟩) k c)) rfl rfl (Or.inl ⟨by kernel_rfl, fun w hSw => ?_⟩) (by assumption) ?_
    ·(try dsimp only at hSw); go_simp <;> (try rfl)
    simp only [Act.put, sq1, sq2, sq3]
    refine tkq (i := 2) (d := 26) (v := (.int .i64 (h9 : Int))) rfl rfl (Or.inl ⟨by kernel_rfl, fun w hSw => ?_⟩) (by assumption) ?_
    ·(try dsimp only at hSw); go_simp <;> (try rfl)
    simp only [Act.put, sq1, sq2, sq3]
    refine tkq (i := 3) (d := 27) (v := (.pointer (some ⟨g0, o0 + h9 * 33, none⟩))) rfl rfl (Or.inl ⟨by kernel_rfl, fun w hSw => ?_⟩) (by assumption) ?_
    ·(try dsimp only at hSw); go_simp <;> (try rfl)
    simp only [Act.put, sq1, sq2, sq3]
    refine tkq (i := 4) (d := 28) (v := (.agg (Po.cells y).toArray)) rfl rfl (yieldsIf_load_mid (by kernel_rfl) tPo (.tmp 27) rfl g0 (o0 + h9 * 33) (by simp [Act.eval]) (Po.cells y) _ (fun W hW => rangeAt.through HRy.out hW) Try.underlying31 rfl (by rw [HYl.out]; kernel_rfl)) (by assumption) ?_
    simp only [Act.put, sq1, sq2, sq3]
    refine tkq (i := 5) (d := 29) (v := (.agg (Po.cells x).toArray)) rfl rfl (yieldsIf_load_mid (by kernel_rfl) tPo (.tmp 4) rfl w.heap.size 0 (by simp [Act.eval]) (Po.cells x) _ (fun W hW => rangeAt.through HBr.out hW) Try.underlying31 rfl (by rw [HXl.out]; kernel_rfl)) (by assumption) ?_
    simp only [Act.put, sq1, sq2, sq3]
    refine wpAnyH_ready (rs := [6]) (by kernel_rfl) (by simp) ?_
    refine AllReadyH.cons rfl (fun K hK => ?_) AllReadyH.nil
    go_simp
    refine (bynum_any y x _ HYd.out HXd.out).mono ?_
    rintro e w9 ⟨rfl, hb9⟩; rw [HCv.out]; have HK9 := Lib.hid (below_step hHeld hb9); clear hb9
    go_wp2_with fail
    refine hK.out _ _ HK9.out (fun hHeld1 => ?_)
    clear hHeld hK K
    have hHeld := hHeld1
    clear hHeld1
    refine tkq (i := 7) (d := 31) (v := (.bool true)) rfl rfl (Or.inl ⟨by kernel_rfl, fun w hSw => ?_⟩) (by assumption) ?_
    ·(try dsimp only at hSw); go_simp <;> (try rfl)
    simp only [Act.put, sq1, sq2, sq3]
    refine wpAnyH_done (by kernel_rfl) ?_ _
    have HXe := Lib.hid (below_step HW.out hHeld)
    clear hHeld
    go_wp2
    go_roundw
    case rel => exact ⟨h9 + 1, j, rfl, rfl, by have := HM.out; omega, hjk, BefP_ris HRi.out HY.out HS.out, HAf.out, HXe.out⟩
    case measure => have := HM.out; simp [intOf]; omega
   ·have dc : decide (cv < 0) = false := by rw [← hcv]; unfold cmpI; rw [if_neg hs]; split <;> rfl
    have HS := Lib.hid (Int.not_lt.1 hs)
    clear hs hcv
    go_upto_region 5 with fail
    refine wp_region_held_drew (S := fun W => Below wr.heap.size wr W) (by kernel_rfl) (Below.refl _ wr).drew (fun hHeld => ?_)
    change wpAnyH _ _ _ _ _ _ #[false, false, false, false, false, false, false, false] _ _
    refine tkq (i := 0) (d := 24) (v := (.func (.func 38) #[] #[])) rfl rfl (Or.inl ⟨by kernel_rfl, fun w hSw => ?_⟩) (by assumption) ?_
    ·(try dsimp only at hSw); go_simp <;> (try rfl)
    simp only [Act.put, sq1, sq2, sq3]
    refine tkq (i := 1) (d := 25) (v := (.slice (some ⟨g0, o0, none⟩) k c)) rfl rfl (Or.inl ⟨by kernel_rfl, fun w hSw => ?_⟩) (by assumption) ?_
    ·(try dsimp only at hSw); go_simp <;> (try rfl)
    simp only [Act.put, sq1, sq2, sq3]
    refine tkq (i := 2) (d := 26) (v := (.int .i64 (h9 : Int))) rfl rfl (Or.inl ⟨by kernel_rfl, fun w hSw => ?_⟩) (by assumption) ?_
    ·(try dsimp only at hSw); go_simp <;> (try rfl)
    simp only [Act.put, sq1, sq2, sq3]
    refine tkq (i := 3) (d := 27) (v := (.pointer (some ⟨g0, o0 + h9 * 33, none⟩))) rfl rfl (Or.inl ⟨by kernel_rfl, fun w hSw => ?_⟩) (by assumption) ?_
    ·(try dsimp only at hSw); go_simp <;> (try rfl)
    simp only [Act.put, sq1, sq2, sq3]
    refine tkq (i := 4) (d := 28) (v := (.agg (Po.cells y).toArray)) rfl rfl (yieldsIf_load_mid (by kernel_rfl) tPo (.tmp 27) rfl g0 (o0 + h9 * 33) (by simp [Act.eval]) (Po.cells y) _ (fun W hW => rangeAt.through HRy.out hW) Try.underlying31 rfl (by rw [HYl.out]; kernel_rfl)) (by assumption) ?_
    simp only [Act.put, sq1, sq2, sq3]
    refine tkq (i := 5) (d := 29) (v := (.agg (Po.cells x).toArray)) rfl rfl (yieldsIf_load_mid (by kernel_rfl) tPo (.tmp 4) rfl w.heap.size 0 (by simp [Act.eval]) (Po.cells x) _ (fun W hW => rangeAt.through HBr.out hW) Try.underlying31 rfl (by rw [HXl.out]; kernel_rfl)) (by assumption) ?_
    simp only [Act.put, sq1, sq2, sq3]
    refine wpAnyH_ready (rs := [6]) (by kernel_rfl) (by simp) ?_
    refine AllReadyH.cons rfl (fun K hK => ?_) AllReadyH.nil
    go_simp
    refine (bynum_any y x _ HYd.out HXd.out).mono ?_
    rintro e w9 ⟨rfl, hb9⟩; rw [HCv.out]; have HK9 := Lib.hid (below_step hHeld hb9); clear hb9
    go_wp2_with fail
    refine hK.out _ _ HK9.out (fun hHeld1 => ?_)
    clear hHeld hK K
    have hHeld := hHeld1
    clear hHeld1
    refine tkq (i := 7) (d := 31) (v := (.bool false)) rfl rfl (Or.inl ⟨by kernel_rfl, fun w hSw => ?_⟩) (by assumption) ?_
    ·(try dsimp only at hSw); go_simp <;> (try rfl)
    simp only [Act.put, sq1, sq2, sq3]
    refine wpAnyH_done (by kernel_rfl) ?_ _
    have HXe := Lib.hid (below_step HW.out hHeld)
    clear hHeld
    go_wp2
    go_roundw
    case rel => exact ⟨i, h9, rfl, rfl, by have := HM.out; omega, by omega, HBf.out, aft_ris HRi.out HY.out HS.out, HXe.out⟩
    case measure => have := HM.out; simp [intOf]; omega
  ·obtain rfl : i = j := by omega
   clear hlt hij
   have HP : Hid (befP x.sq l = i) := Lib.hid (befP_is x.sq l i (by rw [HLn.out]; omega) HBf.out (fun y hy => by have := HAf.out i y (Nat.le_refl _) hy; omega))
   have d0 : decide ((i : Int) < (i : Int)) = false := by simp
   by_cases hik : i < k
   ·obtain ⟨g0, o0, y, rfl, hy, _, _, hyd, hry⟩ := (HI.out.through HW.out).at hik
    have HT := Lib.hid (thP_at HP.out hy)
    have HRy := Lib.hid hry
    have HYd := Lib.hid hyd
    have HYl : Hid ((Po.cells y).length = 33) := Lib.hid (Po.cells_len y hyd)
    have hix := fun (W : World) => Try.ix_po W g0 o0 k c i hik
    have d1 : decide ((i : Int) < (k : Int)) = true := by simp; omega
    obtain ⟨bq, hbq⟩ : ∃ bq, (y.sq == x.sq) = bq := ⟨_, rfl⟩
    rw [hbq] at HT
    obtain ⟨cv, hcv⟩ : ∃ cv, cmpI y.sq x.sq = cv := ⟨_, rfl⟩
    have HCv := Lib.hid hcv
    have dc : (cv == 0) = bq := by rw [← hcv, ← hbq]; exact cmpI_eq _ _
    clear hy hry hyd hbq hcv
    go_upto_region 8 with fail
    refine wp_region_held_drew (S := fun W => Below wr.heap.size wr W) (by kernel_rfl) (Below.refl _ wr).drew (fun hHeld => ?_)
    change wpAnyH _ _ _ _ _ _ #[false, false, false, false, false, false, false, false, false, false, false, false, false, false, false, false] _ _
    refine tkq (i := 0) (d := 35) (v := (.int .i64 (i : Int))) rfl rfl (Or.inl ⟨by kernel_rfl, fun w hSw => ?_⟩) (by assumption) ?_
    ·(try dsimp only at hSw); go_simp <;> (try rfl)
    simp only [Act.put, sq1, sq2, sq3]
    refine tkq (i := 1) (d := 36) (v := (.int .i64 (i : Int))) rfl rfl (Or.inl ⟨by kernel_rfl, fun w hSw => ?_⟩) (by assumption) ?_
    ·(try dsimp only at hSw); go_simp <;> (try rfl)
    simp only [Act.put, sq1, sq2, sq3]
    refine tkq (i := 2) (d := 37) (v := (.int .i64 (k : Int))) rfl rfl (Or.inl ⟨by kernel_rfl, fun w hSw => ?_⟩) (by assumption) ?_
    ·(try dsimp only at hSw); go_simp <;> (try rfl)
    simp only [Act.put, sq1, sq2, sq3]
    refine tkq (i := 3) (d := 38) (v := (.bool true)) rfl rfl (Or.inl ⟨by kernel_rfl, fun w hSw => ?_⟩) (by assumption) ?_
    ·(try dsimp only at hSw); go_simp <;> (try rfl)
    simp only [Act.put, sq1, sq2, sq3]
    refine tkq (i := 4) (d := 39) (v := (.bool true)) rfl rfl (Or.inl ⟨by kernel_rfl, fun w hSw => ?_⟩) (by assumption) ?_
    ·(try dsimp only at hSw); go_simp <;> (try rfl)
    simp only [Act.put, sq1, sq2, sq3]
    refine tkq (i := 5) (d := 40) (v := (.func (.func 38) #[] #[])) rfl rfl (Or.inl ⟨by kernel_rfl, fun w hSw => ?_⟩) (by assumption) ?_
    ·(try dsimp only at hSw); go_simp <;> (try rfl)
    simp only [Act.put, sq1, sq2, sq3]
    refine tkq (i := 6) (d := 41) (v := (.slice (some ⟨g0, o0, none⟩) k c)) rfl rfl (Or.inl ⟨by kernel_rfl, fun w hSw => ?_⟩) (by assumption) ?_
    ·(try dsimp only at hSw); go_simp <;> (try rfl)
    simp only [Act.put, sq1, sq2, sq3]
    refine tkq (i := 7) (d := 42) (v := (.int .i64 (i : Int))) rfl rfl (Or.inl ⟨by kernel_rfl, fun w hSw => ?_⟩) (by assumption) ?_
    ·(try dsimp only at hSw); go_simp <;> (try rfl)
    simp only [Act.put, sq1, sq2, sq3]
    refine tkq (i := 8) (d := 43) (v := (.pointer (some ⟨g0, o0 + i * 33, none⟩))) rfl rfl (Or.inl ⟨by kernel_rfl, fun w hSw => ?_⟩) (by assumption) ?_
    ·(try dsimp only at hSw); go_simp <;> (try rfl)
    simp only [Act.put, sq1, sq2, sq3]
    refine tkq (i := 9) (d := 44) (v := (.agg (Po.cells y).toArray)) rfl rfl (yieldsIf_load_mid (by kernel_rfl) tPo (.tmp 43) rfl g0 (o0 + i * 33) (by simp [Act.eval]) (Po.cells y) _ (fun W hW => rangeAt.through HRy.out hW) Try.underlying31 rfl (by rw [HYl.out]; kernel_rfl)) (by assumption) ?_
    simp only [Act.put, sq1, sq2, sq3]
    refine tkq (i := 10) (d := 45) (v := (.agg (Po.cells x).toArray)) rfl rfl (yieldsIf_load_mid (by kernel_rfl) tPo (.tmp 4) rfl w.heap.size 0 (by simp [Act.eval]) (Po.cells x) _ (fun W hW => rangeAt.through HBr.out hW) Try.underlying31 rfl (by rw [HXl.out]; kernel_rfl)) (by assumption) ?_
    simp only [Act.put, sq1, sq2, sq3]
    refine wpAnyH_ready (rs := [11]) (by kernel_rfl) (by simp) ?_
    refine AllReadyH.cons rfl (fun K hK => ?_) AllReadyH.nil
    go_simp
    refine (bynum_any y x _ HYd.out HXd.out).mono ?_
    rintro e w9 ⟨rfl, hb9⟩; rw [HCv.out]; have HK9 := Lib.hid (below_step hHeld hb9); clear hb9
    go_wp2_with fail
    refine hK.out _ _ HK9.out (fun hHeld1 => ?_)
    clear hHeld hK K
    have hHeld := hHeld1
    clear hHeld1
    refine tkq (i := 12) (d := 47) (v := (.bool bq)) rfl rfl (Or.inl ⟨by kernel_rfl, fun w hSw => ?_⟩) (by assumption) ?_
    ·(try dsimp only at hSw); go_simp <;> (try rfl)
    simp only [Act.put, sq1, sq2, sq3]
    refine tkq (i := 13) (d := 48) (v := (.bool bq)) rfl rfl (Or.inl ⟨by kernel_rfl, fun w hSw => ?_⟩) (by assumption) ?_
    ·(try dsimp only at hSw); go_simp <;> (try rfl)
    simp only [Act.put, sq1, sq2, sq3]
    refine tkq (i := 14) (d := 6) (v := (.int .i64 (i : Int))) rfl rfl (Or.inl ⟨by kernel_rfl, fun w hSw => ?_⟩) (by assumption) ?_
    ·(try dsimp only at hSw); go_simp <;> (try rfl)
    simp only [Act.put, sq1, sq2, sq3]
    refine tkq (i := 15) (d := 7) (v := (.bool bq)) rfl rfl (Or.inl ⟨by kernel_rfl, fun w hSw => ?_⟩) (by assumption) ?_
    ·(try dsimp only at hSw); go_simp <;> (try rfl)
    simp only [Act.put, sq1, sq2, sq3]
    refine wpAnyH_done (by kernel_rfl) ?_ _
    have HXe := Lib.hid (below_step (below_step HX1.out HW.out) hHeld)
    clear hHeld
    go_wp2
    go_ret2
    exact ⟨by rw [HP.out, HT.out]; first | rfl | done, HXe.out⟩
   ·obtain rfl : i = k := by omega
    have HT : Hid (thP x.sq l = false) := Lib.hid (thP_end (by rw [HP.out, HLn.out]))
    clear hik
    go_upto_region 8 with fail
    refine wp_region_held_drew (S := fun W => Below wr.heap.size wr W) (by kernel_rfl) (Below.refl _ wr).drew (fun hHeld => ?_)
    change wpAnyH _ _ _ _ _ _ #[false, false, false, false, false, false, false, false, false, false, false, false, false, false, false, false] _ _
    refine tkq (i := 0) (d := 35) (v := (.int .i64 (i : Int))) rfl rfl (Or.inl ⟨by kernel_rfl, fun w hSw => ?_⟩) (by assumption) ?_
    ·(try dsimp only at hSw); go_simp <;> (try rfl)
    simp only [Act.put, sq1, sq2, sq3]
    refine tkq (i := 1) (d := 36) (v := (.int .i64 (i : Int))) rfl rfl (Or.inl ⟨by kernel_rfl, fun w hSw => ?_⟩) (by assumption) ?_
    ·(try dsimp only at hSw); go_simp <;> (try rfl)
    simp only [Act.put, sq1, sq2, sq3]
    refine tkq (i := 2) (d := 37) (v := (.int .i64 (i : Int))) rfl rfl (Or.inl ⟨by kernel_rfl, fun w hSw => ?_⟩) (by assumption) ?_
    ·(try dsimp only at hSw); go_simp <;> (try rfl)
    simp only [Act.put, sq1, sq2, sq3]
    refine tkq (i := 3) (d := 38) (v := (.bool false)) rfl rfl (Or.inl ⟨by kernel_rfl, fun w hSw => ?_⟩) (by assumption) ?_
    ·(try dsimp only at hSw); go_simp <;> (try rfl)
    simp only [Act.put, sq1, sq2, sq3]
    refine tkq (i := 4) (d := 39) (v := (.bool false)) rfl rfl (Or.inl ⟨by kernel_rfl, fun w hSw => ?_⟩) (by assumption) ?_
    ·(try dsimp only at hSw); go_simp <;> (try rfl)
    simp only [Act.put, sq1, sq2, sq3]
    refine tkv (i := 5) (d := 40) rfl rfl (by assumption) ?_
    simp only [Act.put, sq1, sq2, sq3]
    refine tkv (i := 6) (d := 41) rfl rfl (by assumption) ?_
    simp only [Act.put, sq1, sq2, sq3]
    refine tkv (i := 7) (d := 42) rfl rfl (by assumption) ?_
    simp only [Act.put, sq1, sq2, sq3]
    refine tkv (i := 8) (d := 43) rfl rfl (by assumption) ?_
    simp only [Act.put, sq1, sq2, sq3]
    refine tkv (i := 9) (d := 44) rfl rfl (by assumption) ?_
    simp only [Act.put, sq1, sq2, sq3]
    refine tkv (i := 10) (d := 45) rfl rfl (by assumption) ?_
    simp only [Act.put, sq1, sq2, sq3]
    refine tkv (i := 11) (d := 46) rfl rfl (by assumption) ?_
    simp only [Act.put, sq1, sq2, sq3]
    refine tkv (i := 12) (d := 47) rfl rfl (by assumption) ?_
    simp only [Act.put, sq1, sq2, sq3]
    refine tkq (i := 13) (d := 48) (v := (.bool false)) rfl rfl (Or.inl ⟨by kernel_rfl, fun w hSw => ?_⟩) (by assumption) ?_
    ·(try dsimp only at hSw); go_simp <;> (try rfl)
    simp only [Act.put, sq1, sq2, sq3]
    refine tkq (i := 14) (d := 6) (v := (.int .i64 (i : Int))) rfl rfl (Or.inl ⟨by kernel_rfl, fun w hSw => ?_⟩) (by assumption) ?_
    ·(try dsimp only at hSw); go_simp <;> (try rfl)
    simp only [Act.put, sq1, sq2, sq3]
    refine tkq (i := 15) (d := 7) (v := (.bool false)) rfl rfl (Or.inl ⟨by kernel_rfl, fun w hSw => ?_⟩) (by assumption) ?_
    ·(try dsimp only at hSw); go_simp <;> (try rfl)
    simp only [Act.put, sq1, sq2, sq3]
    refine wpAnyH_done (by kernel_rfl) ?_ _
    have HXe := Lib.hid (below_step (below_step HX1.out HW.out) hHeld)
    clear hHeld
    go_wp2
    go_ret2
    exact ⟨by rw [HP.out, HT.out]; first | rfl | done, HXe.out⟩

end Go.Proofs.Ytpolofehkckaoaa
