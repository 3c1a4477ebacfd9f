/-
  OctetsPuts: the walk of the law.
-/
import Derived.Test.YtjjfleiebebblaaFixed
import Derived.Deep.RegionHeld3
import Derived.Outline
namespace Go.Proofs.Ytjjfleiebebblaa
open Go.RowKit

theorem str_by {w : World} {Q : Nat → Prop} {A : Option Addr} {n : Nat} {xs : List UInt8} (c : Nat) (h : By w Q A n xs) : (convert 22 9 (.slice A n c)).run Try.prog w = .ok (.string ⟨xs.toArray⟩) w :=
  run_string_by (P := Try.prog) w 22 9 5 Try.underlying22 Try.underlying5 Try.underlying9 Q A n c xs h

/-- What holds under a condition on the world holds under a stronger one that is kept. -/
theorem wpAnyH_weaken {P : Program} {md : Region.Mode} {ops : Array Oper} {Q : Exit → Act → World → Prop} {S S' : World → Prop} (h : ∀ w, S' w → S w) :
    ∀ (fuel : Nat) (listed : Array Bool) (a : Act) (w : World), wpAnyH P md ops Q S' fuel listed a w → wpAnyH P md ops Q S fuel listed a w
  | 0, _, _, _, hh => hh
  | fuel + 1, _, _, _, hh => ⟨hh.1, fun i hi => wpOp_mono (fun a w hk => ⟨h w hk.1, wpAnyH_weaken h fuel _ a w hk.2⟩) (hh.2 i hi)⟩

/-- Bytes, each of them a byte. -/
def AllB (zs : List Value) : Prop := ∀ z ∈ zs, ∃ x : Int, z = .int .u8 x ∧ 0 ≤ x ∧ x < 256
theorem AllB.vs (xs : List UInt8) : AllB (vs xs) := by
  intro z hz
  obtain ⟨b, _, rfl⟩ := List.mem_map.1 hz
  exact ⟨b.toNat, rfl, by omega, by have := b.toNat_lt; omega⟩
theorem AllB.set {zs : List Value} (h : AllB zs) (j : Nat) (x : Int) (h0 : 0 ≤ x) (h1 : x < 256) : AllB (zs.set j (.int .u8 x)) := by
  intro z hz
  rcases List.mem_or_eq_of_mem_set hz with h' | h'
  · exact h z h'
  · exact ⟨x, h', h0, h1⟩

set_option maxHeartbeats 4000000 in
theorem puts_walk (Q : Nat → Prop) (A : Option Addr) (n c : Nat) (xs : List UInt8) (v : Int) (hv0 : 0 ≤ v) (hv1 : v < 18446744073709551616) (k : Int) (Q2 : Nat → Prop) (B : Option Addr) (m d : Nat) (ys : List UInt8) (w : World)
    (h : By w Q A n xs) (h2 : By w Q2 B m ys) (hnc : n ≤ c) (hn : n ≤ 500) (hm : m ≤ 500) :
    Calls Try.prog 4 #[.slice A n c, .int .u64 v, .int .i64 k, .slice B m d] w fun e w' => e = .returned (.bool true) ∧ Below w.heap.size w w' := by
  obtain ⟨i0, hi, hz0, hz1, hz2⟩ := info_parts Try.info_u8
  have H := Lib.hid h
  have H2 := Lib.hid h2
  clear h h2
  have hg1 : decide (500 < (n : Int)) = false := by simp; omega
  have hg2 : decide (500 < (m : Int)) = false := by simp; omega
  have cPut : ∀ (Q : Nat → Prop) (A : Option Addr) (c : Nat) (W : World), n ≤ c → By W Q A n xs → Calls Try.prog 20 #[.slice A n c, .int .u64 v, .int .i64 k] W (Made W (putN n k) (putB xs v.toNat k)) := fun Q A c W hc hy => put_any Q A n c xs v k hv0 hv1 W hy (by omega) hc
  have cRPut : ∀ (Q : Nat → Prop) (A : Option Addr) (c : Nat) (W : World), By W Q A n xs → Calls Try.prog 23 #[.slice A n c, .int .u64 v, .int .i64 k] W (Made W (putN n k) (putB xs v.toNat k)) := fun Q A c W hy => rput_any Q A n c xs v k hv0 hv1 W hy (by omega)
  have cRow : ∀ (Q : Nat → Prop) (A : Option Addr) (c : Nat) (W : World), n ≤ c → By W Q A n xs → By W Q2 B m ys → Calls Try.prog 21 #[.slice A n c, .slice B m d] W (Made W (n + 4 + m) (xs ++ beB m 4 ++ ys)) := fun Q A c W hc hy hy2 => row_any Q A n c xs Q2 B m d ys W hy hy2 (by omega) (by omega) hc
  have cRRow : ∀ (Q : Nat → Prop) (A : Option Addr) (c : Nat) (W : World), By W Q A n xs → By W Q2 B m ys → Calls Try.prog 22 #[.slice A n c, .slice B m d] W (Made W (n + 4 + m) (xs ++ beB m 4 ++ ys)) := fun Q A c W hy hy2 => rrow_any Q A n c xs Q2 B m d ys W hy hy2 (by omega) (by omega)
  have hN : putN n k ≤ 600 := by
    unfold putN
    split
    · have := wid_iff.1 ‹_›; omega
    · omega
  generalize putB xs v.toNat k = X at cPut cRPut
  generalize putN n k = N at cPut cRPut hN
  generalize xs ++ beB m 4 ++ ys = Y at cRow cRRow
  generalize n + 4 + m = M at cRow cRRow
  have CPut := Lib.hid cPut
  have CRPut := Lib.hid cRPut
  have CRow := Lib.hid cRow
  have CRRow := Lib.hid cRRow
  clear cPut cRPut cRow cRRow
  go_enter Try.func4, Try.ntmps4
  go_wp2_with (first
    | (go_at_call 6; refine (fixed_ok _).mono ?_; rintro e w1 ⟨rfl, hb1⟩; have hs1 := str_by c (H.out.through hb1))
    | (at_make; refine wpList_make_own _ rfl _ _ 22 rfl w1.heap.size 5 i0 (.int .u8 0) 1 Try.underlying22 hi hz0 hz1 _ _ _ (n + 40) rfl rfl (by omega) (by rw [hz2]; omega) (by simp only [maxLen]; omega) (Nat.le_refl _) ?_; intro w2 hown2 hgrow2; have O2 := Lib.hid hown2; have G2 : Below w1.heap.size w1 w2 := (Below.refl _ w1).grown hgrow2 (Nat.le_refl _) (fun k h => by cases h); clear hown2 hgrow2)
    | (at_builtin; refine wpList_append_by _ rfl (.tmp 29) (.tmp 30) 22 rfl w1.heap.size i0 Try.underlying22 hi hz0 hz1 hz2 _ 0 [] rfl O2.out Q A n c xs rfl ((H.out.through hb1).through G2) (by omega) G2.size ?_; intro v3 w3 hown3 hgrow3 _; have G3 : Below w1.heap.size w1 w3 := G2.grown hgrow3 G2.size (fun g hg => (O2.out.lt g hg).1); clear hgrow3; simp only [Nat.zero_add, List.nil_append] at hown3; obtain ⟨R, cr, rfl, hcr, _⟩ := own_form hown3; have O3 := Lib.hid hown3; clear hown3)
    | (go_at_call 20; refine (CPut.out _ R cr _ hcr (By.of_own O3.out)).mono ?_; rintro e w4 ⟨v4, rfl, hown, hb⟩; obtain ⟨A4, c4, rfl, hc4, _, hA4, _⟩ := own_form hown; have O4 := Lib.hid hown; have G4 := Lib.hid hb; have HA4 := Lib.hid hA4; clear hown hb hA4)
    | (go_at_call 21; refine (CRow.out _ R cr _ hcr ((By.of_own O3.out).through G4.out) (((H2.out.through hb1).through G3).through G4.out)).mono ?_; rintro e w5 ⟨v5, rfl, hown, hb⟩; obtain ⟨A5, c5, rfl, hc5, _⟩ := own_form hown; have O5 := Lib.hid hown; have G5 := Lib.hid hb; clear hown hb))
  have O4' : w5.ownsRow w3.heap.size 5 1 (.slice A4 N c4) N (vs X) := O4.out.kept (row := none) ⟨G5.out.os, G5.out.tape, G5.out.output, G5.out.size, fun k hk _ => G5.out.block k hk⟩ (by cases h : (Value.slice A4 N c4).ownBlock <;> simp)
  have O45 := Lib.hid O4'
  clear O4'
  go_loopw [41] (fun i wr => ∃ (j : Nat) (zs : List Value), j ≤ N ∧ i = .int .i64 j ∧ AllB zs ∧ wr.ownsRow w3.heap.size 5 1 (.slice A4 N c4) N zs ∧ w5.grownBy wr (Value.slice A4 N c4).ownBlock) (fun i _ => N - (intOf i).toNat)
  case atStart => exact ⟨0, vs X, Nat.zero_le _, rfl, AllB.vs X, O45.out, World.grownBy.refl _ _⟩
  case round =>
    obtain ⟨j, zs, hj, rfl, hz, hown, hgr⟩ := hrel
    by_cases hlt : j < N
    · have hzl : zs.length = N := by have := hown.1; omega
      obtain ⟨x, hx, hx0, hx1⟩ := hz (zs[j]'(by omega)) (List.getElem_mem _)
      obtain ⟨g, rfl⟩ : ∃ g, A4 = some ⟨g, 0, none⟩ := by
        rcases hown.2 with ⟨_, h0⟩ | ⟨g, _, _, hv, _⟩
        · omega
        · injection hv with hA; exact ⟨g, hA⟩
      have hcell : wr.cell? ⟨g, j, none⟩ = some (.int .u8 x) := by rw [hown.cellAt j (by omega), List.getElem?_eq_getElem (by omega), hx]
      have hfr := hown.frozenAt j
      have HO := Lib.hid hown
      have HG := Lib.hid hgr
      have HZ := Lib.hid hz
      clear hown hgr hz hzl hx
      go_wp2
      go_roundw
      case rel => exact ⟨j + 1, zs.set j (.int .u8 ((x + 1) % 256)), by omega, by go_num, HZ.out.set j _ (by omega) (by omega), (HO.out.stored j _).1, only_trans (g := g) HG.out (HO.out.stored j _).2⟩
      case measure => simp [intOf]; omega
    · have L : Below w3.heap.size w5 wr := (Below.refl _ w5).grown hgr (Nat.le_trans G4.out.size G5.out.size) (fun g hg => (O45.out.lt g hg).1)
      have T : Below w3.heap.size w3 wr := (G4.out.trans (G5.out.mono G4.out.size)).trans L
      have B6 := Lib.hid (((H.out.through hb1).through G3).through T)
      have C6 := Lib.hid (((H2.out.through hb1).through G3).through T)
      have R6 := Lib.hid ((By.of_own O3.out).through T)
      have Y6 := Lib.hid ((By.of_own O5.out).keep (w' := wr) (fun g hg => hgr.block g hg.2.1 (fun e => by have := (O4.out.lt g e.symm).2; omega)))
      have W6 : Below w.heap.size w wr := (hb1.trans (G3.mono hb1.size)).trans (T.mono (Nat.le_trans hb1.size G3.size))
      clear hown hgr hz hs1 G3 L T hb1
      go_wp2_with fail
      refine wp_region_held_drew (S := fun W => (convert 22 9 (.slice A5 M c5)).run Try.prog W = .ok (.string ⟨Y.toArray⟩) W ∧ (convert 22 9 (.slice R n cr)).run Try.prog W = .ok (.string ⟨xs.toArray⟩) W ∧ (convert 22 9 (.slice A n c)).run Try.prog W = .ok (.string ⟨xs.toArray⟩) W) (by kernel_rfl) ⟨str_by c5 Y6.out.drew, str_by cr R6.out.drew, str_by c B6.out.drew⟩ (fun hHeld => ?_)
      change wpAnyH _ _ _ _ _ _ #[false, false, false, false, false, false, false, false, false, false, false, false, false, false, false, false, false, false, false, false, false, false, false, false, false, false, false, false, false, false, false, false, false] _ _
      refine wpAnyH_take (i := 0) (v := .slice A5 M c5) rfl (by kernel_rfl) (by kernel_rfl) (by kernel_rfl) (fun _ _ _ h => h) (Or.inl ⟨by kernel_rfl, fun w hSw => ?_⟩) (by assumption) ?_
      · (try dsimp only at hSw); go_simp
      simp only [Act.put, List.setIfInBounds_toArray, List.set_cons_zero]
      refine wpAnyH_take (i := 1) (v := .string ⟨Y.toArray⟩) rfl (by kernel_rfl) (by kernel_rfl) (by kernel_rfl) (fun _ _ _ h => h) (Or.inl ⟨by kernel_rfl, fun w hSw => ?_⟩) (by assumption) ?_
      · (try dsimp only at hSw); go_simp
      simp only [Act.put, List.setIfInBounds_toArray, List.set_cons_zero, List.set_cons_succ]
      refine wpAnyH_take (i := 2) (v := .slice A n c) rfl (by kernel_rfl) (by kernel_rfl) (by kernel_rfl) (fun _ _ _ h => h) (Or.inl ⟨by kernel_rfl, fun w hSw => ?_⟩) (by assumption) ?_
      · (try dsimp only at hSw); go_simp
      simp only [Act.put, List.setIfInBounds_toArray, List.set_cons_zero, List.set_cons_succ]
      refine wpAnyH_take (i := 3) (v := .slice B m d) rfl (by kernel_rfl) (by kernel_rfl) (by kernel_rfl) (fun _ _ _ h => h) (Or.inl ⟨by kernel_rfl, fun w hSw => ?_⟩) (by assumption) ?_
      · (try dsimp only at hSw); go_simp
      simp only [Act.put, List.setIfInBounds_toArray, List.set_cons_zero, List.set_cons_succ]
      refine wpAnyH_ready (rs := [4]) (by kernel_rfl) (by simp) ?_
      refine AllReadyH.cons rfl (fun K hK => ?_) AllReadyH.nil
      go_simp
      refine (CRRow.out _ A c _ B6.out.drew C6.out.drew).mono ?_
      rintro e w7 ⟨v7, rfl, hown, hb⟩; obtain ⟨A7, c7, rfl, _⟩ := own_form hown; have O7 := Lib.hid hown; have G7 := Lib.hid hb; clear hown hb
      go_wp2_with fail
      refine hK.out _ _ ⟨str_by c5 (Y6.out.drew.through G7.out), str_by cr (R6.out.drew.through G7.out), str_by c (B6.out.drew.through G7.out)⟩ (fun hHeld1 => ?_)
      refine wpAnyH_weaken (S' := fun W => ((convert 22 9 (.slice A5 M c5)).run Try.prog W = .ok (.string ⟨Y.toArray⟩) W ∧ (convert 22 9 (.slice R n cr)).run Try.prog W = .ok (.string ⟨xs.toArray⟩) W ∧ (convert 22 9 (.slice A n c)).run Try.prog W = .ok (.string ⟨xs.toArray⟩) W) ∧ (convert 22 9 (.slice A7 M c7)).run Try.prog W = .ok (.string ⟨Y.toArray⟩) W) (fun W h => h.1) _ _ _ _ ?_
      have hHeld2 : ((convert 22 9 (.slice A5 M c5)).run Try.prog w7 = .ok (.string ⟨Y.toArray⟩) w7 ∧ (convert 22 9 (.slice R n cr)).run Try.prog w7 = .ok (.string ⟨xs.toArray⟩) w7 ∧ (convert 22 9 (.slice A n c)).run Try.prog w7 = .ok (.string ⟨xs.toArray⟩) w7) ∧ (convert 22 9 (.slice A7 M c7)).run Try.prog w7 = .ok (.string ⟨Y.toArray⟩) w7 := ⟨hHeld1, str_by c7 (By.of_own O7.out)⟩
      clear hHeld hHeld1 hK K
      have hHeld := hHeld2
      clear hHeld2
      refine wpAnyH_take (i := 5) (v := .string ⟨Y.toArray⟩) rfl (by kernel_rfl) (by kernel_rfl) (by kernel_rfl) (fun _ _ _ h => h) (Or.inl ⟨by kernel_rfl, fun w hSw => ?_⟩) (by assumption) ?_
      · (try dsimp only at hSw); go_simp
      simp only [Act.put, List.setIfInBounds_toArray, List.set_cons_zero, List.set_cons_succ]
      refine wpAnyH_take (i := 6) (v := .bool true) rfl (by kernel_rfl) (by kernel_rfl) (by kernel_rfl) (fun _ _ _ h => h) (Or.inl ⟨by kernel_rfl, fun w hSw => ?_⟩) (by assumption) ?_
      · (try dsimp only at hSw); go_simp
      simp only [Act.put, List.setIfInBounds_toArray, List.set_cons_zero, List.set_cons_succ]
      refine wpAnyH_take (i := 7) (v := .bool true) rfl (by kernel_rfl) (by kernel_rfl) (by kernel_rfl) (fun _ _ _ h => h) (Or.inl ⟨by kernel_rfl, fun w hSw => ?_⟩) (by assumption) ?_
      · (try dsimp only at hSw); go_simp
      simp only [Act.put, List.setIfInBounds_toArray, List.set_cons_zero, List.set_cons_succ]
      refine wpAnyH_take (i := 8) (v := .slice A n c) rfl (by kernel_rfl) (by kernel_rfl) (by kernel_rfl) (fun _ _ _ h => h) (Or.inl ⟨by kernel_rfl, fun w hSw => ?_⟩) (by assumption) ?_
      · (try dsimp only at hSw); go_simp
      simp only [Act.put, List.setIfInBounds_toArray, List.set_cons_zero, List.set_cons_succ]
      refine wpAnyH_take (i := 9) (v := .int .u64 v) rfl (by kernel_rfl) (by kernel_rfl) (by kernel_rfl) (fun _ _ _ h => h) (Or.inl ⟨by kernel_rfl, fun w hSw => ?_⟩) (by assumption) ?_
      · (try dsimp only at hSw); go_simp
      simp only [Act.put, List.setIfInBounds_toArray, List.set_cons_zero, List.set_cons_succ]
      refine wpAnyH_take (i := 10) (v := .int .i64 k) rfl (by kernel_rfl) (by kernel_rfl) (by kernel_rfl) (fun _ _ _ h => h) (Or.inl ⟨by kernel_rfl, fun w hSw => ?_⟩) (by assumption) ?_
      · (try dsimp only at hSw); go_simp
      simp only [Act.put, List.setIfInBounds_toArray, List.set_cons_zero, List.set_cons_succ]
      refine wpAnyH_take (i := 13) (v := .slice A n c) rfl (by kernel_rfl) (by kernel_rfl) (by kernel_rfl) (fun _ _ _ h => h) (Or.inl ⟨by kernel_rfl, fun w hSw => ?_⟩) (by assumption) ?_
      · (try dsimp only at hSw); go_simp
      simp only [Act.put, List.setIfInBounds_toArray, List.set_cons_zero, List.set_cons_succ]
      refine wpAnyH_take (i := 14) (v := .int .u64 v) rfl (by kernel_rfl) (by kernel_rfl) (by kernel_rfl) (fun _ _ _ h => h) (Or.inl ⟨by kernel_rfl, fun w hSw => ?_⟩) (by assumption) ?_
      · (try dsimp only at hSw); go_simp
      simp only [Act.put, List.setIfInBounds_toArray, List.set_cons_zero, List.set_cons_succ]
      refine wpAnyH_take (i := 15) (v := .int .i64 k) rfl (by kernel_rfl) (by kernel_rfl) (by kernel_rfl) (fun _ _ _ h => h) (Or.inl ⟨by kernel_rfl, fun w hSw => ?_⟩) (by assumption) ?_
      · (try dsimp only at hSw); go_simp
      simp only [Act.put, List.setIfInBounds_toArray, List.set_cons_zero, List.set_cons_succ]
      refine wpAnyH_ready (rs := [11]) (by kernel_rfl) (by simp) ?_
      refine AllReadyH.cons rfl (fun K hK => ?_) AllReadyH.nil
      go_simp
      refine (CPut.out _ A c _ hnc (B6.out.drew.through G7.out)).mono ?_
      rintro e w8 ⟨v8, rfl, hown, hb⟩; obtain ⟨A8, c8, rfl, _⟩ := own_form hown; have O8 := Lib.hid hown; have G8 := Lib.hid hb; clear hown hb
      go_wp2_with fail
      refine hK.out _ _ ⟨⟨str_by c5 ((Y6.out.drew.through G7.out).through G8.out), str_by cr ((R6.out.drew.through G7.out).through G8.out), str_by c ((B6.out.drew.through G7.out).through G8.out)⟩, str_by c7 ((By.of_own O7.out).through G8.out)⟩ (fun hHeld1 => ?_)
      refine wpAnyH_weaken (S' := fun W => (((convert 22 9 (.slice A5 M c5)).run Try.prog W = .ok (.string ⟨Y.toArray⟩) W ∧ (convert 22 9 (.slice R n cr)).run Try.prog W = .ok (.string ⟨xs.toArray⟩) W ∧ (convert 22 9 (.slice A n c)).run Try.prog W = .ok (.string ⟨xs.toArray⟩) W) ∧ (convert 22 9 (.slice A7 M c7)).run Try.prog W = .ok (.string ⟨Y.toArray⟩) W) ∧ (convert 22 9 (.slice A8 N c8)).run Try.prog W = .ok (.string ⟨X.toArray⟩) W) (fun W h => h.1) _ _ _ _ ?_
      have hHeld2 : (((convert 22 9 (.slice A5 M c5)).run Try.prog w8 = .ok (.string ⟨Y.toArray⟩) w8 ∧ (convert 22 9 (.slice R n cr)).run Try.prog w8 = .ok (.string ⟨xs.toArray⟩) w8 ∧ (convert 22 9 (.slice A n c)).run Try.prog w8 = .ok (.string ⟨xs.toArray⟩) w8) ∧ (convert 22 9 (.slice A7 M c7)).run Try.prog w8 = .ok (.string ⟨Y.toArray⟩) w8) ∧ (convert 22 9 (.slice A8 N c8)).run Try.prog w8 = .ok (.string ⟨X.toArray⟩) w8 := ⟨hHeld1, str_by c8 (By.of_own O8.out)⟩
      clear hHeld hHeld1 hK K
      have hHeld := hHeld2
      clear hHeld2
      refine wpAnyH_take (i := 12) (v := .string ⟨X.toArray⟩) rfl (by kernel_rfl) (by kernel_rfl) (by kernel_rfl) (fun _ _ _ h => h) (Or.inl ⟨by kernel_rfl, fun w hSw => ?_⟩) (by assumption) ?_
      · (try dsimp only at hSw); go_simp
      simp only [Act.put, List.setIfInBounds_toArray, List.set_cons_zero, List.set_cons_succ]
      refine wpAnyH_ready (rs := [16]) (by kernel_rfl) (by simp) ?_
      refine AllReadyH.cons rfl (fun K hK => ?_) AllReadyH.nil
      go_simp
      refine (CRPut.out _ A c _ ((B6.out.drew.through G7.out).through G8.out)).mono ?_
      rintro e w9 ⟨v9, rfl, hown, hb⟩; obtain ⟨A9, c9, rfl, _⟩ := own_form hown; have O9 := Lib.hid hown; have G9 := Lib.hid hb; clear hown hb
      go_wp2_with fail
      refine hK.out _ _ ⟨⟨⟨str_by c5 (((Y6.out.drew.through G7.out).through G8.out).through G9.out), str_by cr (((R6.out.drew.through G7.out).through G8.out).through G9.out), str_by c (((B6.out.drew.through G7.out).through G8.out).through G9.out)⟩, str_by c7 (((By.of_own O7.out).through G8.out).through G9.out)⟩, str_by c8 ((By.of_own O8.out).through G9.out)⟩ (fun hHeld1 => ?_)
      refine wpAnyH_weaken (S' := fun W => ((((convert 22 9 (.slice A5 M c5)).run Try.prog W = .ok (.string ⟨Y.toArray⟩) W ∧ (convert 22 9 (.slice R n cr)).run Try.prog W = .ok (.string ⟨xs.toArray⟩) W ∧ (convert 22 9 (.slice A n c)).run Try.prog W = .ok (.string ⟨xs.toArray⟩) W) ∧ (convert 22 9 (.slice A7 M c7)).run Try.prog W = .ok (.string ⟨Y.toArray⟩) W) ∧ (convert 22 9 (.slice A8 N c8)).run Try.prog W = .ok (.string ⟨X.toArray⟩) W) ∧ (convert 22 9 (.slice A9 N c9)).run Try.prog W = .ok (.string ⟨X.toArray⟩) W) (fun W h => h.1) _ _ _ _ ?_
      have hHeld2 : ((((convert 22 9 (.slice A5 M c5)).run Try.prog w9 = .ok (.string ⟨Y.toArray⟩) w9 ∧ (convert 22 9 (.slice R n cr)).run Try.prog w9 = .ok (.string ⟨xs.toArray⟩) w9 ∧ (convert 22 9 (.slice A n c)).run Try.prog w9 = .ok (.string ⟨xs.toArray⟩) w9) ∧ (convert 22 9 (.slice A7 M c7)).run Try.prog w9 = .ok (.string ⟨Y.toArray⟩) w9) ∧ (convert 22 9 (.slice A8 N c8)).run Try.prog w9 = .ok (.string ⟨X.toArray⟩) w9) ∧ (convert 22 9 (.slice A9 N c9)).run Try.prog w9 = .ok (.string ⟨X.toArray⟩) w9 := ⟨hHeld1, str_by c9 (By.of_own O9.out)⟩
      clear hHeld hHeld1 hK K
      have hHeld := hHeld2
      clear hHeld2
      refine wpAnyH_take (i := 17) (v := .string ⟨X.toArray⟩) rfl (by kernel_rfl) (by kernel_rfl) (by kernel_rfl) (fun _ _ _ h => h) (Or.inl ⟨by kernel_rfl, fun w hSw => ?_⟩) (by assumption) ?_
      · (try dsimp only at hSw); go_simp
      simp only [Act.put, List.setIfInBounds_toArray, List.set_cons_zero, List.set_cons_succ]
      refine wpAnyH_take (i := 18) (v := .bool true) rfl (by kernel_rfl) (by kernel_rfl) (by kernel_rfl) (fun _ _ _ h => h) (Or.inl ⟨by kernel_rfl, fun w hSw => ?_⟩) (by assumption) ?_
      · (try dsimp only at hSw); go_simp
      simp only [Act.put, List.setIfInBounds_toArray, List.set_cons_zero, List.set_cons_succ]
      refine wpAnyH_take (i := 19) (v := .bool true) rfl (by kernel_rfl) (by kernel_rfl) (by kernel_rfl) (fun _ _ _ h => h) (Or.inl ⟨by kernel_rfl, fun w hSw => ?_⟩) (by assumption) ?_
      · (try dsimp only at hSw); go_simp
      simp only [Act.put, List.setIfInBounds_toArray, List.set_cons_zero, List.set_cons_succ]
      refine wpAnyH_take (i := 20) (v := .bool true) rfl (by kernel_rfl) (by kernel_rfl) (by kernel_rfl) (fun _ _ _ h => h) (Or.inl ⟨by kernel_rfl, fun w hSw => ?_⟩) (by assumption) ?_
      · (try dsimp only at hSw); go_simp
      simp only [Act.put, List.setIfInBounds_toArray, List.set_cons_zero, List.set_cons_succ]
      refine wpAnyH_take (i := 21) (v := .slice R n cr) rfl (by kernel_rfl) (by kernel_rfl) (by kernel_rfl) (fun _ _ _ h => h) (Or.inl ⟨by kernel_rfl, fun w hSw => ?_⟩) (by assumption) ?_
      · (try dsimp only at hSw); go_simp
      simp only [Act.put, List.setIfInBounds_toArray, List.set_cons_zero, List.set_cons_succ]
      refine wpAnyH_take (i := 22) (v := .string ⟨xs.toArray⟩) rfl (by kernel_rfl) (by kernel_rfl) (by kernel_rfl) (fun _ _ _ h => h) (Or.inl ⟨by kernel_rfl, fun w hSw => ?_⟩) (by assumption) ?_
      · (try dsimp only at hSw); go_simp
      simp only [Act.put, List.setIfInBounds_toArray, List.set_cons_zero, List.set_cons_succ]
      refine wpAnyH_take (i := 23) (v := .string ⟨xs.toArray⟩) rfl (by kernel_rfl) (by kernel_rfl) (by kernel_rfl) (fun _ _ _ h => h) (Or.inl ⟨by kernel_rfl, fun w hSw => ?_⟩) (by assumption) ?_
      · (try dsimp only at hSw); go_simp
      simp only [Act.put, List.setIfInBounds_toArray, List.set_cons_zero, List.set_cons_succ]
      refine wpAnyH_take (i := 24) (v := .bool true) rfl (by kernel_rfl) (by kernel_rfl) (by kernel_rfl) (fun _ _ _ h => h) (Or.inl ⟨by kernel_rfl, fun w hSw => ?_⟩) (by assumption) ?_
      · (try dsimp only at hSw); go_simp
      simp only [Act.put, List.setIfInBounds_toArray, List.set_cons_zero, List.set_cons_succ]
      refine wpAnyH_take (i := 25) (v := .bool true) rfl (by kernel_rfl) (by kernel_rfl) (by kernel_rfl) (fun _ _ _ h => h) (Or.inl ⟨by kernel_rfl, fun w hSw => ?_⟩) (by assumption) ?_
      · (try dsimp only at hSw); go_simp
      simp only [Act.put, List.setIfInBounds_toArray, List.set_cons_zero, List.set_cons_succ]
      refine wpAnyH_take (i := 26) (v := .bool true) rfl (by kernel_rfl) (by kernel_rfl) (by kernel_rfl) (fun _ _ _ h => h) (Or.inl ⟨by kernel_rfl, fun w hSw => ?_⟩) (by assumption) ?_
      · (try dsimp only at hSw); go_simp
      simp only [Act.put, List.setIfInBounds_toArray, List.set_cons_zero, List.set_cons_succ]
      refine wpAnyH_take (i := 27) (v := .slice A n c) rfl (by kernel_rfl) (by kernel_rfl) (by kernel_rfl) (fun _ _ _ h => h) (Or.inl ⟨by kernel_rfl, fun w hSw => ?_⟩) (by assumption) ?_
      · (try dsimp only at hSw); go_simp
      simp only [Act.put, List.setIfInBounds_toArray, List.set_cons_zero, List.set_cons_succ]
      refine wpAnyH_take (i := 28) (v := .string ⟨xs.toArray⟩) rfl (by kernel_rfl) (by kernel_rfl) (by kernel_rfl) (fun _ _ _ h => h) (Or.inl ⟨by kernel_rfl, fun w hSw => ?_⟩) (by assumption) ?_
      · (try dsimp only at hSw); go_simp
      simp only [Act.put, List.setIfInBounds_toArray, List.set_cons_zero, List.set_cons_succ]
      refine wpAnyH_take (i := 29) (v := .string ⟨xs.toArray⟩) rfl (by kernel_rfl) (by kernel_rfl) (by kernel_rfl) (fun _ _ _ h => h) (Or.inl ⟨by kernel_rfl, fun w hSw => ?_⟩) (by assumption) ?_
      · (try dsimp only at hSw); go_simp
      simp only [Act.put, List.setIfInBounds_toArray, List.set_cons_zero, List.set_cons_succ]
      refine wpAnyH_take (i := 30) (v := .bool true) rfl (by kernel_rfl) (by kernel_rfl) (by kernel_rfl) (fun _ _ _ h => h) (Or.inl ⟨by kernel_rfl, fun w hSw => ?_⟩) (by assumption) ?_
      · (try dsimp only at hSw); go_simp
      change wpAnyH _ _ _ _ _ _ _ (Act.put _ (some (81 : Nat)) (.bool true)) _
      simp only [Act.put, List.setIfInBounds_toArray, List.set_cons_zero, List.set_cons_succ]
      refine wpAnyH_take (i := 31) (v := .bool true) rfl (by kernel_rfl) (by kernel_rfl) (by kernel_rfl) (fun _ _ _ h => h) (Or.inl ⟨by kernel_rfl, fun w hSw => ?_⟩) (by assumption) ?_
      · (try dsimp only at hSw); go_simp
      change wpAnyH _ _ _ _ _ _ _ (Act.put _ (some (82 : Nat)) (.bool true)) _
      simp only [Act.put, List.setIfInBounds_toArray, List.set_cons_zero, List.set_cons_succ]
      refine wpAnyH_take (i := 32) (v := .bool true) rfl (by kernel_rfl) (by kernel_rfl) (by kernel_rfl) (fun _ _ _ h => h) (Or.inl ⟨by kernel_rfl, fun w hSw => ?_⟩) (by assumption) ?_
      · (try dsimp only at hSw); go_simp
      change wpAnyH _ _ _ _ _ _ _ (Act.put _ (some (8 : Nat)) (.bool true)) _
      simp only [Act.put, List.setIfInBounds_toArray, List.set_cons_zero, List.set_cons_succ]
      refine wpAnyH_done (by kernel_rfl) ?_ _
      go_wp2_with fail
      go_ret
      exact ⟨by simp, ((W6.drew.trans (G7.out.mono W6.size)).trans (G8.out.mono (Nat.le_trans W6.size G7.out.size))).trans (G9.out.mono (Nat.le_trans (Nat.le_trans W6.size G7.out.size) G8.out.size))⟩

end Go.Proofs.Ytjjfleiebebblaa
