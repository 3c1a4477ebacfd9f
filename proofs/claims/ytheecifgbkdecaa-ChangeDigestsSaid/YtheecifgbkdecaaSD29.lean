/-
  ClDg
-/
import Derived.Test.YtheecifgbkdecaaSD25
import Derived.Test.YtheecifgbkdecaaSD26
import Derived.Test.YtheecifgbkdecaaSD28
namespace Go.Proofs.Ytheecifgbkdecaa
open Go.RowKit

/-- what a book tells of a row of bytes, as of a change -/
def digX (xs : List UInt8) (ds : List DK) : List UInt8 := numB (kb 102) (ord (kb 102, xs) (also (kb 102, xs) ds))
theorem ord_two {x y : DK} (h : x ≠ y) : ord y (also y (also x [])) = 2 ∧ ord x (also x []) = 1 := by
  have e1 : also x ([] : List DK) = [x] := by rw [also_new (by simp)]; rfl
  rw [e1]
  refine ⟨?_, ?_⟩
  · rw [ord_new (by simp; exact fun h9 => h h9.symm)]; rfl
  · rw [show ([x] : List DK) = also x [] from e1.symm, ord_new (by simp)]; rfl
theorem ord_same (x : DK) : ord x (also x (also x [])) = ord x (also x []) := ord_also (mem_also x [])
theorem dig_eq (xs ys : List UInt8) (hx : xs.length = 32) (hy : ys.length = 32) (w : World) : (binOp .eql 40 (.agg (vs xs).toArray) (.agg (vs ys).toArray)).run Try.prog w = .ok (.bool (xs == ys)) w :=
  run_eql_bytes w 40 5 32 Try.underlying40 Try.underlying5 (by kernel_rfl) (by kernel_rfl) xs ys hx hy

theorem digX_eq (xs ys : List UInt8) : (digX xs [] == digX ys (also (kb 102, xs) [])) = decide (xs = ys) := by
  by_cases h : xs = ys
  · rw [decide_eq_true h]
    have e : digX ys (also (kb 102, xs) []) = digX xs [] := by unfold digX; rw [← h, ord_same]
    rw [e]
    simp
  · rw [decide_eq_false h]
    have hne : ((kb 102, xs) : DK) ≠ (kb 102, ys) := fun h9 => h (congrArg Prod.snd h9)
    obtain ⟨h1, h2⟩ := ord_two hne
    unfold digX
    rw [h1, h2]
    rw [beq_eq_false_iff_ne]
    intro h9
    have h8 := (numB_inj (by omega) (by omega)).1 h9
    omega
def DigestCW : Prop := ∀ (g : Nat) (ds : List DK) (c : Ch) (P Q R : Pl) (w : World), BS w g ds [] → ds.length ≤ 10 → ChIn w P Q R c → fewCh c = true → Calls Try.prog 19 #[.iface 37 (.pointer (some ⟨g, 0, none⟩)), .agg (Ch.cells c P Q R).toArray] w fun e w' => e = .returned (.agg (vs (digX (encCh c) ds)).toArray) ∧ BS w' g (also (kb 102, encCh c) ds) [] ∧ KF g w w'
/-- two changes that may be, and are few, are told apart by their bytes -/
theorem encCh_inj {a b : Ch} (fa : fewCh a = true) (fb : fewCh b = true) (ia : a.InR) (ib : b.InR) (da : ∀ p ∈ a.po, p.dg.length = 32) (db : ∀ p ∈ b.po, p.dg.length = 32) (ra : rightB a 4 = true) (rb : rightB b 4 = true) (h : encCh a = encCh b) : a = b := by
  have ca : chkCh a 4 = 0 := by unfold chkCh; rw [if_neg (by decide), if_pos ra]
  have cb : chkCh b 4 = 0 := by unfold chkCh; rw [if_neg (by decide), if_pos rb]
  have h1 := parse18_back fa ia da ca
  have h2 := parse18_back fb ib db cb
  rw [h, h2] at h1
  exact (Prod.mk.inj h1).1.symm

set_option maxHeartbeats 32000000 in
set_option maxRecDepth 100000 in
theorem changedigests_of (hfx : FixedC) (hsm : SameCW) (hdg : DigestCW) (a b : Ch) (P Q R P2 Q2 R2 : Pl) (w : World) (h : ChIn w P Q R a) (h' : ChIn w P2 Q2 R2 b) (hia : a.InR) (hib : b.InR) :
    Calls Try.prog 5 #[.agg (Ch.cells a P Q R).toArray, .agg (Ch.cells b P2 Q2 R2).toArray] w fun e w' => e = .returned (.bool true) ∧ Below w.heap.size w w' := by
  have HFx : Hid (∀ w : World, Calls Try.prog 8 #[] w fun e w' => e = .returned (.bool true) ∧ Below w.heap.size w w') := Lib.hid hfx
  have HI := Lib.hid h
  have HJ := Lib.hid h'
  have HXz : Hid (Below w.heap.size w ((w.alloc (.cells (Ch.cells a P Q R).toArray 25)).alloc (.cells (Ch.cells b P2 Q2 R2).toArray 25))) := Lib.hid ((below1_ w (.cells (Ch.cells a P Q R).toArray 25)).alloc (below1_ w (.cells (Ch.cells a P Q R).toArray 25)).size _)
  have KAz : Hid (Blk ((w.alloc (.cells (Ch.cells a P Q R).toArray 25)).alloc (.cells (Ch.cells b P2 Q2 R2).toArray 25)) w.heap.size 25 (Ch.cells a P Q R)) := Lib.hid ((Blk.fresh rfl rfl : Blk (w.alloc (.cells (Ch.cells a P Q R).toArray 25)) w.heap.size 25 (Ch.cells a P Q R)).alloc _)
  have KBz : Hid (Blk ((w.alloc (.cells (Ch.cells a P Q R).toArray 25)).alloc (.cells (Ch.cells b P2 Q2 R2).toArray 25)) (w.heap.size + 1) 25 (Ch.cells b P2 Q2 R2)) := Lib.hid (Blk.fresh (by simp) rfl)
  obtain ⟨fa, hfa⟩ : ∃ x, fewCh a = x := ⟨_, rfl⟩
  obtain ⟨fb, hfb⟩ : ∃ x, fewCh b = x := ⟨_, rfl⟩
  have HFa : Hid (∀ W : World, ChIn W P Q R a → Calls Try.prog 9 #[.agg (Ch.cells a P Q R).toArray] W fun e w' => e = .returned (.bool fa) ∧ Below W.heap.size W w') := Lib.hid (fun W h9 => hfa ▸ few18_any a P Q R W h9)
  have HFb : Hid (∀ W : World, ChIn W P2 Q2 R2 b → Calls Try.prog 9 #[.agg (Ch.cells b P2 Q2 R2).toArray] W fun e w' => e = .returned (.bool fb) ∧ Below W.heap.size W w') := Lib.hid (fun W h9 => hfb ▸ few18_any b P2 Q2 R2 W h9)
  cases fa with
  | false =>
    clear hfx hsm hdg h h' hia hib hfa hfb
    go_enter Try.func5, Try.ntmps5
    go_wp2_with (first
      | go_big_skip
      | (go_at_call 8; (with_reducible refine (HFx.out _).mono ?_); rintro e w1 ⟨rfl, hb1⟩; have HX1 := Lib.hid (below_step HXz.out hb1); have KA1 := Lib.hid (KAz.out.through hb1); have KB1 := Lib.hid (KBz.out.through hb1); clear hb1)
      | (refine wpList_load_blk rfl 25 (.tmp 2) rfl w.heap.size rfl 25 (Ch.cells a P Q R) _ KA1.out Try.underlying25 rfl (by kernel_rfl) ?_)
      | (go_at_call 9; (with_reducible refine (HFa.out _ (HI.out.through HX1.out)).mono ?_); rintro e w2 ⟨rfl, hb2⟩; have HX2 := Lib.hid (below_step HX1.out hb2); have KA2 := Lib.hid (KA1.out.through hb2); have KB2 := Lib.hid (KB1.out.through hb2); clear hb2))
    go_ret
    exact ⟨rfl, HX2.out⟩
  | true =>
  cases fb with
  | false =>
    clear hfx hsm hdg h h' hia hib hfa hfb
    go_enter Try.func5, Try.ntmps5
    go_wp2_with (first
      | go_big_skip
      | (go_at_call 8; (with_reducible refine (HFx.out _).mono ?_); rintro e w1 ⟨rfl, hb1⟩; have HX1 := Lib.hid (below_step HXz.out hb1); have KA1 := Lib.hid (KAz.out.through hb1); have KB1 := Lib.hid (KBz.out.through hb1); clear hb1)
      | (refine wpList_load_blk rfl 25 (.tmp 2) rfl w.heap.size rfl 25 (Ch.cells a P Q R) _ KA1.out Try.underlying25 rfl (by kernel_rfl) ?_)
      | (go_at_call 9; (with_reducible refine (HFa.out _ (HI.out.through HX1.out)).mono ?_); rintro e w2 ⟨rfl, hb2⟩; have HX2 := Lib.hid (below_step HX1.out hb2); have KA2 := Lib.hid (KA1.out.through hb2); have KB2 := Lib.hid (KB1.out.through hb2); clear hb2)
      | (refine wpList_load_blk_g 25 (.tmp 3) rfl (by kernel_rfl) (w.heap.size + 1) rfl 25 (Ch.cells b P2 Q2 R2) _ KB2.out Try.underlying25 rfl (by kernel_rfl) ?_)
      | (go_at_call 9; (with_reducible refine (HFb.out _ (HJ.out.through HX2.out)).mono ?_); rintro e w3 ⟨rfl, hb3⟩; have HX3 := Lib.hid (below_step HX2.out hb3); have KA3 := Lib.hid (KA2.out.through hb3); have KB3 := Lib.hid (KB2.out.through hb3); clear hb3))
    go_ret
    exact ⟨rfl, HX3.out⟩
  | true =>
  obtain ⟨sab, hsab⟩ : ∃ x, a.eqb b = x := ⟨_, rfl⟩
  obtain ⟨E, hE⟩ : ∃ x, decide (encCh a = encCh b) = x := ⟨_, rfl⟩
  obtain ⟨D1, hD1⟩ : ∃ D, also (kb 102, encCh a) ([] : List DK) = D := ⟨_, rfl⟩
  have hD1l : D1.length ≤ 10 := by rw [← hD1]; have := also_length (kb 102, encCh a) ([] : List DK); simp at this; omega
  obtain ⟨rX, hrX⟩ : ∃ r, r = vs (digX (encCh a) []) := ⟨_, rfl⟩
  obtain ⟨rY, hrY⟩ : ∃ r, r = vs (digX (encCh b) D1) := ⟨_, rfl⟩
  have heq : ∀ W, (binOp .eql 40 (.agg rX.toArray) (.agg rY.toArray)).run Try.prog W = .ok (.bool E) W := fun W => by
    have h9 := dig_eq (digX (encCh a) []) (digX (encCh b) D1) (numB_length _ _) (numB_length _ _) W
    rw [← hD1, digX_eq, hD1, hE] at h9
    rw [hrX, hrY]
    exact h9
  obtain ⟨f1, f2, _⟩ := fewCh_low hfa
  obtain ⟨f3, f4, _⟩ := fewCh_low hfb
  obtain ⟨ra, hra⟩ : ∃ x, rightB a 4 = x := ⟨_, rfl⟩
  obtain ⟨rb, hrb⟩ : ∃ x, rightB b 4 = x := ⟨_, rfl⟩
  have HRa : Hid (∀ W : World, ChIn W P Q R a → Calls Try.prog 20 #[.agg (Ch.cells a P Q R).toArray, .int .i64 4] W fun e w' => e = .returned (.bool ra) ∧ Below W.heap.size W w') := Lib.hid (fun W h9 => hra ▸ rright_any a P Q R 4 W h9 (fun p hp y hy => by have := (fewP_low (f1.2 p hp)).2 y hy; omega) (fun p hp y hy => by have := (fewP_low (f2.2 p hp)).2 y hy; omega))
  have HRb : Hid (∀ W : World, ChIn W P2 Q2 R2 b → Calls Try.prog 20 #[.agg (Ch.cells b P2 Q2 R2).toArray, .int .i64 4] W fun e w' => e = .returned (.bool rb) ∧ Below W.heap.size W w') := Lib.hid (fun W h9 => hrb ▸ rright_any b P2 Q2 R2 4 W h9 (fun p hp y hy => by have := (fewP_low (f3.2 p hp)).2 y hy; omega) (fun p hp y hy => by have := (fewP_low (f4.2 p hp)).2 y hy; omega))
  have HDa : Hid (∀ (W : World) (g : Nat), BS W g [] [] → ChIn W P Q R a → Calls Try.prog 19 #[.iface 37 (.pointer (some ⟨g, 0, none⟩)), .agg (Ch.cells a P Q R).toArray] W fun e w' => e = .returned (.agg rX.toArray) ∧ BS w' g D1 [] ∧ KF g W w') := Lib.hid (fun W g h8 h9 => by rw [hrX, ← hD1]; exact hdg g [] a P Q R W h8 (by simp) h9 hfa)
  have HDb : Hid (∀ (W : World) (g : Nat), BS W g D1 [] → ChIn W P2 Q2 R2 b → Calls Try.prog 19 #[.iface 37 (.pointer (some ⟨g, 0, none⟩)), .agg (Ch.cells b P2 Q2 R2).toArray] W fun e w' => e = .returned (.agg rY.toArray) ∧ KF g W w') := Lib.hid (fun W g h8 h9 => by rw [hrY]; exact (hdg g D1 b P2 Q2 R2 W h8 hD1l h9 hfb).mono fun _ _ h => ⟨h.1, h.2.2⟩)
  have HRs : Hid (∀ W : World, ChIn W P Q R a → ChIn W P2 Q2 R2 b → Calls Try.prog 15 #[.agg (Ch.cells a P Q R).toArray, .agg (Ch.cells b P2 Q2 R2).toArray] W fun e w' => e = .returned (.bool sab) ∧ Below W.heap.size W w') := Lib.hid (fun W h8 h9 => hsab ▸ rsame18_any a b P Q R P2 Q2 R2 W h8 h9)
  have HSm : Hid (∀ W : World, ChIn W P Q R a → ChIn W P2 Q2 R2 b → Calls Try.prog 18 #[.agg (Ch.cells a P Q R).toArray, .agg (Ch.cells b P2 Q2 R2).toArray] W fun e w' => e = .returned (.bool sab) ∧ Below W.heap.size W w') := Lib.hid (fun W h8 h9 => hsab ▸ hsm a b P Q R P2 Q2 R2 W h8 h9 hfa hfb)
  have HsE : Hid (sab = true → E = true) := Lib.hid (fun h9 => by
    rw [h9] at hsab
    rw [← hE, Ch.eqb_iff.1 hsab]
    exact decide_eq_true rfl)
  have Hok : Hid (ra = true → rb = true → E = sab) := Lib.hid (fun h8 h9 => by
    cases hs : sab with
    | true => exact HsE.out hs
    | false =>
      rw [← hE]
      refine decide_eq_false fun h7 => ?_
      have h6 := encCh_inj hfa hfb hia hib h.1.1.2 h'.1.1.2 (hra.trans h8) (hrb.trans h9) h7
      rw [h6, Ch.eqb_self, hs] at hsab
      cases hsab)
  clear hfx hsm hdg h h' hia hib hfa hfb hsab hE hD1 hD1l hrX hrY f1 f2 f3 f4 hra hrb
  go_enter Try.func5, Try.ntmps5
  go_wp2_with (first
    | go_big_skip
    | (go_at_call 8; (with_reducible refine (HFx.out _).mono ?_); rintro e w1 ⟨rfl, hb1⟩; have HX1 := Lib.hid (below_step HXz.out hb1); have KA1 := Lib.hid (KAz.out.through hb1); have KB1 := Lib.hid (KBz.out.through hb1); clear hb1)
    | (refine wpList_load_blk rfl 25 (.tmp 2) rfl w.heap.size rfl 25 (Ch.cells a P Q R) _ KA1.out Try.underlying25 rfl (by kernel_rfl) ?_)
    | (go_at_call 9; (with_reducible refine (HFa.out _ (HI.out.through HX1.out)).mono ?_); rintro e w2 ⟨rfl, hb2⟩; have HX2 := Lib.hid (below_step HX1.out hb2); have KA2 := Lib.hid (KA1.out.through hb2); have KB2 := Lib.hid (KB1.out.through hb2); clear hb2)
    | (refine wpList_load_blk_g 25 (.tmp 3) rfl (by kernel_rfl) (w.heap.size + 1) rfl 25 (Ch.cells b P2 Q2 R2) _ KB2.out Try.underlying25 rfl (by kernel_rfl) ?_)
    | (go_at_call 9; (with_reducible refine (HFb.out _ (HJ.out.through HX2.out)).mono ?_); rintro e w3 ⟨rfl, hb3⟩; have HX3 := Lib.hid (below_step HX2.out hb3); have KA3 := Lib.hid (KA2.out.through hb3); have KB3 := Lib.hid (KB2.out.through hb3); clear hb3)
    | (go_at_call 17; (with_reducible refine (bnew_any _).mono ?_); rintro e w4 ⟨rfl, hs4, hb4⟩; have HL3 : Hid (w.heap.size + 1 < w3.heap.size) := Lib.hid KB3.out.lt; have HS4 := Lib.hid hs4; have HX4 := Lib.hid (below_step HX3.out hb4); have KA4 := Lib.hid (KA3.out.through hb4); have KB4 := Lib.hid (KB3.out.through hb4); clear hs4 hb4)
    | (refine wpList_load_blk rfl 25 (.tmp 2) rfl w.heap.size rfl 25 (Ch.cells a P Q R) _ KA4.out Try.underlying25 rfl (by kernel_rfl) ?_)
    | (refine wpList_load_blk rfl 25 (.tmp 3) rfl (w.heap.size + 1) rfl 25 (Ch.cells b P2 Q2 R2) _ KB4.out Try.underlying25 rfl (by kernel_rfl) ?_)
    | (go_at_call 15; (with_reducible refine (HRs.out _ (HI.out.through HX4.out) (HJ.out.through HX4.out)).mono ?_); rintro e w5 ⟨rfl, hb5⟩; have HX5 := Lib.hid (below_step HX4.out hb5); have KA5 := Lib.hid (KA4.out.through hb5); have KB5 := Lib.hid (KB4.out.through hb5); have HS5 := Lib.hid (HS4.out.through hb5); clear hb5)
    | (refine wpList_load_blk rfl 25 (.tmp 2) rfl w.heap.size rfl 25 (Ch.cells a P Q R) _ KA5.out Try.underlying25 rfl (by kernel_rfl) ?_)
    | (refine wpList_load_blk rfl 25 (.tmp 3) rfl (w.heap.size + 1) rfl 25 (Ch.cells b P2 Q2 R2) _ KB5.out Try.underlying25 rfl (by kernel_rfl) ?_)
    | (go_at_call 18; (with_reducible refine (HSm.out _ (HI.out.through HX5.out) (HJ.out.through HX5.out)).mono ?_); rintro e w6 ⟨rfl, hb6⟩; have HX6 := Lib.hid (below_step HX5.out hb6); have KA6 := Lib.hid (KA5.out.through hb6); have KB6 := Lib.hid (KB5.out.through hb6); have HS6 := Lib.hid (HS5.out.through hb6); clear hb6))
  try dsimp only [Act.put]
  refine wp_region_held_drew (S := fun W => Blk W w.heap.size 25 (Ch.cells a P Q R) ∧ Blk W (w.heap.size + 1) 25 (Ch.cells b P2 Q2 R2)) (by kernel_rfl) ⟨KA6.out.drew, KB6.out.drew⟩ (fun hHeld => ?_)
  change wpAnyH _ _ _ _ _ _ #[false, false, false, false, false, false, false, false, false, false] _ _
  refine wpAnyH_take (i := 0) (v := (.pointer (some ⟨w3.heap.size, 0, none⟩))) rfl (by kernel_rfl) (by kernel_rfl) (by kernel_rfl) (fun _ _ _ h => h) (Or.inl ⟨by kernel_rfl, fun w hSw => ?_⟩) (by assumption) ?_
  · (try dsimp only at hSw); go_simp <;> (try rfl)
  change wpAnyH _ _ _ _ _ _ _ (Act.put _ (some (27 : Nat)) (.pointer (some ⟨w3.heap.size, 0, none⟩))) _
  simp only [Act.put, List.setIfInBounds_toArray, List.set_cons_zero, List.set_cons_succ]
  refine wpAnyH_take (i := 1) (v := (.iface 37 (.pointer (some ⟨w3.heap.size, 0, none⟩)))) rfl (by kernel_rfl) (by kernel_rfl) (by kernel_rfl) (fun _ _ _ h => h) (Or.inl ⟨by kernel_rfl, fun w hSw => ?_⟩) (by assumption) ?_
  · (try dsimp only at hSw); go_simp <;> (try rfl)
  change wpAnyH _ _ _ _ _ _ _ (Act.put _ (some (28 : Nat)) (.iface 37 (.pointer (some ⟨w3.heap.size, 0, none⟩)))) _
  simp only [Act.put, List.setIfInBounds_toArray, List.set_cons_zero, List.set_cons_succ]
  refine wpAnyH_take (i := 2) (v := (.agg (Ch.cells a P Q R).toArray)) rfl (by kernel_rfl) (by kernel_rfl) (by kernel_rfl) (fun _ _ _ h => h) (yieldsIf_load_mid (by kernel_rfl) 25 (.tmp 2) rfl w.heap.size 0 (by simp [Act.eval]) (Ch.cells a P Q R) _ (fun W hW => Blk.whole_ hW.1) Try.underlying25 rfl (by kernel_rfl)) (by assumption) ?_
  change wpAnyH _ _ _ _ _ _ _ (Act.put _ (some (29 : Nat)) (.agg (Ch.cells a P Q R).toArray)) _
  simp only [Act.put, List.setIfInBounds_toArray, List.set_cons_zero, List.set_cons_succ]
  refine wpAnyH_take (i := 4) (v := (.pointer (some ⟨w3.heap.size, 0, none⟩))) rfl (by kernel_rfl) (by kernel_rfl) (by kernel_rfl) (fun _ _ _ h => h) (Or.inl ⟨by kernel_rfl, fun w hSw => ?_⟩) (by assumption) ?_
  · (try dsimp only at hSw); go_simp <;> (try rfl)
  change wpAnyH _ _ _ _ _ _ _ (Act.put _ (some (31 : Nat)) (.pointer (some ⟨w3.heap.size, 0, none⟩))) _
  simp only [Act.put, List.setIfInBounds_toArray, List.set_cons_zero, List.set_cons_succ]
  refine wpAnyH_take (i := 5) (v := (.iface 37 (.pointer (some ⟨w3.heap.size, 0, none⟩)))) rfl (by kernel_rfl) (by kernel_rfl) (by kernel_rfl) (fun _ _ _ h => h) (Or.inl ⟨by kernel_rfl, fun w hSw => ?_⟩) (by assumption) ?_
  · (try dsimp only at hSw); go_simp <;> (try rfl)
  change wpAnyH _ _ _ _ _ _ _ (Act.put _ (some (32 : Nat)) (.iface 37 (.pointer (some ⟨w3.heap.size, 0, none⟩)))) _
  simp only [Act.put, List.setIfInBounds_toArray, List.set_cons_zero, List.set_cons_succ]
  refine wpAnyH_take (i := 6) (v := (.agg (Ch.cells b P2 Q2 R2).toArray)) rfl (by kernel_rfl) (by kernel_rfl) (by kernel_rfl) (fun _ _ _ h => h) (yieldsIf_load_mid (by kernel_rfl) 25 (.tmp 3) rfl (w.heap.size + 1) 0 (by simp [Act.eval]) (Ch.cells b P2 Q2 R2) _ (fun W hW => Blk.whole_ hW.2) Try.underlying25 rfl (by kernel_rfl)) (by assumption) ?_
  change wpAnyH _ _ _ _ _ _ _ (Act.put _ (some (33 : Nat)) (.agg (Ch.cells b P2 Q2 R2).toArray)) _
  simp only [Act.put, List.setIfInBounds_toArray, List.set_cons_zero, List.set_cons_succ]
  refine wpAnyH_ready (rs := [3]) (by kernel_rfl) (by simp) ?_
  refine AllReadyH.cons rfl (fun K hK => ?_) AllReadyH.nil
  go_simp
  refine (HDa.out _ _ HS6.out.drew (HI.out.through HX6.out.drew)).mono ?_
  rintro e x1 ⟨rfl, hs7, hk7⟩; have HS7 := Lib.hid hs7; have hlow7 := hk7.low; have HX7 := Lib.hid (HX6.out.drew.trans (hk7.low.mono HX3.out.size)); have KA7 : Hid (Blk x1 w.heap.size 25 (Ch.cells a P Q R)) := Lib.hid ((hlow7.block _ (by have := HL3.out; omega)).trans KA6.out); have KB7 : Hid (Blk x1 (w.heap.size + 1) 25 (Ch.cells b P2 Q2 R2)) := Lib.hid ((hlow7.block _ (by have := HL3.out; omega)).trans KB6.out); clear hs7 hk7 hlow7
  go_wp2_with fail
  refine hK.out _ _ ⟨KA7.out, KB7.out⟩ (fun hHeld1 => ?_)
  clear hHeld hK K
  have hHeld := hHeld1
  clear hHeld1
  refine wpAnyH_ready (rs := [7]) (by kernel_rfl) (by simp) ?_
  refine AllReadyH.cons rfl (fun K hK => ?_) AllReadyH.nil
  go_simp
  refine (HDb.out _ _ HS7.out (HJ.out.through HX7.out)).mono ?_
  rintro e x2 ⟨rfl, hk8⟩; have hlow8 := hk8.low; have HX8 := Lib.hid (HX7.out.trans (hk8.low.mono HX3.out.size)); have KA8 : Hid (Blk x2 w.heap.size 25 (Ch.cells a P Q R)) := Lib.hid ((hlow8.block _ (by have := HL3.out; omega)).trans KA7.out); have KB8 : Hid (Blk x2 (w.heap.size + 1) 25 (Ch.cells b P2 Q2 R2)) := Lib.hid ((hlow8.block _ (by have := HL3.out; omega)).trans KB7.out); clear hk8 hlow8
  go_wp2_with fail
  refine hK.out _ _ ⟨KA8.out, KB8.out⟩ (fun hHeld1 => ?_)
  clear hHeld hK K
  have hHeld := hHeld1
  clear hHeld1
  refine wpAnyH_take (i := 8) (v := (.bool E)) rfl (by kernel_rfl) (by kernel_rfl) (by kernel_rfl) (fun _ _ _ h => h) (Or.inl ⟨by kernel_rfl, fun w hSw => ?_⟩) (by assumption) ?_
  · (try dsimp only at hSw); go_simp <;> (try rfl)
  change wpAnyH _ _ _ _ _ _ _ (Act.put _ (some (35 : Nat)) (.bool E)) _
  simp only [Act.put, List.setIfInBounds_toArray, List.set_cons_zero, List.set_cons_succ]
  refine wpAnyH_take (i := 9) (v := (.bool E)) rfl (by kernel_rfl) (by kernel_rfl) (by kernel_rfl) (fun _ _ _ h => h) (Or.inl ⟨by kernel_rfl, fun w hSw => ?_⟩) (by assumption) ?_
  · (try dsimp only at hSw); go_simp <;> (try rfl)
  change wpAnyH _ _ _ _ _ _ _ (Act.put _ (some (7 : Nat)) (.bool E)) _
  simp only [Act.put, List.setIfInBounds_toArray, List.set_cons_zero, List.set_cons_succ]
  refine wpAnyH_done (by kernel_rfl) ?_ _
  clear hHeld
  cases ra with
  | false =>
    cases sab with
    | false =>
      go_wp2_with (first
        | go_big_skip
        | (refine wpList_load_blk rfl 25 (.tmp 2) rfl w.heap.size rfl 25 (Ch.cells a P Q R) _ KA8.out Try.underlying25 rfl (by kernel_rfl) ?_)
        | (go_at_call 20; (with_reducible refine (HRa.out _ (HI.out.through HX8.out)).mono ?_); rintro e w9 ⟨rfl, hb9⟩; have HX9 := Lib.hid (below_step HX8.out hb9); have KA9 := Lib.hid (KA8.out.through hb9); have KB9 := Lib.hid (KB8.out.through hb9); clear hb9))
      go_ret
      exact ⟨rfl, HX9.out⟩
    | true =>
      obtain rfl : E = true := HsE.out rfl
      go_wp2_with (first
        | go_big_skip
        | (refine wpList_load_blk rfl 25 (.tmp 2) rfl w.heap.size rfl 25 (Ch.cells a P Q R) _ KA8.out Try.underlying25 rfl (by kernel_rfl) ?_)
        | (go_at_call 20; (with_reducible refine (HRa.out _ (HI.out.through HX8.out)).mono ?_); rintro e w9 ⟨rfl, hb9⟩; have HX9 := Lib.hid (below_step HX8.out hb9); have KA9 := Lib.hid (KA8.out.through hb9); have KB9 := Lib.hid (KB8.out.through hb9); clear hb9))
      go_ret
      exact ⟨rfl, HX9.out⟩
  | true =>
    cases rb with
    | false =>
      cases sab with
      | false =>
        go_wp2_with (first
          | go_big_skip
          | (refine wpList_load_blk rfl 25 (.tmp 2) rfl w.heap.size rfl 25 (Ch.cells a P Q R) _ KA8.out Try.underlying25 rfl (by kernel_rfl) ?_)
          | (go_at_call 20; (with_reducible refine (HRa.out _ (HI.out.through HX8.out)).mono ?_); rintro e w9 ⟨rfl, hb9⟩; have HX9 := Lib.hid (below_step HX8.out hb9); have KA9 := Lib.hid (KA8.out.through hb9); have KB9 := Lib.hid (KB8.out.through hb9); clear hb9)
          | (refine wpList_load_blk_g 25 (.tmp 3) rfl (by kernel_rfl) (w.heap.size + 1) rfl 25 (Ch.cells b P2 Q2 R2) _ KB9.out Try.underlying25 rfl (by kernel_rfl) ?_)
          | (go_at_call 20; (with_reducible refine (HRb.out _ (HJ.out.through HX9.out)).mono ?_); rintro e w10 ⟨rfl, hb10⟩; have HX10 := Lib.hid (below_step HX9.out hb10); have KA10 := Lib.hid (KA9.out.through hb10); have KB10 := Lib.hid (KB9.out.through hb10); clear hb10))
        go_ret
        exact ⟨rfl, HX10.out⟩
      | true =>
        obtain rfl : E = true := HsE.out rfl
        go_wp2_with (first
          | go_big_skip
          | (refine wpList_load_blk rfl 25 (.tmp 2) rfl w.heap.size rfl 25 (Ch.cells a P Q R) _ KA8.out Try.underlying25 rfl (by kernel_rfl) ?_)
          | (go_at_call 20; (with_reducible refine (HRa.out _ (HI.out.through HX8.out)).mono ?_); rintro e w9 ⟨rfl, hb9⟩; have HX9 := Lib.hid (below_step HX8.out hb9); have KA9 := Lib.hid (KA8.out.through hb9); have KB9 := Lib.hid (KB8.out.through hb9); clear hb9)
          | (refine wpList_load_blk_g 25 (.tmp 3) rfl (by kernel_rfl) (w.heap.size + 1) rfl 25 (Ch.cells b P2 Q2 R2) _ KB9.out Try.underlying25 rfl (by kernel_rfl) ?_)
          | (go_at_call 20; (with_reducible refine (HRb.out _ (HJ.out.through HX9.out)).mono ?_); rintro e w10 ⟨rfl, hb10⟩; have HX10 := Lib.hid (below_step HX9.out hb10); have KA10 := Lib.hid (KA9.out.through hb10); have KB10 := Lib.hid (KB9.out.through hb10); clear hb10))
        go_ret
        exact ⟨rfl, HX10.out⟩
    | true =>
      have hes : E = sab := Hok.out rfl rfl
      subst hes
      cases E with
      | false =>
        go_wp2_with (first
          | go_big_skip
          | (refine wpList_load_blk rfl 25 (.tmp 2) rfl w.heap.size rfl 25 (Ch.cells a P Q R) _ KA8.out Try.underlying25 rfl (by kernel_rfl) ?_)
          | (go_at_call 20; (with_reducible refine (HRa.out _ (HI.out.through HX8.out)).mono ?_); rintro e w9 ⟨rfl, hb9⟩; have HX9 := Lib.hid (below_step HX8.out hb9); have KA9 := Lib.hid (KA8.out.through hb9); have KB9 := Lib.hid (KB8.out.through hb9); clear hb9)
          | (refine wpList_load_blk_g 25 (.tmp 3) rfl (by kernel_rfl) (w.heap.size + 1) rfl 25 (Ch.cells b P2 Q2 R2) _ KB9.out Try.underlying25 rfl (by kernel_rfl) ?_)
          | (go_at_call 20; (with_reducible refine (HRb.out _ (HJ.out.through HX9.out)).mono ?_); rintro e w10 ⟨rfl, hb10⟩; have HX10 := Lib.hid (below_step HX9.out hb10); have KA10 := Lib.hid (KA9.out.through hb10); have KB10 := Lib.hid (KB9.out.through hb10); clear hb10))
        go_ret
        exact ⟨rfl, HX10.out⟩
      | true =>
        go_wp2_with (first
          | go_big_skip
          | (refine wpList_load_blk rfl 25 (.tmp 2) rfl w.heap.size rfl 25 (Ch.cells a P Q R) _ KA8.out Try.underlying25 rfl (by kernel_rfl) ?_)
          | (go_at_call 20; (with_reducible refine (HRa.out _ (HI.out.through HX8.out)).mono ?_); rintro e w9 ⟨rfl, hb9⟩; have HX9 := Lib.hid (below_step HX8.out hb9); have KA9 := Lib.hid (KA8.out.through hb9); have KB9 := Lib.hid (KB8.out.through hb9); clear hb9)
          | (refine wpList_load_blk_g 25 (.tmp 3) rfl (by kernel_rfl) (w.heap.size + 1) rfl 25 (Ch.cells b P2 Q2 R2) _ KB9.out Try.underlying25 rfl (by kernel_rfl) ?_)
          | (go_at_call 20; (with_reducible refine (HRb.out _ (HJ.out.through HX9.out)).mono ?_); rintro e w10 ⟨rfl, hb10⟩; have HX10 := Lib.hid (below_step HX9.out hb10); have KA10 := Lib.hid (KA9.out.through hb10); have KB10 := Lib.hid (KB9.out.through hb10); clear hb10))
        go_ret
        exact ⟨rfl, HX10.out⟩

end Go.Proofs.Ytheecifgbkdecaa
