/-
  ClBk
-/
import Derived.Test.YtheecifgbkdecaaSB28
import Derived.Test.YtheecifgbkdecaaSB22
namespace Go.Proofs.Ytheecifgbkdecaa
open Go.RowKit
theorem step_convw {P : Program} {ops : Array Oper} {o : Oper} {a : Act} {w : World} {K : Act → World → Prop} {Q : Exit → Act → World → Prop} {E : Prop} (hw : Region.wanted o (yielded ops a.tmps) = true) (src dst : TypeId) (x : Operand) (ho : o.op = .convert src dst x)
    (p v : Value) (hx : a.eval x = p) (hrun : (convert src dst p).run P w = .ok v w) (h : K (a.put o.dst v) w) : if Region.wanted o (yielded ops a.tmps) = true then Oper.wp P o a w K Q else E := by
  rw [if_pos hw]
  unfold Oper.wp execOp
  simp only [ho, hx, Sem.run_bind, hrun, Result.andThen_ok]
  exact h

/-- what a change's reading gives of its numbers -/
def Ch.InR (c : Ch) : Prop := In64 c.vw ∧ In64 c.lw ∧ (∀ p ∈ c.po, In64 p.sq) ∧ (∀ p ∈ c.pp, In64 p.sq ∧ In64 p.vw ∧ ∀ y ∈ p.es, y.In) ∧ ∀ p ∈ c.pd, In64 p.sq ∧ In64 p.vw ∧ ∀ y ∈ p.es, y.In
theorem ppB_all {vw lw n : Int} : ∀ {q : Option Int} {l : List Pf}, ppB vw lw n q l = true → ∀ p ∈ l, prfB vw lw n p = true
  | _, [], _, p, hp => by cases hp
  | q, x :: l, h, p, hp => by
    unfold ppB at h
    simp only [Bool.and_eq_true] at h
    rcases List.mem_cons.1 hp with rfl | hp
    · exact h.1.1
    · exact ppB_all h.2 p hp
theorem pdB_all {vw lw n : Int} : ∀ {q : Option (Int × Int)} {l : List Pf}, pdB vw lw n q l = true → ∀ p ∈ l, prfB vw lw n p = true
  | _, [], _, p, hp => by cases hp
  | q, x :: l, h, p, hp => by
    unfold pdB at h
    simp only [Bool.and_eq_true] at h
    rcases List.mem_cons.1 hp with rfl | hp
    · exact h.1.1
    · exact pdB_all h.2 p hp
theorem prfB_chk {vw lw n : Int} {p : Pf} (h : prfB vw lw n p = true) : chkB p.es n = 0 := by
  unfold prfB at h
  simp only [Bool.and_eq_true, decide_eq_true_eq] at h
  exact h.2
/-- a change that may be is told by its bytes -/
theorem parse18_back {c : Ch} {N : Int} (hf : fewCh c = true) (hi : c.InR) (hd : ∀ p ∈ c.po, p.dg.length = 32) (h : chkCh c N = 0) : parseCh (encCh c) N = (c, 0) := by
  unfold chkCh at h
  by_cases hb : badN N = true
  · rw [if_pos hb] at h; exact absurd h (by decide)
  · rw [if_neg hb] at h
    by_cases hr : rightB c N = true
    · obtain ⟨h1, h2, _⟩ := fewCh_low hf
      have hr2 := hr
      unfold rightB at hr2
      simp only [Bool.and_eq_true] at hr2
      have lo : ∀ p : Pf, fewP p = true → (encB p.es).length ≤ 1048576 := fun p hp => by
        obtain ⟨h3, h4⟩ := fewP_low hp
        have h5 := encB_len18 h4
        have h6 : p.es.length * 439 ≤ 10 * 439 := Nat.mul_le_mul h3 (Nat.le_refl _)
        omega
      refine parseCh_enc c (by simpa using hb) hr hi.1 hi.2.1 (fun p hp => ⟨hi.2.2.1 p hp, hd p hp⟩) (fun p hp => ?_) (fun p hp => ?_)
      · obtain ⟨a, b, d⟩ := hi.2.2.2.1 p hp
        exact ⟨a, b, prfB_chk (ppB_all hr2.1.2 p hp), d, lo p (h1.2 p hp)⟩
      · obtain ⟨a, b, d⟩ := hi.2.2.2.2 p hp
        exact ⟨a, b, prfB_chk (pdB_all hr2.2 p hp), d, lo p (h2.2 p hp)⟩
    · rw [if_neg hr] at h; exact absurd h (by decide)

set_option maxHeartbeats 32000000 in
set_option maxRecDepth 100000 in
theorem changeback_of (hfx : FixedC) (h1 : ParseCW) (h2 : BytesCW) (h3 : CheckCW) (c : Ch) (P Q R : Pl) (N : Int) (w : World) (h : ChIn w P Q R c) (hi : c.InR) :
    Calls Try.prog 3 #[.agg (Ch.cells c P Q R).toArray, .int .i64 N] w fun e w' => e = .returned (.bool true) ∧ Below w.heap.size w w' := by
  have HFx : Hid (∀ w : World, Calls Try.prog 8 #[] w fun e w' => e = .returned (.bool true) ∧ Below w.heap.size w w') := Lib.hid hfx
  have HI := Lib.hid h
  have Ka : Hid (Blk (w.alloc (.cells (Ch.cells c P Q R).toArray 25)) w.heap.size 25 (Ch.cells c P Q R)) := Lib.hid (Blk.fresh rfl rfl)
  have HXa : Hid (Below w.heap.size w (w.alloc (.cells (Ch.cells c P Q R).toArray 25))) := Lib.hid (below1_ w _)
  obtain ⟨fw, hfw⟩ : ∃ b, fewCh c = b := ⟨_, rfl⟩
  have HFw : Hid (∀ W : World, ChIn W P Q R c → Calls Try.prog 9 #[.agg (Ch.cells c P Q R).toArray] W fun e w' => e = .returned (.bool fw) ∧ Below W.heap.size W w') := Lib.hid (fun W h9 => hfw ▸ few18_any c P Q R W h9)
  cases fw with
  | false =>
    clear hfx h1 h2 h3 h hi hfw
    go_enter Try.func3, Try.ntmps3
    go_wp2_with (first
      | (go_at_call 8; (with_reducible refine (HFx.out _).mono ?_); rintro e w0 ⟨rfl, hb0⟩; have HX0 := Lib.hid (below_step HXa.out hb0); have K0 := Lib.hid (Ka.out.through hb0); clear hb0)
      | (refine wpList_load_blk rfl 25 (.tmp 2) rfl w.heap.size rfl 25 (Ch.cells c P Q R) _ K0.out Try.underlying25 rfl (by kernel_rfl) ?_)
      | (go_at_call 9; (with_reducible refine (HFw.out _ (HI.out.through HX0.out)).mono ?_); rintro e w1 ⟨rfl, hb1⟩; have HX1 := Lib.hid (below_step HX0.out hb1); have K1 := Lib.hid (K0.out.through hb1); clear hb1))
    go_ret
    exact ⟨rfl, HX1.out⟩
  | true =>
  have hdd := h.1.1.2
  obtain ⟨EB, hEB⟩ : ∃ E, encCh c = E := ⟨_, rfl⟩
  have hle : EB.length ≤ 800000 := by rw [← hEB]; exact encCh_len hfw hdd
  obtain ⟨er, her0⟩ : ∃ e, chkCh c N = e := ⟨_, rfl⟩
  obtain ⟨X, pe, hX⟩ : ∃ X e, parseCh EB N = (X, e) := ⟨_, _, rfl⟩
  have HPq : Hid (er = 0 → X = c ∧ pe = 0) := Lib.hid (fun h9 => by
    have h8 := parse18_back hfw hi hdd (her0.trans h9)
    rw [hEB, hX] at h8
    exact Prod.mk.inj h8)
  obtain ⟨f1, f2, f3⟩ := fewCh_low hfw
  have hl1 : ∀ p ∈ c.pp, ∀ y ∈ p.es, y.co.lt.length ≤ 1000000 := fun p hp y hy => by have := (fewP_low (f1.2 p hp)).2 y hy; omega
  have hl2 : ∀ p ∈ c.pd, ∀ y ∈ p.es, y.co.lt.length ≤ 1000000 := fun p hp y hy => by have := (fewP_low (f2.2 p hp)).2 y hy; omega
  have HBw : Hid (∀ W : World, ChIn W P Q R c → Calls Try.prog 10 #[.agg (Ch.cells c P Q R).toArray] W (Byt W EB)) := Lib.hid (fun W h9 => hEB ▸ h2 c P Q R W h9 hfw)
  have HBr : Hid (∀ W : World, ChIn W P Q R c → Calls Try.prog 13 #[.agg (Ch.cells c P Q R).toArray] W (Byt W EB)) := Lib.hid (fun W h9 => hEB ▸ rbytes18_any c P Q R W h9 (by rw [← h9.1.1.len]; omega) (by rw [← h9.2.1.1.len]; omega) (by rw [← h9.2.2.1.len]; omega) (fun p hp => Low.of_few (f1.2 p hp)) (fun p hp => Low.of_few (f2.2 p hp)) (by rw [hEB]; omega))
  have HCw : Hid (∀ W : World, ChIn W P Q R c → Calls Try.prog 11 #[.agg (Ch.cells c P Q R).toArray, .int .i64 N] W fun e w' => e = .returned (.int .i64 er) ∧ Below W.heap.size W w') := Lib.hid (fun W h9 => her0 ▸ h3 c P Q R N W h9 hfw)
  have HCr : Hid (∀ W : World, ChIn W P Q R c → Calls Try.prog 12 #[.agg (Ch.cells c P Q R).toArray, .int .i64 N] W fun e w' => e = .returned (.int .i64 er) ∧ Below W.heap.size W w') := Lib.hid (fun W h9 => her0 ▸ rcheck18_any c P Q R N W h9 hl1 hl2)
  have HPw0 : Hid (∀ (A : Option Addr) (n c : Nat) (W : World), By W (fun _ => True) A n EB → n ≤ c → c ≤ maxLen → Calls Try.prog 14 #[.slice A n c, .int .i64 N] W (ChOut W X pe)) := Lib.hid (fun A n c W h7 h8 h9 => by have h6 := h1 EB N A n c W h7 h8 h9 (by rw [← h7.len]; omega); rw [hX] at h6; exact h6)
  have HSs : Hid (∀ (P' Q' R' : Pl) (W : World), ChIn W P Q R c → ChIn W P' Q' R' c → Calls Try.prog 15 #[.agg (Ch.cells c P Q R).toArray, .agg (Ch.cells c P' Q' R').toArray] W fun e w' => e = .returned (.bool true) ∧ Below W.heap.size W w') := Lib.hid (fun P' Q' R' W h8 h9 => by
    have h7 := rsame18_any c c P Q R P' Q' R' W h8 h9
    rw [Ch.eqb_self] at h7
    exact h7)
  obtain ⟨c0, hc0⟩ : ∃ c0, c0 = c := ⟨_, rfl⟩
  subst hc0
  clear hfx h1 h2 h3 h hi hfw hdd hEB hle her0 hX f1 f2 f3 hl1 hl2
  go_enter Try.func3, Try.ntmps3
  go_wp2_with (first
    | (go_at_call 8; (with_reducible refine (HFx.out _).mono ?_); rintro e w0 ⟨rfl, hb0⟩; have HX0 := Lib.hid (below_step HXa.out hb0); have K0 := Lib.hid (Ka.out.through hb0); clear hb0)
    | (refine wpList_load_blk rfl 25 (.tmp 2) rfl w.heap.size rfl 25 (Ch.cells c0 P Q R) _ K0.out Try.underlying25 rfl (by kernel_rfl) ?_)
    | (go_at_call 9; (with_reducible refine (HFw.out _ (HI.out.through HX0.out)).mono ?_); rintro e w1 ⟨rfl, hb1⟩; have HX1 := Lib.hid (below_step HX0.out hb1); have K1 := Lib.hid (K0.out.through hb1); clear hb1)
    | (refine wpList_load_blk rfl 25 (.tmp 2) rfl w.heap.size rfl 25 (Ch.cells c0 P Q R) _ K1.out Try.underlying25 rfl (by kernel_rfl) ?_)
    | (go_at_call 10; (with_reducible refine (HBw.out _ (HI.out.through HX1.out)).mono ?_); rintro e w2 ⟨T2, m2, d2, rfl, hy2, hn2, hc2, hb2⟩; have HY2 := Lib.hid hy2; have HN2 := Lib.hid (And.intro hn2 hc2); have HX2 := Lib.hid (below_step HX1.out hb2); have K2 := Lib.hid (K1.out.through hb2); have HI2 := Lib.hid (HI.out.through HX2.out); clear hy2 hn2 hc2 hb2))
  try dsimp only [Act.put]
  refine wp_region_held_drew (S := fun W => Below w2.heap.size w2 W) (by kernel_rfl) (Below.refl _ _).drew (fun hHeld => ?_)
  change wpAnyH _ _ _ _ _ _ #[false, false, false, false, false, false, false, false, false, false, false, false, false, false, false] _ _
  refine wpAnyH_take (i := 0) (v := (.agg (Ch.cells c0 P Q R).toArray)) rfl (by kernel_rfl) (by kernel_rfl) (by kernel_rfl) (fun _ _ _ h => h) (yieldsIf_load_mid (by kernel_rfl) 25 (.tmp 2) rfl w.heap.size 0 (by simp [Act.eval]) (Ch.cells c0 P Q R) _ (fun W hW => rangeAt.through (Blk.whole_ K2.out) hW) Try.underlying25 rfl (by kernel_rfl)) (by assumption) ?_
  change wpAnyH _ _ _ _ _ _ _ (Act.put _ (some (15 : Nat)) (.agg (Ch.cells c0 P Q R).toArray)) _
  simp only [Act.put, List.setIfInBounds_toArray, List.set_cons_zero, List.set_cons_succ]
  refine wpAnyH_take (i := 1) (v := (.int .i64 N)) rfl (by kernel_rfl) (by kernel_rfl) (by kernel_rfl) (fun _ _ _ h => h) (Or.inl ⟨by kernel_rfl, fun w hSw => ?_⟩) (by assumption) ?_
  · (try dsimp only at hSw); go_simp <;> (try rfl)
  change wpAnyH _ _ _ _ _ _ _ (Act.put _ (some (16 : Nat)) (.int .i64 N)) _
  simp only [Act.put, List.setIfInBounds_toArray, List.set_cons_zero, List.set_cons_succ]
  refine wpAnyH_take (i := 3) (v := (.agg (Ch.cells c0 P Q R).toArray)) rfl (by kernel_rfl) (by kernel_rfl) (by kernel_rfl) (fun _ _ _ h => h) (yieldsIf_load_mid (by kernel_rfl) 25 (.tmp 2) rfl w.heap.size 0 (by simp [Act.eval]) (Ch.cells c0 P Q R) _ (fun W hW => rangeAt.through (Blk.whole_ K2.out) hW) Try.underlying25 rfl (by kernel_rfl)) (by assumption) ?_
  change wpAnyH _ _ _ _ _ _ _ (Act.put _ (some (18 : Nat)) (.agg (Ch.cells c0 P Q R).toArray)) _
  simp only [Act.put, List.setIfInBounds_toArray, List.set_cons_zero, List.set_cons_succ]
  refine wpAnyH_take (i := 4) (v := (.int .i64 N)) rfl (by kernel_rfl) (by kernel_rfl) (by kernel_rfl) (fun _ _ _ h => h) (Or.inl ⟨by kernel_rfl, fun w hSw => ?_⟩) (by assumption) ?_
  · (try dsimp only at hSw); go_simp <;> (try rfl)
  change wpAnyH _ _ _ _ _ _ _ (Act.put _ (some (19 : Nat)) (.int .i64 N)) _
  simp only [Act.put, List.setIfInBounds_toArray, List.set_cons_zero, List.set_cons_succ]
  refine wpAnyH_ready (rs := [2]) (by kernel_rfl) (by simp) ?_
  refine AllReadyH.cons rfl (fun K hK => ?_) AllReadyH.nil
  go_simp
  refine (HCw.out _ (HI2.out.through hHeld)).mono ?_
  rintro e xp ⟨rfl, hbp⟩; have HKp := Lib.hid (below_step hHeld hbp); clear hbp
  go_wp2_with fail
  refine hK.out _ _ HKp.out (fun hHeld1 => ?_)
  clear hHeld hK K
  have hHeld := hHeld1
  clear hHeld1
  refine wpAnyH_ready (rs := [5]) (by kernel_rfl) (by simp) ?_
  refine AllReadyH.cons rfl (fun K hK => ?_) AllReadyH.nil
  go_simp
  refine (HCr.out _ (HI2.out.through hHeld)).mono ?_
  rintro e xq ⟨rfl, hbq⟩; have HKq := Lib.hid (below_step hHeld hbq); clear hbq
  go_wp2_with fail
  refine hK.out _ _ HKq.out (fun hHeld1 => ?_)
  clear hHeld hK K
  have hHeld := hHeld1
  clear hHeld1
  refine wpAnyH_take (i := 6) (v := (.bool false)) rfl (by kernel_rfl) (by kernel_rfl) (by kernel_rfl) (fun _ _ _ h => h) (Or.inl ⟨by kernel_rfl, fun w hSw => ?_⟩) (by assumption) ?_
  · (try dsimp only at hSw); go_simp <;> (try rfl)
  change wpAnyH _ _ _ _ _ _ _ (Act.put _ (some (21 : Nat)) (.bool false)) _
  simp only [Act.put, List.setIfInBounds_toArray, List.set_cons_zero, List.set_cons_succ]
  refine wpAnyH_take (i := 7) (v := (.bool false)) rfl (by kernel_rfl) (by kernel_rfl) (by kernel_rfl) (fun _ _ _ h => h) (Or.inl ⟨by kernel_rfl, fun w hSw => ?_⟩) (by assumption) ?_
  · (try dsimp only at hSw); go_simp <;> (try rfl)
  change wpAnyH _ _ _ _ _ _ _ (Act.put _ (some (22 : Nat)) (.bool false)) _
  simp only [Act.put, List.setIfInBounds_toArray, List.set_cons_zero, List.set_cons_succ]
  refine wpAnyH_take (i := 8) (v := (.slice T2 m2 d2)) rfl (by kernel_rfl) (by kernel_rfl) (by kernel_rfl) (fun _ _ _ h => h) (Or.inl ⟨by kernel_rfl, fun w hSw => ?_⟩) (by assumption) ?_
  · (try dsimp only at hSw); go_simp <;> (try rfl)
  change wpAnyH _ _ _ _ _ _ _ (Act.put _ (some (23 : Nat)) (.slice T2 m2 d2)) _
  simp only [Act.put, List.setIfInBounds_toArray, List.set_cons_zero, List.set_cons_succ]
  refine wpAnyH_take (i := 9) (v := (.string (ba EB))) rfl (by kernel_rfl) (by kernel_rfl) (by kernel_rfl) (fun _ _ _ h => h) (yields_conv (by kernel_rfl) 28 9 (.tmp 23) rfl (.slice T2 m2 d2) (by simp [Act.eval]) (.string (ba EB)) (fun W hW => run_string_by W 28 9 5 Try.underlying28 Try.underlying5 Try.underlying9 _ _ _ _ _ (HY2.out.through hW))) (by assumption) ?_
  change wpAnyH _ _ _ _ _ _ _ (Act.put _ (some (24 : Nat)) (.string (ba EB))) _
  simp only [Act.put, List.setIfInBounds_toArray, List.set_cons_zero, List.set_cons_succ]
  refine wpAnyH_take (i := 10) (v := (.agg (Ch.cells c0 P Q R).toArray)) rfl (by kernel_rfl) (by kernel_rfl) (by kernel_rfl) (fun _ _ _ h => h) (yieldsIf_load_mid (by kernel_rfl) 25 (.tmp 2) rfl w.heap.size 0 (by simp [Act.eval]) (Ch.cells c0 P Q R) _ (fun W hW => rangeAt.through (Blk.whole_ K2.out) hW) Try.underlying25 rfl (by kernel_rfl)) (by assumption) ?_
  change wpAnyH _ _ _ _ _ _ _ (Act.put _ (some (25 : Nat)) (.agg (Ch.cells c0 P Q R).toArray)) _
  simp only [Act.put, List.setIfInBounds_toArray, List.set_cons_zero, List.set_cons_succ]
  refine wpAnyH_ready (rs := [11]) (by kernel_rfl) (by simp) ?_
  refine AllReadyH.cons rfl (fun K hK => ?_) AllReadyH.nil
  go_simp
  refine (HBr.out _ (HI2.out.through hHeld)).mono ?_
  rintro e x9 ⟨T9, m9, d9, rfl, hy9, _, _, hb9⟩; have HY9 := Lib.hid hy9; have HK9 := Lib.hid (below_step hHeld hb9); clear hy9 hb9
  go_wp2_with fail
  refine hK.out _ _ HK9.out (fun hHeld1 => ?_)
  clear hHeld hK K
  have hHeld := hHeld1
  clear hHeld1
  refine wpAnyH_ready (rs := [12]) (by kernel_rfl) (by simp) ?_
  refine AllReadyH.cons (o := ⟨some 27, .convert 28 9 (.tmp 26), _, _, _, some (7, false)⟩) rfl (fun K hK => ?_) AllReadyH.nil
  refine step_convw (by kernel_rfl) 28 9 (.tmp 26) rfl (.slice T9 m9 d9) (.string (ba EB)) (by simp [Act.eval]) (run_string_by _ 28 9 5 Try.underlying28 Try.underlying5 Try.underlying9 _ _ _ _ _ HY9.out) ?_
  refine hK.out _ _ hHeld (fun hHeld1 => ?_)
  clear hHeld hK K
  have hHeld := hHeld1
  clear hHeld1
  change wpAnyH _ _ _ _ _ _ _ (Act.put _ (some (27 : Nat)) (.string (ba EB))) _
  simp only [Act.put, List.setIfInBounds_toArray, List.set_cons_zero, List.set_cons_succ]
  refine wpAnyH_take (i := 13) (v := (.bool false)) rfl (by kernel_rfl) (by kernel_rfl) (by kernel_rfl) (fun _ _ _ h => h) (Or.inl ⟨by kernel_rfl, fun w hSw => ?_⟩) (by assumption) ?_
  · (try dsimp only at hSw); go_simp <;> (try rfl)
  change wpAnyH _ _ _ _ _ _ _ (Act.put _ (some (28 : Nat)) (.bool false)) _
  simp only [Act.put, List.setIfInBounds_toArray, List.set_cons_zero, List.set_cons_succ]
  refine wpAnyH_take (i := 14) (v := (.bool false)) rfl (by kernel_rfl) (by kernel_rfl) (by kernel_rfl) (fun _ _ _ h => h) (Or.inl ⟨by kernel_rfl, fun w hSw => ?_⟩) (by assumption) ?_
  · (try dsimp only at hSw); go_simp <;> (try rfl)
  change wpAnyH _ _ _ _ _ _ _ (Act.put _ (some (29 : Nat)) (.bool false)) _
  simp only [Act.put, List.setIfInBounds_toArray, List.set_cons_zero, List.set_cons_succ]
  refine wpAnyH_done (by kernel_rfl) ?_ _
  have HXz := Lib.hid (below_step HX2.out hHeld)
  have HYz := Lib.hid (HY2.out.through hHeld)
  have Kz := Lib.hid (K2.out.through hHeld)
  clear hHeld
  go_wp2_with fail
  cases her : decide (er = 0) with
  | false =>
    have he9 : ¬ er = 0 := of_decide_eq_false her
    have b1 : (er == 0) = false := by simpa using he9
    have b2 : (er != 0) = true := by simpa using he9
    have HPw : Hid (∀ (A : Option Addr) (n c : Nat) (W : World), By W (fun _ => True) A n EB → n ≤ c → c ≤ maxLen → Calls Try.prog 14 #[.slice A n c, .int .i64 N] W (ChOut W X pe)) := Lib.hid HPw0.out
    clear her he9
    go_wp2_with (first
      | go_big_skip
      | (go_at_call 14; (with_reducible refine (HPw.out _ _ _ _ HYz.out HN2.out.1 HN2.out.2).mono ?_); rintro e wt ⟨P5, Q5, R5, rfl, hi5, hb5⟩; have HI5 := Lib.hid hi5; have HX5 := Lib.hid (below_step HXz.out hb5); have K5 := Lib.hid (Kz.out.through hb5); clear hi5 hb5)
      | (refine wpList_store_blk rfl 25 (.tmp 6) (.tmp 34) rfl wt.heap.size (Ch.cells X P5 Q5 R5) rfl rfl 25 [.int .i64 0, .int .i64 0, .slice none 0 0, .slice none 0 0, .slice none 0 0] (Blk.fresh rfl rfl) (by kernel_rfl) rfl (one5h _ _ _ _) ?_; intro wu hbu hgu; have HGu := Lib.hid hbu; have HXu := Lib.hid (below_step HX5.out (below_new hgu)); have Ku := Lib.hid (K5.out.through (below_new hgu)); have HIu := Lib.hid (HI5.out.through (below_new hgu)); clear hbu hgu)
      | (refine wpList_load_blk rfl 25 (.tmp 2) rfl w.heap.size rfl 25 (Ch.cells c0 P Q R) _ Ku.out Try.underlying25 rfl (by kernel_rfl) ?_)
      | (go_at_call 12; (with_reducible refine (HCr.out _ (HI.out.through HXu.out)).mono ?_); rintro e w6 ⟨rfl, hb6⟩; have HX6 := Lib.hid (below_step HXu.out hb6); have K6 := Lib.hid (Ku.out.through hb6); have HG6 := Lib.hid (HGu.out.through hb6); have HI6 := Lib.hid (HIu.out.through hb6); clear hb6))
    go_ret
    exact ⟨rfl, HX6.out⟩
  | true =>
    have he9 : er = 0 := of_decide_eq_true her
    have b1 : (er == 0) = true := by simpa using he9
    have b2 : (er != 0) = false := by simpa using he9
    have HPw : Hid (∀ (A : Option Addr) (n c : Nat) (W : World), By W (fun _ => True) A n EB → n ≤ c → c ≤ maxLen → Calls Try.prog 14 #[.slice A n c, .int .i64 N] W (ChOut W c0 0)) := Lib.hid (by have h7 := HPw0.out; rw [(HPq.out he9).1, (HPq.out he9).2] at h7; exact h7)
    clear her he9
    go_wp2_with (first
      | go_big_skip
      | (go_at_call 14; (with_reducible refine (HPw.out _ _ _ _ HYz.out HN2.out.1 HN2.out.2).mono ?_); rintro e wt ⟨P5, Q5, R5, rfl, hi5, hb5⟩; have HI5 := Lib.hid hi5; have HX5 := Lib.hid (below_step HXz.out hb5); have K5 := Lib.hid (Kz.out.through hb5); clear hi5 hb5)
      | (refine wpList_store_blk rfl 25 (.tmp 6) (.tmp 34) rfl wt.heap.size (Ch.cells c0 P5 Q5 R5) rfl rfl 25 [.int .i64 0, .int .i64 0, .slice none 0 0, .slice none 0 0, .slice none 0 0] (Blk.fresh rfl rfl) (by kernel_rfl) rfl (one5h _ _ _ _) ?_; intro wu hbu hgu; have HGu := Lib.hid hbu; have HXu := Lib.hid (below_step HX5.out (below_new hgu)); have Ku := Lib.hid (K5.out.through (below_new hgu)); have HIu := Lib.hid (HI5.out.through (below_new hgu)); clear hbu hgu)
      | (refine wpList_load_blk rfl 25 (.tmp 2) rfl w.heap.size rfl 25 (Ch.cells c0 P Q R) _ Ku.out Try.underlying25 rfl (by kernel_rfl) ?_)
      | (go_at_call 12; (with_reducible refine (HCr.out _ (HI.out.through HXu.out)).mono ?_); rintro e w6 ⟨rfl, hb6⟩; have HX6 := Lib.hid (below_step HXu.out hb6); have K6 := Lib.hid (Ku.out.through hb6); have HG6 := Lib.hid (HGu.out.through hb6); have HI6 := Lib.hid (HIu.out.through hb6); clear hb6)
      | (refine wpList_load_blk_g 25 (.tmp 2) rfl (by kernel_rfl) w.heap.size rfl 25 (Ch.cells c0 P Q R) _ K6.out Try.underlying25 rfl (by kernel_rfl) ?_)
      | (refine wpList_load_blk_g 25 (.tmp 6) rfl (by kernel_rfl) wt.heap.size rfl 25 (Ch.cells c0 P5 Q5 R5) _ HG6.out Try.underlying25 rfl (by kernel_rfl) ?_)
      | (go_at_call 15; (with_reducible refine (HSs.out _ _ _ _ (HI.out.through HX6.out) HI6.out).mono ?_); rintro e w8 ⟨rfl, hb8⟩; have HX8 := Lib.hid (below_step HX6.out hb8); clear hb8))
    go_ret
    exact ⟨rfl, HX8.out⟩

end Go.Proofs.Ytheecifgbkdecaa
