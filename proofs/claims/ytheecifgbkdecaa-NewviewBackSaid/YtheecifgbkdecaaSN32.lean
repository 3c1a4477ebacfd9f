/-
  NlBk
-/
import Derived.Test.YtheecifgbkdecaaSN31
import Derived.Test.YtheecifgbkdecaaSN30
import Derived.Test.YtheecifgbkdecaaSNT
namespace Go.Proofs.Ytheecifgbkdecaa
open Go.RowKit

set_option maxHeartbeats 32000000 in
set_option maxRecDepth 100000 in
theorem newviewback_of (hfx : FixedN) (h1 : ParseNW) (h2 : BytesNW) (h3 : CheckNW) (view : Int) (l : List Sg) (N : Int) (D : Option Addr) (kk dd : Nat) (w : World) (h : SgsIn w D kk l) (hkd : kk ≤ dd) (hdm : dd ≤ maxLen) (hv : In64 view) (hi : ∀ s ∈ l, s.ch.InR) :
  Calls Try.prog 6 #[.int .i64 view, .slice D kk dd, .int .i64 N] w fun e w' => e = .returned (.bool true) ∧ Below w.heap.size w w' := by
 have HFx : Hid (∀ w : World, Calls Try.prog 21 #[] w fun e w' => e = .returned (.bool true) ∧ Below w.heap.size w w') := Lib.hid hfx
 have HI := Lib.hid h
 obtain ⟨fw, hfw⟩ : ∃ b, fewNv l = b := ⟨_, rfl⟩
 have HFw : Hid (∀ W : World, SgsIn W D kk l → Calls Try.prog 22 #[.slice D kk dd] W fun e w' => e = .returned (.bool fw) ∧ Below W.heap.size W w') := Lib.hid (fun W h9 => hfw ▸ few19_any l D kk dd W h9 hkd hdm)
 cases fw with
 | false =>
  clear hfx h1 h2 h3 h hi hfw hkd hdm hv
  go_enter Try.func6, Try.ntmps6
  go_wp2_with (first
   | (go_at_call 21; (with_reducible refine (HFx.out _).mono ?_); rintro e w0 ⟨rfl, hb0⟩; have HX0 := Lib.hid hb0; clear hb0)
   | (go_at_call 22; (with_reducible refine (HFw.out _ (HI.out.through HX0.out)).mono ?_); rintro e w1 ⟨rfl, hb1⟩; have HX1 := Lib.hid (below_step HX0.out hb1); clear hb1))
  go_ret
  exact ⟨rfl, HX1.out⟩
 | true =>
 have hdg := h.dg
 obtain ⟨EB, hEB⟩ : ∃ E, encNv view l = E := ⟨_, rfl⟩
 have hle : EB.length ≤ 9000000 := by rw [← hEB]; exact encNv_len hfw hdg
 obtain ⟨er, her0⟩ : ∃ e, chkNv view l N = e := ⟨_, rfl⟩
 obtain ⟨XV, XL, pe, hX⟩ : ∃ V L e, parseNv EB N = ((V, L), e) := ⟨_, _, _, rfl⟩
 have HPq : Hid (er = 0 → XV = view ∧ XL = l ∧ pe = 0) := Lib.hid (fun h9 => by
  have h8 := parse19_back hv hfw hi hdg (her0.trans h9)
  rw [hEB, hX] at h8
  obtain ⟨h7, h6⟩ := Prod.mk.inj h8
  obtain ⟨h5, h4⟩ := Prod.mk.inj h7
  exact ⟨h5, h4, h6⟩)
 obtain ⟨f1, f2⟩ := fewNv_low hfw
 have hl1 : ∀ s ∈ l, (∀ p ∈ s.ch.pp, ∀ y ∈ p.es, y.co.lt.length ≤ 1000000) ∧ ∀ p ∈ s.ch.pd, ∀ y ∈ p.es, y.co.lt.length ≤ 1000000 := fun s hs => by
  obtain ⟨g1, g2, _⟩ := fewCh_low (f1 s hs)
  exact ⟨fun p hp y hy => by have := (fewP_low (g1.2 p hp)).2 y hy; omega, fun p hp y hy => by have := (fewP_low (g2.2 p hp)).2 y hy; omega⟩
 have hkk : kk ≤ 10 := by rw [← h.len]; exact f2
 have HBw : Hid (∀ W : World, SgsIn W D kk l → Calls Try.prog 23 #[.int .i64 view, .slice D kk dd] W (Byt W EB)) := Lib.hid (fun W h9 => hEB ▸ h2 view l D kk dd W h9 hfw)
 have HBr : Hid (∀ W : World, SgsIn W D kk l → Calls Try.prog 26 #[.int .i64 view, .slice D kk dd] W (Byt W EB)) := Lib.hid (fun W h9 => hEB ▸ rbytes19_any view l D kk dd W h9 (by omega) f1 (by rw [hEB]; omega))
 have HCw : Hid (∀ W : World, SgsIn W D kk l → Calls Try.prog 24 #[.int .i64 view, .slice D kk dd, .int .i64 N] W fun e w' => e = .returned (.int .i64 er) ∧ Below W.heap.size W w') := Lib.hid (fun W h9 => her0 ▸ h3 view l N D kk dd W h9 hkd hdm hfw)
 have HCr : Hid (∀ W : World, SgsIn W D kk l → Calls Try.prog 25 #[.int .i64 view, .slice D kk dd, .int .i64 N] W fun e w' => e = .returned (.int .i64 er) ∧ Below W.heap.size W w') := Lib.hid (fun W h9 => her0 ▸ rcheck19_any view l N D kk dd W h9 hkd hdm hl1)
 have HPw0 : Hid (∀ (A : Option Addr) (n c : Nat) (W : World), By W (fun _ => True) A n EB → n ≤ c → c ≤ maxLen → Calls Try.prog 27 #[.slice A n c, .int .i64 N] W (NvOut W (XV, XL) pe)) := Lib.hid (fun A n c W h7 h8 h9 => by have h6 := h1 EB N A n c W h7 h8 h9 (by rw [← h7.len]; omega) (hEB ▸ nvLow_enc N hfw hdg); rw [hX] at h6; exact h6)
 have HSs : Hid (∀ (A' : Option Addr) (k' c' : Nat) (W : World), k' ≤ c' → c' ≤ maxLen → SgsIn W A' k' l → SgsIn W D kk l → Calls Try.prog 28 #[.slice A' k' c', .slice D kk dd] W fun e w' => e = .returned (.bool true) ∧ Below W.heap.size W w') := Lib.hid (fun A' k' c' W h5 h6 h8 h9 => by
  have h7 := rsame19_any l l A' k' c' D kk dd W h8 h9 (by simp only [maxLen] at h6; omega)
  rw [sameNv_self] at h7
  exact h7)
 clear hfx h1 h2 h3 h hi hfw hdg hEB hle her0 hX f1 f2 hl1 hkk hkd hdm hv
 go_enter Try.func6, Try.ntmps6
 go_wp2_with (first
  | (go_at_call 21; (with_reducible refine (HFx.out _).mono ?_); rintro e w0 ⟨rfl, hb0⟩; have HX0 := Lib.hid hb0; clear hb0)
  | (go_at_call 22; (with_reducible refine (HFw.out _ (HI.out.through HX0.out)).mono ?_); rintro e w1 ⟨rfl, hb1⟩; have HX1 := Lib.hid (below_step HX0.out hb1); clear hb1)
  | (go_at_call 23; (with_reducible refine (HBw.out _ (HI.out.through HX1.out)).mono ?_); rintro e w2 ⟨T2, m2, d2, rfl, hy2, hn2, hc2, hb2⟩; have HY2 := Lib.hid hy2; have HN2 := Lib.hid (And.intro hn2 hc2); have HX2 := Lib.hid (below_step HX1.out hb2); have HI2 := Lib.hid (HI.out.through HX2.out); clear hy2 hn2 hc2 hb2))
 try dsimp only [Act.put]
 refine wp_region_held_drew (S := fun W => Below w2.heap.size w2 W) (by kernel_rfl) (Below.refl _ _).drew (fun hHeld => ?_)
 change wpAnyH _ _ _ _ _ _ #[false, false, false, false, false, false, false, false, false, false, false, false, false, false, false, false, false, false] _ _
 refine tkq (i := 0) (d := 19) (v := (.int .i64 view)) rfl rfl (Or.inl ⟨by kernel_rfl, fun w hSw => ?_⟩) (by assumption) ?_
 ·(try dsimp only at hSw); go_simp <;> (try rfl)
 simp only [Act.put, sq1, sq2, sq3]
 refine tkq (i := 1) (d := 20) (v := (.slice D kk dd)) rfl rfl (Or.inl ⟨by kernel_rfl, fun w hSw => ?_⟩) (by assumption) ?_
 ·(try dsimp only at hSw); go_simp <;> (try rfl)
 simp only [Act.put, sq1, sq2, sq3]
 refine tkq (i := 2) (d := 21) (v := (.int .i64 N)) rfl rfl (Or.inl ⟨by kernel_rfl, fun w hSw => ?_⟩) (by assumption) ?_
 ·(try dsimp only at hSw); go_simp <;> (try rfl)
 simp only [Act.put, sq1, sq2, sq3]
 refine tkq (i := 4) (d := 23) (v := (.int .i64 view)) rfl rfl (Or.inl ⟨by kernel_rfl, fun w hSw => ?_⟩) (by assumption) ?_
 ·(try dsimp only at hSw); go_simp <;> (try rfl)
 simp only [Act.put, sq1, sq2, sq3]
 refine tkq (i := 5) (d := 24) (v := (.slice D kk dd)) rfl rfl (Or.inl ⟨by kernel_rfl, fun w hSw => ?_⟩) (by assumption) ?_
 ·(try dsimp only at hSw); go_simp <;> (try rfl)
 simp only [Act.put, sq1, sq2, sq3]
 refine tkq (i := 6) (d := 25) (v := (.int .i64 N)) rfl rfl (Or.inl ⟨by kernel_rfl, fun w hSw => ?_⟩) (by assumption) ?_
 ·(try dsimp only at hSw); go_simp <;> (try rfl)
 simp only [Act.put, sq1, sq2, sq3]
 refine wpAnyH_ready (rs := [3]) (by kernel_rfl) (by simp) ?_
 refine AllReadyH.cons rfl (fun K hK => ?_) AllReadyH.nil
 go_simp
 refine (HCw.out _ (HI2.out.through hHeld)).mono ?_
 rintro e xp ⟨rfl, hbp⟩; have HKp := Lib.hid (below_step hHeld hbp); clear hbp
 go_wp2_with fail
 refine hK.out _ _ HKp.out (fun hHeld1 => ?_)
 clear hHeld hK K
 have hHeld := hHeld1
 clear hHeld1
 refine wpAnyH_ready (rs := [7]) (by kernel_rfl) (by simp) ?_
 refine AllReadyH.cons rfl (fun K hK => ?_) AllReadyH.nil
 go_simp
 refine (HCr.out _ (HI2.out.through hHeld)).mono ?_
 rintro e xq ⟨rfl, hbq⟩; have HKq := Lib.hid (below_step hHeld hbq); clear hbq
 go_wp2_with fail
 refine hK.out _ _ HKq.out (fun hHeld1 => ?_)
 clear hHeld hK K
 have hHeld := hHeld1
 clear hHeld1
 refine tkq (i := 8) (d := 27) (v := (.bool false)) rfl rfl (Or.inl ⟨by kernel_rfl, fun w hSw => ?_⟩) (by assumption) ?_
 ·(try dsimp only at hSw); go_simp <;> (try rfl)
 simp only [Act.put, sq1, sq2, sq3]
 refine tkq (i := 9) (d := 28) (v := (.bool false)) rfl rfl (Or.inl ⟨by kernel_rfl, fun w hSw => ?_⟩) (by assumption) ?_
 ·(try dsimp only at hSw); go_simp <;> (try rfl)
 simp only [Act.put, sq1, sq2, sq3]
 refine tkq (i := 10) (d := 29) (v := (.slice T2 m2 d2)) rfl rfl (Or.inl ⟨by kernel_rfl, fun w hSw => ?_⟩) (by assumption) ?_
 ·(try dsimp only at hSw); go_simp <;> (try rfl)
 simp only [Act.put, sq1, sq2, sq3]
 refine tkq (i := 11) (d := 30) (v := (.string (ba EB))) rfl rfl (yields_conv (by kernel_rfl) 28 9 (.tmp 29) rfl (.slice T2 m2 d2) (by simp [Act.eval]) (.string (ba EB)) (fun W hW => run_string_by W 28 9 5 Try.underlying28 Try.underlying5 Try.underlying9 _ _ _ _ _ (HY2.out.through hW))) (by assumption) ?_
 simp only [Act.put, sq1, sq2, sq3]
 refine tkq (i := 12) (d := 31) (v := (.int .i64 view)) rfl rfl (Or.inl ⟨by kernel_rfl, fun w hSw => ?_⟩) (by assumption) ?_
 ·(try dsimp only at hSw); go_simp <;> (try rfl)
 simp only [Act.put, sq1, sq2, sq3]
 refine tkq (i := 13) (d := 32) (v := (.slice D kk dd)) rfl rfl (Or.inl ⟨by kernel_rfl, fun w hSw => ?_⟩) (by assumption) ?_
 ·(try dsimp only at hSw); go_simp <;> (try rfl)
 simp only [Act.put, sq1, sq2, sq3]
 refine wpAnyH_ready (rs := [14]) (by kernel_rfl) (by simp) ?_
 refine AllReadyH.cons rfl (fun K hK => ?_) AllReadyH.nil
 go_simp
 refine (HBr.out _ (HI2.out.through hHeld)).mono ?_
 rintro e x9 ⟨T9, m9, d9, rfl, hy9, _, _, hb9⟩; have HY9 := Lib.hid hy9; have HK9 := Lib.hid (below_step hHeld hb9); clear hy9 hb9
 go_wp2_with fail
 refine hK.out _ _ HK9.out (fun hHeld1 => ?_)
 clear hHeld hK K
 have hHeld := hHeld1
 clear hHeld1
 refine wpAnyH_ready (rs := [15]) (by kernel_rfl) (by simp) ?_
 refine AllReadyH.cons (o := ⟨some 34, .convert 28 9 (.tmp 33), _, _, _, some (9, false)⟩) rfl (fun K hK => ?_) AllReadyH.nil
 refine step_convw (by kernel_rfl) 28 9 (.tmp 33) rfl (.slice T9 m9 d9) (.string (ba EB)) (by simp [Act.eval]) (run_string_by _ 28 9 5 Try.underlying28 Try.underlying5 Try.underlying9 _ _ _ _ _ HY9.out) ?_
 refine hK.out _ _ hHeld (fun hHeld1 => ?_)
 clear hHeld hK K
 have hHeld := hHeld1
 clear hHeld1
 change wpAnyH _ _ _ _ _ _ _ (Act.put _ (some (34 : Nat)) (.string (ba EB))) _
 simp only [Act.put, sq1, sq2, sq3]
 refine tkq (i := 16) (d := 35) (v := (.bool false)) rfl rfl (Or.inl ⟨by kernel_rfl, fun w hSw => ?_⟩) (by assumption) ?_
 ·(try dsimp only at hSw); go_simp <;> (try rfl)
 simp only [Act.put, sq1, sq2, sq3]
 refine tkq (i := 17) (d := 36) (v := (.bool false)) rfl rfl (Or.inl ⟨by kernel_rfl, fun w hSw => ?_⟩) (by assumption) ?_
 ·(try dsimp only at hSw); go_simp <;> (try rfl)
 simp only [Act.put, sq1, sq2, sq3]
 refine wpAnyH_done (by kernel_rfl) ?_ _
 have HXz := Lib.hid (below_step HX2.out hHeld)
 have HYz := Lib.hid (HY2.out.through hHeld)
 clear hHeld
 go_wp2_with fail
 cases her : decide (er = 0) with
 | false =>
  have he9 : ¬ er = 0 := of_decide_eq_false her
  have b1 : (er == 0) = false := by simpa using he9
  have b2 : (er != 0) = true := by simpa using he9
  have HPw : Hid (∀ (A : Option Addr) (n c : Nat) (W : World), By W (fun _ => True) A n EB → n ≤ c → c ≤ maxLen → Calls Try.prog 27 #[.slice A n c, .int .i64 N] W (NvOut W (XV, XL) pe)) := Lib.hid HPw0.out
  clear her he9
  go_wp2_with (first
   | go_big_skip
   | (go_at_call 27; (with_reducible refine (HPw.out _ _ _ _ HYz.out HN2.out.1 HN2.out.2).mono ?_); rintro e wt ⟨A5, n5, c5, rfl, hi5, hn5, hc5, hb5⟩; have HI5 := Lib.hid hi5; have HM5 := Lib.hid (And.intro hn5 hc5); have HX5 := Lib.hid (below_step HXz.out hb5); clear hi5 hb5 hn5 hc5)
   | (go_at_call 25; (with_reducible refine (HCr.out _ (HI.out.through HX5.out)).mono ?_); rintro e w6 ⟨rfl, hb6⟩; have HX6 := Lib.hid (below_step HX5.out hb6); have HI6 := Lib.hid (HI5.out.through hb6); clear hb6))
  go_ret
  exact ⟨rfl, HX6.out⟩
 | true =>
  have he9 : er = 0 := of_decide_eq_true her
  have b1 : (er == 0) = true := by simpa using he9
  have b2 : (er != 0) = false := by simpa using he9
  have ev : (view == view) = true := by simp
  have e0 : ((0 : Int) == 0) = true := rfl
  have HPw : Hid (∀ (A : Option Addr) (n c : Nat) (W : World), By W (fun _ => True) A n EB → n ≤ c → c ≤ maxLen → Calls Try.prog 27 #[.slice A n c, .int .i64 N] W (NvOut W (view, l) 0)) := Lib.hid (by have h7 := HPw0.out; rw [(HPq.out he9).1, (HPq.out he9).2.1, (HPq.out he9).2.2] at h7; exact h7)
  clear her he9
  go_wp2_with (first
   | go_big_skip
   | (go_at_call 27; (with_reducible refine (HPw.out _ _ _ _ HYz.out HN2.out.1 HN2.out.2).mono ?_); rintro e wt ⟨A5, n5, c5, rfl, hi5, hn5, hc5, hb5⟩; have HI5 := Lib.hid hi5; have HM5 := Lib.hid (And.intro hn5 hc5); have HX5 := Lib.hid (below_step HXz.out hb5); clear hi5 hb5 hn5 hc5)
   | (go_at_call 25; (with_reducible refine (HCr.out _ (HI.out.through HX5.out)).mono ?_); rintro e w6 ⟨rfl, hb6⟩; have HX6 := Lib.hid (below_step HX5.out hb6); have HI6 := Lib.hid (HI5.out.through hb6); clear hb6)
   | (go_at_call 28; (with_reducible refine (HSs.out _ _ _ _ HM5.out.1 HM5.out.2 HI6.out (HI.out.through HX6.out)).mono ?_); rintro e w8 ⟨rfl, hb8⟩; have HX8 := Lib.hid (below_step HX6.out hb8); clear hb8))
  go_ret
  exact ⟨rfl, HX8.out⟩

end Go.Proofs.Ytheecifgbkdecaa
