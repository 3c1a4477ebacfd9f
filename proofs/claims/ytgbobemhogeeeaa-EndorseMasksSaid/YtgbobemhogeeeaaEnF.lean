/-
  The law's own calls: fixed.
-/
import Derived.Test.YtgbobemhogeeeaaJE
namespace Go.Proofs.Ytgbobemhogeeeaa
open Go.RowKit

theorem Try.build_rq1 (a b : ByteArray) (i j k p q : Int) (w : World) : (Instr.build 26 #[(0, .agg #[.int .i64 i, .int .i64 j, .int .i64 k, .string a, .int .i64 p, .int .i64 q, .string b])]).run Try.prog w = .ok (.agg #[.int .i64 i, .int .i64 j, .int .i64 k, .string a, .int .i64 p, .int .i64 q, .string b, .slice none 0 0]) w := by kernel_rfl
theorem Try.build_fm1 (i : Int) (w : World) : (Instr.build 58 #[(0, .int .i64 i)]).run Try.prog w = .ok (.agg #[.int .i64 i, .int .i64 0, .slice none 0 0]) w := by kernel_rfl

set_option maxHeartbeats 16000000 in
set_option maxRecDepth 100000 in
theorem fixed13_any (w : World) : Calls Try.prog 6 #[] w fun e w' => e = .returned (.bool true) ∧ Below w.heap.size w w' := by
  have hb4 := Try.build_c4
  have hbq := Try.build_rq1
  have hbf := Try.build_fm1
  have HSg : Hid (∀ (org : Int) (ts : List TK) (W : World), BS W w.heap.size [] ts → ts.length ≤ 100000 → Calls Try.prog 9 #[.iface 53 (.pointer (some ⟨w.heap.size, 0, none⟩)), .int .i64 org, .int .i64 4, .agg #[.int .i64 4, .int .i64 1, .int .i64 2, .string (ba [97]), .int .i64 0, .int .i64 0, .string (ba [])]] W fun e w' => ∃ A1 c2, e = .returned (.agg #[.int .i64 org, .slice A1 4 c2]) ∧ TsIn w' (A1, 4, c2) ((List.range 4).map (made org txF (upTo 4) ts 4)) ∧ BS w' w.heap.size [] (acc org txF (upTo 4) ts 4) ∧ KF w.heap.size W w') := Lib.hid (fun org ts W hs hl => esign_book w.heap.size [] ts org fixC 4 (by omega) (by omega) (by decide) (by decide) hl W hs)
  have HWi : Hid (∀ (es : List En) (x : En) (A : Option Addr) (n c1 : Nat) (B : Option Addr) (m d : Nat) (W : World), EsIn W A n es → TsIn W (B, m, d) x.ts → n ≤ 1000 → n ≤ c1 → (∀ e ∈ es, e.ts.length ≤ 1000000) → x.ts.length ≤ 1000000 → Calls Try.prog 10 #[.agg #[.int .i64 4, .int .i64 1, .int .i64 2, .string (ba [97]), .int .i64 0, .int .i64 0, .string (ba []), .slice A n c1], .agg #[.int .i64 x.og, .slice B m d]] W (RqOwn W ⟨fixC, withE es x⟩)) := Lib.hid (fun es x A n c1 B m d W h1 h2 h3 h4 h5 h6 => with_own fixC es A n c1 x B m d W h1 h2 h3 h4 h5 h6)
  go_enter Try.func6, Try.ntmps6
  go_wp2_with (go_at_call 24; (with_reducible refine (bnew_any _).mono ?_); rintro e w1 ⟨rfl, hs1, hb1⟩; have HX1 := Lib.hid hb1; have HGb : Hid (w.heap.size < w1.heap.size) := Lib.hid hs1.lt; have HS0 : Hid (BS (w1.alloc (.cells #[.int .i64 4, .int .i64 1, .int .i64 2, .string (ba [97]), .int .i64 0, .int .i64 0, .string (ba []), .slice none 0 0] 26)).drew w.heap.size [] []) := Lib.hid (hs1.through (below1_ w1 (.cells #[.int .i64 4, .int .i64 1, .int .i64 2, .string (ba [97]), .int .i64 0, .int .i64 0, .string (ba []), .slice none 0 0] 26))).drew; have HL0 : Hid (Below w.heap.size w (w1.alloc (.cells #[.int .i64 4, .int .i64 1, .int .i64 2, .string (ba [97]), .int .i64 0, .int .i64 0, .string (ba []), .slice none 0 0] 26))) := Lib.hid (hb1.alloc hb1.size (.cells #[.int .i64 4, .int .i64 1, .int .i64 2, .string (ba [97]), .int .i64 0, .int .i64 0, .string (ba []), .slice none 0 0] 26)); have HB0 : Hid (Blk (w1.alloc (.cells #[.int .i64 4, .int .i64 1, .int .i64 2, .string (ba [97]), .int .i64 0, .int .i64 0, .string (ba []), .slice none 0 0] 26)) w1.heap.size 26 [.int .i64 4, .int .i64 1, .int .i64 2, .string (ba [97]), .int .i64 0, .int .i64 0, .string (ba []), .slice none 0 0]) := Lib.hid (Blk.fresh rfl rfl); clear hs1 hb1)
  have HB0d : Hid (Blk (w1.alloc (.cells #[.int .i64 4, .int .i64 1, .int .i64 2, .string (ba [97]), .int .i64 0, .int .i64 0, .string (ba []), .slice none 0 0] 26)).drew w1.heap.size 26 [.int .i64 4, .int .i64 1, .int .i64 2, .string (ba [97]), .int .i64 0, .int .i64 0, .string (ba []), .slice none 0 0]) := Lib.hid HB0.out.drew
  refine wp_region_held_drew (S := fun W => ∃ v, Blk W w1.heap.size 26 [.int .i64 4, .int .i64 1, .int .i64 2, .string (ba [97]), .int .i64 0, .int .i64 0, .string (ba []), v]) (by kernel_rfl) ⟨_, HB0d.out⟩ (fun hHeld => ?_)
  change wpAnyH _ _ _ _ _ _ #[false, false, false, false, false, false, false, false, false, false, false, false, false, false] _ _
  refine wpAnyH_take (i := 1) (v := (.pointer (some ⟨w.heap.size, 0, none⟩))) rfl (by kernel_rfl) (by kernel_rfl) (by kernel_rfl) (fun _ _ _ h => h) (Or.inl ⟨by kernel_rfl, fun w hSw => ?_⟩) (by assumption) ?_
  · (try dsimp only at hSw); go_simp <;> (try rfl)
  change wpAnyH _ _ _ _ _ _ _ (Act.put _ (some (7 : Nat)) (.pointer (some ⟨w.heap.size, 0, none⟩))) _
  simp only [Act.put, List.setIfInBounds_toArray, List.set_cons_zero, List.set_cons_succ]
  refine wpAnyH_take (i := 2) (v := (.iface 53 (.pointer (some ⟨w.heap.size, 0, none⟩)))) rfl (by kernel_rfl) (by kernel_rfl) (by kernel_rfl) (fun _ _ _ h => h) (Or.inl ⟨by kernel_rfl, fun w hSw => ?_⟩) (by assumption) ?_
  · (try dsimp only at hSw); go_simp <;> (try rfl)
  change wpAnyH _ _ _ _ _ _ _ (Act.put _ (some (8 : Nat)) (.iface 53 (.pointer (some ⟨w.heap.size, 0, none⟩)))) _
  simp only [Act.put, List.setIfInBounds_toArray, List.set_cons_zero, List.set_cons_succ]
  refine wpAnyH_take (i := 3) (v := (.pointer (some ⟨w1.heap.size, 0, none⟩))) rfl (by kernel_rfl) (by kernel_rfl) (by kernel_rfl) (fun _ _ _ h => h) (Or.inl ⟨by kernel_rfl, fun w hSw => ?_⟩) (by assumption) ?_
  · (try dsimp only at hSw); go_simp <;> (try rfl)
  change wpAnyH _ _ _ _ _ _ _ (Act.put _ (some (9 : Nat)) (.pointer (some ⟨w1.heap.size, 0, none⟩))) _
  simp only [Act.put, List.setIfInBounds_toArray, List.set_cons_zero, List.set_cons_succ]
  refine wpAnyH_take (i := 4) (v := (.agg #[.int .i64 4, .int .i64 1, .int .i64 2, .string (ba [97]), .int .i64 0, .int .i64 0, .string (ba [])])) rfl (by kernel_rfl) (by kernel_rfl) (by kernel_rfl) (fun _ _ _ h => h) (yieldsIf_load_mid (by kernel_rfl) 23 (.tmp 9) rfl w1.heap.size 0 (by simp [Act.eval]) [.int .i64 4, .int .i64 1, .int .i64 2, .string (ba [97]), .int .i64 0, .int .i64 0, .string (ba [])] _ (fun W hW => by obtain ⟨v, hW⟩ := hW; exact Blk.front (post := [v]) hW) Try.underlying23 rfl (by kernel_rfl)) (by assumption) ?_
  change wpAnyH _ _ _ _ _ _ _ (Act.put _ (some (10 : Nat)) (.agg #[.int .i64 4, .int .i64 1, .int .i64 2, .string (ba [97]), .int .i64 0, .int .i64 0, .string (ba [])])) _
  simp only [Act.put, List.setIfInBounds_toArray, List.set_cons_zero, List.set_cons_succ]
  refine wpAnyH_take (i := 7) (v := (.pointer (some ⟨w.heap.size, 0, none⟩))) rfl (by kernel_rfl) (by kernel_rfl) (by kernel_rfl) (fun _ _ _ h => h) (Or.inl ⟨by kernel_rfl, fun w hSw => ?_⟩) (by assumption) ?_
  · (try dsimp only at hSw); go_simp <;> (try rfl)
  change wpAnyH _ _ _ _ _ _ _ (Act.put _ (some (13 : Nat)) (.pointer (some ⟨w.heap.size, 0, none⟩))) _
  simp only [Act.put, List.setIfInBounds_toArray, List.set_cons_zero, List.set_cons_succ]
  refine wpAnyH_take (i := 8) (v := (.iface 53 (.pointer (some ⟨w.heap.size, 0, none⟩)))) rfl (by kernel_rfl) (by kernel_rfl) (by kernel_rfl) (fun _ _ _ h => h) (Or.inl ⟨by kernel_rfl, fun w hSw => ?_⟩) (by assumption) ?_
  · (try dsimp only at hSw); go_simp <;> (try rfl)
  change wpAnyH _ _ _ _ _ _ _ (Act.put _ (some (14 : Nat)) (.iface 53 (.pointer (some ⟨w.heap.size, 0, none⟩)))) _
  simp only [Act.put, List.setIfInBounds_toArray, List.set_cons_zero, List.set_cons_succ]
  refine wpAnyH_take (i := 9) (v := (.pointer (some ⟨w1.heap.size, 0, none⟩))) rfl (by kernel_rfl) (by kernel_rfl) (by kernel_rfl) (fun _ _ _ h => h) (Or.inl ⟨by kernel_rfl, fun w hSw => ?_⟩) (by assumption) ?_
  · (try dsimp only at hSw); go_simp <;> (try rfl)
  change wpAnyH _ _ _ _ _ _ _ (Act.put _ (some (15 : Nat)) (.pointer (some ⟨w1.heap.size, 0, none⟩))) _
  simp only [Act.put, List.setIfInBounds_toArray, List.set_cons_zero, List.set_cons_succ]
  refine wpAnyH_take (i := 10) (v := (.agg #[.int .i64 4, .int .i64 1, .int .i64 2, .string (ba [97]), .int .i64 0, .int .i64 0, .string (ba [])])) rfl (by kernel_rfl) (by kernel_rfl) (by kernel_rfl) (fun _ _ _ h => h) (yieldsIf_load_mid (by kernel_rfl) 23 (.tmp 15) rfl w1.heap.size 0 (by simp [Act.eval]) [.int .i64 4, .int .i64 1, .int .i64 2, .string (ba [97]), .int .i64 0, .int .i64 0, .string (ba [])] _ (fun W hW => by obtain ⟨v, hW⟩ := hW; exact Blk.front (post := [v]) hW) Try.underlying23 rfl (by kernel_rfl)) (by assumption) ?_
  change wpAnyH _ _ _ _ _ _ _ (Act.put _ (some (16 : Nat)) (.agg #[.int .i64 4, .int .i64 1, .int .i64 2, .string (ba [97]), .int .i64 0, .int .i64 0, .string (ba [])])) _
  simp only [Act.put, List.setIfInBounds_toArray, List.set_cons_zero, List.set_cons_succ]
  refine wpAnyH_ready (rs := [0, 5]) (by kernel_rfl) (by simp) ?_
  refine AllReadyH.cons (o := ⟨some 6, .load 26 (.tmp 2), _, _, _, none⟩) rfl (fun K hK => ?_) (AllReadyH.cons rfl (fun K hK => ?_) AllReadyH.nil)
  · as_aux_lemma =>
    refine step_load_at rfl 26 (.tmp 2) rfl (.pointer (some ⟨w1.heap.size, 0, none⟩)) rfl (.agg #[.int .i64 4, .int .i64 1, .int .i64 2, .string (ba [97]), .int .i64 0, .int .i64 0, .string (ba []), .slice none 0 0]) (HB0d.out.loadAt 26 _ Try.underlying26 rfl (by kernel_rfl)) ?_
    refine hK.out _ _ ⟨_, HB0d.out⟩ (fun hHeld1 => ?_)
    clear hHeld hK K
    have hHeld := hHeld1
    clear hHeld1
    change wpAnyH _ _ _ _ _ _ _ (Act.put _ (some (6 : Nat)) (.agg #[.int .i64 4, .int .i64 1, .int .i64 2, .string (ba [97]), .int .i64 0, .int .i64 0, .string (ba []), .slice none 0 0])) _
    simp only [Act.put, List.setIfInBounds_toArray, List.set_cons_zero, List.set_cons_succ]
    refine wpAnyH_ready (rs := [5]) (by kernel_rfl) (by simp) ?_
    refine AllReadyH.cons rfl (fun K hK => ?_) AllReadyH.nil
    go_simp
    refine (HSg.out 2 [] _ HS0.out (by simp)).mono ?_
    rintro e wa ⟨A1, c2, rfl, hta, hsa, hfa⟩; have HTa := Lib.hid hta; have HSa := Lib.hid hsa; have HLa := Lib.hid hfa.low; have HKa := Lib.hid (hfa.blk HB0d.out (by have := HGb.out; omega)); clear hta hsa hfa
    go_wp2_with fail
    refine hK.out _ _ ⟨_, HKa.out⟩ (fun hHeld1 => ?_)
    clear hHeld hK K
    have hHeld := hHeld1
    clear hHeld1
    refine wpAnyH_ready (rs := [6]) (by kernel_rfl) (by simp) ?_
    refine AllReadyH.cons rfl (fun K hK => ?_) AllReadyH.nil
    go_simp
    refine (HWi.out [] ⟨2, tF1⟩ none 0 0 A1 4 c2 _ EsIn.none_ HTa.out (by omega) (by omega) (fun e he => by cases he) (by rw [tF1_cnt]; omega)).mono ?_
    rintro e wb ⟨A2, m2, d2, rfl, hes2, hle2, hmx2, hbb⟩; have HE2 := Lib.hid hes2.es; have HM2 : Hid (m2 = 1) := Lib.hid hes2.es.len.symm; have HC2 := Lib.hid hle2; have HSb := Lib.hid (HSa.out.through hbb); have HLb := Lib.hid (HLa.out.trans (hbb.mono (Nat.le_of_lt HSa.out.lt))); have HKb := Lib.hid (HKa.out.through hbb); clear hes2 hle2 hmx2 hbb
    go_wp2_with fail
    refine hK.out _ _ ⟨_, HKb.out⟩ (fun hHeld1 => ?_)
    clear hHeld hK K
    have hHeld := hHeld1
    clear hHeld1
    refine wpAnyH_ready (rs := [11]) (by kernel_rfl) (by simp) ?_
    refine AllReadyH.cons rfl (fun K hK => ?_) AllReadyH.nil
    go_simp
    refine (HSg.out 0 tsF1 _ HSb.out (by rw [tsF1_len]; omega)).mono ?_
    rintro e wc ⟨A3, c3, rfl, htc, hsc, hfc⟩; have HTc := Lib.hid htc; have HEc := Lib.hid (HE2.out.kf HSb.out hfc); have HSc := Lib.hid hsc; have HLc := Lib.hid (HLb.out.trans hfc.low); have HKc := Lib.hid (hfc.blk HKb.out (by have := HGb.out; omega)); clear htc hsc hfc
    go_wp2_with fail
    refine hK.out _ _ ⟨_, HKc.out⟩ (fun hHeld1 => ?_)
    clear hHeld hK K
    have hHeld := hHeld1
    clear hHeld1
    refine wpAnyH_ready (rs := [12]) (by kernel_rfl) (by simp) ?_
    refine AllReadyH.cons rfl (fun K hK => ?_) AllReadyH.nil
    go_simp
    refine (HWi.out [⟨2, tF1⟩] ⟨0, tF0⟩ A2 m2 d2 A3 4 c3 _ HEc.out HTc.out (by have := HM2.out; omega) HC2.out (fun e he => by rw [List.mem_singleton.1 he, tF1_cnt]; omega) (by rw [tF0_cnt]; omega)).mono ?_
    rintro e wd ⟨A4, m4, d4, rfl, hes4, _, _, hbd⟩; have HO4 := Lib.hid hes4; have HM4 : Hid (m4 = 2) := Lib.hid hes4.es.len.symm; have HWc := Lib.hid HKc.out.lt; have HSd := Lib.hid (HSc.out.through hbd); have HLd := Lib.hid (HLc.out.trans (hbd.mono (Nat.le_of_lt HSc.out.lt))); have HKd := Lib.hid (HKc.out.through hbd); clear hes4 hbd
    go_wp2_with fail
    refine hK.out _ _ ⟨_, HKd.out⟩ (fun hHeld1 => ?_)
    clear hHeld hK K
    have hHeld := hHeld1
    clear hHeld1
    refine wpAnyH_ready (rs := [13]) (by kernel_rfl) (by simp) ?_
    refine AllReadyH.cons (o := ⟨none, .store 26 (.tmp 2) (.tmp 18), _, _, _, none⟩) rfl (fun K hK => ?_) AllReadyH.nil
    refine step_store_blk rfl 26 (.tmp 2) (.tmp 18) rfl w1.heap.size [.int .i64 4, .int .i64 1, .int .i64 2, .string (ba [97]), .int .i64 0, .int .i64 0, .string (ba []), .slice A4 m4 d4] (by simp [Act.eval]) rfl 26 [.int .i64 4, .int .i64 1, .int .i64 2, .string (ba [97]), .int .i64 0, .int .i64 0, .string (ba []), .slice none 0 0] HKd.out (by kernel_rfl) rfl (one8 _ _ _ _ _ _ _ _ _ _) ?_; intro we hbe hge; have HBe := Lib.hid hbe; have HGe := Lib.hid hge; clear hbe hge
    refine hK.out _ _ ⟨_, HBe.out⟩ (fun hHeld1 => ?_)
    clear hHeld hK K
    have hHeld := hHeld1
    clear hHeld1
    change wpAnyH _ _ _ _ _ _ _ (Act.put _ none undef) _
    simp only [Act.put]
    refine wpAnyH_done (by kernel_rfl) ?_ _
    clear hHeld
    obtain rfl : m4 = 2 := HM4.out
    have HOe : Hid (OEs we wc.heap.size (.slice A4 2 d4) esF) := Lib.hid (HO4.out.far HGe.out HWc.out)
    have HSe : Hid (BS we w.heap.size [] tsF2) := Lib.hid (HSd.out.cell ⟨_, _, _, HKd.out⟩ HGe.out (by have := HGb.out; omega))
    have HLe : Hid (Below w.heap.size w we) := Lib.hid ((HL0.out.drew.trans HLd.out).grown HGe.out (HL0.out.drew.trans HLd.out).size (fun k hk => by have := Option.some.inj hk; have := HGb.out; omega))
    obtain ⟨g4, o4, e4, B4, k4, dd4, rfl, he4, _, _, hr4, _⟩ := HOe.out.es.at (i := 0) (by omega)
    have hx4 : (⟨0, tF0⟩ : En) = e4 := Option.some.inj he4
    subst hx4
    have c4 : we.cell? ⟨g4, o4, none⟩ = some (.int .i64 0) := by have h9 := hr4 0 _ rfl; simpa using h9
    have hix : ∀ W, (Instr.indexAt 24 (.slice (some ⟨g4, o4, none⟩) 2 d4) (.int .i64 0)).run Try.prog W = .ok (.pointer (some ⟨g4, o4, none⟩)) W := fun W => by have h9 := Try.ix_en W g4 o4 2 d4 0 (by omega); simpa using h9
    have c7 := HBe.out.cellAt (i := 7) rfl
    have HYe : Hid (Below we.heap.size we we) := Lib.hid (Below.refl _ _)
    have HMk3 : Hid (∀ W, Below we.heap.size we W → Calls Try.prog 11 #[.iface 53 (.pointer (some ⟨w.heap.size, 0, none⟩)), .agg #[.int .i64 4, .int .i64 1, .int .i64 2, .string (ba [97]), .int .i64 0, .int .i64 0, .string (ba []), .slice (some ⟨g4, o4, none⟩) 2 d4], .int .i64 4, .int .i64 3] W fun e w' => e = .returned (.int .u32 5) ∧ Below W.heap.size W w') := Lib.hid (fun W hW => by have h9 := mask_any 53 w.heap.size (holdF 3) fixC esF (some ⟨g4, o4, none⟩) 2 d4 4 3 W (HOe.out.es.through hW) (by omega) (by decide) (by decide) (fun W' hW' o ho t ht T tn tc hy => holds_low w.heap.size (o : Int) 3 t (holdF 3 (o : Int) t) ht T tn tc W' (fun W'' hW'' => bcheck_any (fun _ => True) w.heap.size [] tsF2 (o : Int) 3 txF t T tn tc W'' (HSe.out.through (below_step (below_step hW hW') hW'')) (hy.through hW'') (by rw [tsF2_len]; omega) ht)); rw [maskF3] at h9; exact h9)
    have HMk4 : Hid (∀ W, Below we.heap.size we W → Calls Try.prog 11 #[.iface 53 (.pointer (some ⟨w.heap.size, 0, none⟩)), .agg #[.int .i64 4, .int .i64 1, .int .i64 2, .string (ba [97]), .int .i64 0, .int .i64 0, .string (ba []), .slice (some ⟨g4, o4, none⟩) 2 d4], .int .i64 4, .int .i64 4] W fun e w' => e = .returned (.int .u32 0) ∧ Below W.heap.size W w') := Lib.hid (fun W hW => by have h9 := mask_any 53 w.heap.size (holdF 4) fixC esF (some ⟨g4, o4, none⟩) 2 d4 4 4 W (HOe.out.es.through hW) (by omega) (by decide) (by decide) (fun W' hW' o ho t ht T tn tc hy => holds_low w.heap.size (o : Int) 4 t (holdF 4 (o : Int) t) ht T tn tc W' (fun W'' hW'' => bcheck_any (fun _ => True) w.heap.size [] tsF2 (o : Int) 4 txF t T tn tc W'' (HSe.out.through (below_step (below_step hW hW') hW'')) (hy.through hW'') (by rw [tsF2_len]; omega) ht)); rw [maskF4] at h9; exact h9)
    have HEn4 : Hid (∀ W : World, Calls Try.prog 25 #[.agg #[.int .i64 2, .int .i64 0, .slice none 0 0], .int .u32 4, .int .i64 4] W fun e w' => e = .returned (.bool true) ∧ Below W.heap.size W w') := Lib.hid (fun W => by have h9 := enough_any 4 (by omega) fmF 4 none 0 0 W ⟨by decide, by decide⟩ (by simp [fmF, Fm.In]); rw [enF4] at h9; exact h9)
    have HEn2 : Hid (∀ W : World, Calls Try.prog 25 #[.agg #[.int .i64 2, .int .i64 0, .slice none 0 0], .int .u32 4, .int .i64 2] W fun e w' => e = .returned (.bool false) ∧ Below W.heap.size W w') := Lib.hid (fun W => by have h9 := enough_any 4 (by omega) fmF 2 none 0 0 W ⟨by decide, by decide⟩ (by simp [fmF, Fm.In]); rw [enF2] at h9; exact h9)
    clear hr4 he4
    go_wp2_with (first
        | (refine wpList_load_blk_g 26 (.tmp 2) rfl (by kernel_rfl) w1.heap.size rfl 26 [.int .i64 4, .int .i64 1, .int .i64 2, .string (ba [97]), .int .i64 0, .int .i64 0, .string (ba []), .slice (some ⟨g4, o4, none⟩) 2 d4] _ HBe.out Try.underlying26 rfl (by kernel_rfl) ?_)
        | (go_at_call 11; (with_reducible refine (HMk3.out _ HYe.out).mono ?_); rintro e wf ⟨rfl, hbf⟩; have HYf := Lib.hid (below_step HYe.out hbf); have HBf := Lib.hid (HBe.out.through hbf); clear hbf)
        | (refine wpList_load_blk_g 26 (.tmp 2) rfl (by kernel_rfl) w1.heap.size rfl 26 [.int .i64 4, .int .i64 1, .int .i64 2, .string (ba [97]), .int .i64 0, .int .i64 0, .string (ba []), .slice (some ⟨g4, o4, none⟩) 2 d4] _ HBf.out Try.underlying26 rfl (by kernel_rfl) ?_)
        | (go_at_call 11; (with_reducible refine (HMk4.out _ HYf.out).mono ?_); rintro e wh ⟨rfl, hbh⟩; have HYh := Lib.hid (below_step HYf.out hbh); have HBh := Lib.hid (HBf.out.through hbh); clear hbh)
        | (go_at_call 25; (with_reducible refine (HEn4.out _).mono ?_); rintro e wi ⟨rfl, hbi⟩; have HYi := Lib.hid (below_step HYh.out hbi); clear hbi)
        | (go_at_call 25; (with_reducible refine (HEn2.out _).mono ?_); rintro e wj ⟨rfl, hbj⟩; have HYj := Lib.hid (below_step HYi.out hbj); clear hbj))
    go_ret
    exact ⟨rfl, HLe.out.trans (HYj.out.mono HLe.out.size)⟩
  · as_aux_lemma =>
    go_simp
    refine (HSg.out 2 [] _ HS0.out (by simp)).mono ?_
    rintro e wa ⟨A1, c2, rfl, hta, hsa, hfa⟩; have HTa := Lib.hid hta; have HSa := Lib.hid hsa; have HLa := Lib.hid hfa.low; have HKa := Lib.hid (hfa.blk HB0d.out (by have := HGb.out; omega)); clear hta hsa hfa
    go_wp2_with fail
    refine hK.out _ _ ⟨_, HKa.out⟩ (fun hHeld1 => ?_)
    clear hHeld hK K
    have hHeld := hHeld1
    clear hHeld1
    refine wpAnyH_ready (rs := [0]) (by kernel_rfl) (by simp) ?_
    refine AllReadyH.cons (o := ⟨some 6, .load 26 (.tmp 2), _, _, _, none⟩) rfl (fun K hK => ?_) AllReadyH.nil
    refine step_load_at rfl 26 (.tmp 2) rfl (.pointer (some ⟨w1.heap.size, 0, none⟩)) rfl (.agg #[.int .i64 4, .int .i64 1, .int .i64 2, .string (ba [97]), .int .i64 0, .int .i64 0, .string (ba []), .slice none 0 0]) (HKa.out.loadAt 26 _ Try.underlying26 rfl (by kernel_rfl)) ?_
    refine hK.out _ _ ⟨_, HKa.out⟩ (fun hHeld1 => ?_)
    clear hHeld hK K
    have hHeld := hHeld1
    clear hHeld1
    change wpAnyH _ _ _ _ _ _ _ (Act.put _ (some (6 : Nat)) (.agg #[.int .i64 4, .int .i64 1, .int .i64 2, .string (ba [97]), .int .i64 0, .int .i64 0, .string (ba []), .slice none 0 0])) _
    simp only [Act.put, List.setIfInBounds_toArray, List.set_cons_zero, List.set_cons_succ]
    refine wpAnyH_ready (rs := [6]) (by kernel_rfl) (by simp) ?_
    refine AllReadyH.cons rfl (fun K hK => ?_) AllReadyH.nil
    go_simp
    refine (HWi.out [] ⟨2, tF1⟩ none 0 0 A1 4 c2 _ EsIn.none_ HTa.out (by omega) (by omega) (fun e he => by cases he) (by rw [tF1_cnt]; omega)).mono ?_
    rintro e wb ⟨A2, m2, d2, rfl, hes2, hle2, hmx2, hbb⟩; have HE2 := Lib.hid hes2.es; have HM2 : Hid (m2 = 1) := Lib.hid hes2.es.len.symm; have HC2 := Lib.hid hle2; have HSb := Lib.hid (HSa.out.through hbb); have HLb := Lib.hid (HLa.out.trans (hbb.mono (Nat.le_of_lt HSa.out.lt))); have HKb := Lib.hid (HKa.out.through hbb); clear hes2 hle2 hmx2 hbb
    go_wp2_with fail
    refine hK.out _ _ ⟨_, HKb.out⟩ (fun hHeld1 => ?_)
    clear hHeld hK K
    have hHeld := hHeld1
    clear hHeld1
    refine wpAnyH_ready (rs := [11]) (by kernel_rfl) (by simp) ?_
    refine AllReadyH.cons rfl (fun K hK => ?_) AllReadyH.nil
    go_simp
    refine (HSg.out 0 tsF1 _ HSb.out (by rw [tsF1_len]; omega)).mono ?_
    rintro e wc ⟨A3, c3, rfl, htc, hsc, hfc⟩; have HTc := Lib.hid htc; have HEc := Lib.hid (HE2.out.kf HSb.out hfc); have HSc := Lib.hid hsc; have HLc := Lib.hid (HLb.out.trans hfc.low); have HKc := Lib.hid (hfc.blk HKb.out (by have := HGb.out; omega)); clear htc hsc hfc
    go_wp2_with fail
    refine hK.out _ _ ⟨_, HKc.out⟩ (fun hHeld1 => ?_)
    clear hHeld hK K
    have hHeld := hHeld1
    clear hHeld1
    refine wpAnyH_ready (rs := [12]) (by kernel_rfl) (by simp) ?_
    refine AllReadyH.cons rfl (fun K hK => ?_) AllReadyH.nil
    go_simp
    refine (HWi.out [⟨2, tF1⟩] ⟨0, tF0⟩ A2 m2 d2 A3 4 c3 _ HEc.out HTc.out (by have := HM2.out; omega) HC2.out (fun e he => by rw [List.mem_singleton.1 he, tF1_cnt]; omega) (by rw [tF0_cnt]; omega)).mono ?_
    rintro e wd ⟨A4, m4, d4, rfl, hes4, _, _, hbd⟩; have HO4 := Lib.hid hes4; have HM4 : Hid (m4 = 2) := Lib.hid hes4.es.len.symm; have HWc := Lib.hid HKc.out.lt; have HSd := Lib.hid (HSc.out.through hbd); have HLd := Lib.hid (HLc.out.trans (hbd.mono (Nat.le_of_lt HSc.out.lt))); have HKd := Lib.hid (HKc.out.through hbd); clear hes4 hbd
    go_wp2_with fail
    refine hK.out _ _ ⟨_, HKd.out⟩ (fun hHeld1 => ?_)
    clear hHeld hK K
    have hHeld := hHeld1
    clear hHeld1
    refine wpAnyH_ready (rs := [13]) (by kernel_rfl) (by simp) ?_
    refine AllReadyH.cons (o := ⟨none, .store 26 (.tmp 2) (.tmp 18), _, _, _, none⟩) rfl (fun K hK => ?_) AllReadyH.nil
    refine step_store_blk rfl 26 (.tmp 2) (.tmp 18) rfl w1.heap.size [.int .i64 4, .int .i64 1, .int .i64 2, .string (ba [97]), .int .i64 0, .int .i64 0, .string (ba []), .slice A4 m4 d4] (by simp [Act.eval]) rfl 26 [.int .i64 4, .int .i64 1, .int .i64 2, .string (ba [97]), .int .i64 0, .int .i64 0, .string (ba []), .slice none 0 0] HKd.out (by kernel_rfl) rfl (one8 _ _ _ _ _ _ _ _ _ _) ?_; intro we hbe hge; have HBe := Lib.hid hbe; have HGe := Lib.hid hge; clear hbe hge
    refine hK.out _ _ ⟨_, HBe.out⟩ (fun hHeld1 => ?_)
    clear hHeld hK K
    have hHeld := hHeld1
    clear hHeld1
    change wpAnyH _ _ _ _ _ _ _ (Act.put _ none undef) _
    simp only [Act.put]
    refine wpAnyH_done (by kernel_rfl) ?_ _
    clear hHeld
    obtain rfl : m4 = 2 := HM4.out
    have HOe : Hid (OEs we wc.heap.size (.slice A4 2 d4) esF) := Lib.hid (HO4.out.far HGe.out HWc.out)
    have HSe : Hid (BS we w.heap.size [] tsF2) := Lib.hid (HSd.out.cell ⟨_, _, _, HKd.out⟩ HGe.out (by have := HGb.out; omega))
    have HLe : Hid (Below w.heap.size w we) := Lib.hid ((HL0.out.drew.trans HLd.out).grown HGe.out (HL0.out.drew.trans HLd.out).size (fun k hk => by have := Option.some.inj hk; have := HGb.out; omega))
    obtain ⟨g4, o4, e4, B4, k4, dd4, rfl, he4, _, _, hr4, _⟩ := HOe.out.es.at (i := 0) (by omega)
    have hx4 : (⟨0, tF0⟩ : En) = e4 := Option.some.inj he4
    subst hx4
    have c4 : we.cell? ⟨g4, o4, none⟩ = some (.int .i64 0) := by have h9 := hr4 0 _ rfl; simpa using h9
    have hix : ∀ W, (Instr.indexAt 24 (.slice (some ⟨g4, o4, none⟩) 2 d4) (.int .i64 0)).run Try.prog W = .ok (.pointer (some ⟨g4, o4, none⟩)) W := fun W => by have h9 := Try.ix_en W g4 o4 2 d4 0 (by omega); simpa using h9
    have c7 := HBe.out.cellAt (i := 7) rfl
    have HYe : Hid (Below we.heap.size we we) := Lib.hid (Below.refl _ _)
    have HMk3 : Hid (∀ W, Below we.heap.size we W → Calls Try.prog 11 #[.iface 53 (.pointer (some ⟨w.heap.size, 0, none⟩)), .agg #[.int .i64 4, .int .i64 1, .int .i64 2, .string (ba [97]), .int .i64 0, .int .i64 0, .string (ba []), .slice (some ⟨g4, o4, none⟩) 2 d4], .int .i64 4, .int .i64 3] W fun e w' => e = .returned (.int .u32 5) ∧ Below W.heap.size W w') := Lib.hid (fun W hW => by have h9 := mask_any 53 w.heap.size (holdF 3) fixC esF (some ⟨g4, o4, none⟩) 2 d4 4 3 W (HOe.out.es.through hW) (by omega) (by decide) (by decide) (fun W' hW' o ho t ht T tn tc hy => holds_low w.heap.size (o : Int) 3 t (holdF 3 (o : Int) t) ht T tn tc W' (fun W'' hW'' => bcheck_any (fun _ => True) w.heap.size [] tsF2 (o : Int) 3 txF t T tn tc W'' (HSe.out.through (below_step (below_step hW hW') hW'')) (hy.through hW'') (by rw [tsF2_len]; omega) ht)); rw [maskF3] at h9; exact h9)
    have HMk4 : Hid (∀ W, Below we.heap.size we W → Calls Try.prog 11 #[.iface 53 (.pointer (some ⟨w.heap.size, 0, none⟩)), .agg #[.int .i64 4, .int .i64 1, .int .i64 2, .string (ba [97]), .int .i64 0, .int .i64 0, .string (ba []), .slice (some ⟨g4, o4, none⟩) 2 d4], .int .i64 4, .int .i64 4] W fun e w' => e = .returned (.int .u32 0) ∧ Below W.heap.size W w') := Lib.hid (fun W hW => by have h9 := mask_any 53 w.heap.size (holdF 4) fixC esF (some ⟨g4, o4, none⟩) 2 d4 4 4 W (HOe.out.es.through hW) (by omega) (by decide) (by decide) (fun W' hW' o ho t ht T tn tc hy => holds_low w.heap.size (o : Int) 4 t (holdF 4 (o : Int) t) ht T tn tc W' (fun W'' hW'' => bcheck_any (fun _ => True) w.heap.size [] tsF2 (o : Int) 4 txF t T tn tc W'' (HSe.out.through (below_step (below_step hW hW') hW'')) (hy.through hW'') (by rw [tsF2_len]; omega) ht)); rw [maskF4] at h9; exact h9)
    have HEn4 : Hid (∀ W : World, Calls Try.prog 25 #[.agg #[.int .i64 2, .int .i64 0, .slice none 0 0], .int .u32 4, .int .i64 4] W fun e w' => e = .returned (.bool true) ∧ Below W.heap.size W w') := Lib.hid (fun W => by have h9 := enough_any 4 (by omega) fmF 4 none 0 0 W ⟨by decide, by decide⟩ (by simp [fmF, Fm.In]); rw [enF4] at h9; exact h9)
    have HEn2 : Hid (∀ W : World, Calls Try.prog 25 #[.agg #[.int .i64 2, .int .i64 0, .slice none 0 0], .int .u32 4, .int .i64 2] W fun e w' => e = .returned (.bool false) ∧ Below W.heap.size W w') := Lib.hid (fun W => by have h9 := enough_any 4 (by omega) fmF 2 none 0 0 W ⟨by decide, by decide⟩ (by simp [fmF, Fm.In]); rw [enF2] at h9; exact h9)
    clear hr4 he4
    go_wp2_with (first
        | (refine wpList_load_blk_g 26 (.tmp 2) rfl (by kernel_rfl) w1.heap.size rfl 26 [.int .i64 4, .int .i64 1, .int .i64 2, .string (ba [97]), .int .i64 0, .int .i64 0, .string (ba []), .slice (some ⟨g4, o4, none⟩) 2 d4] _ HBe.out Try.underlying26 rfl (by kernel_rfl) ?_)
        | (go_at_call 11; (with_reducible refine (HMk3.out _ HYe.out).mono ?_); rintro e wf ⟨rfl, hbf⟩; have HYf := Lib.hid (below_step HYe.out hbf); have HBf := Lib.hid (HBe.out.through hbf); clear hbf)
        | (refine wpList_load_blk_g 26 (.tmp 2) rfl (by kernel_rfl) w1.heap.size rfl 26 [.int .i64 4, .int .i64 1, .int .i64 2, .string (ba [97]), .int .i64 0, .int .i64 0, .string (ba []), .slice (some ⟨g4, o4, none⟩) 2 d4] _ HBf.out Try.underlying26 rfl (by kernel_rfl) ?_)
        | (go_at_call 11; (with_reducible refine (HMk4.out _ HYf.out).mono ?_); rintro e wh ⟨rfl, hbh⟩; have HYh := Lib.hid (below_step HYf.out hbh); have HBh := Lib.hid (HBf.out.through hbh); clear hbh)
        | (go_at_call 25; (with_reducible refine (HEn4.out _).mono ?_); rintro e wi ⟨rfl, hbi⟩; have HYi := Lib.hid (below_step HYh.out hbi); clear hbi)
        | (go_at_call 25; (with_reducible refine (HEn2.out _).mono ?_); rintro e wj ⟨rfl, hbj⟩; have HYj := Lib.hid (below_step HYi.out hbj); clear hbj))
    go_ret
    exact ⟨rfl, HLe.out.trans (HYj.out.mono HLe.out.size)⟩

end Go.Proofs.Ytgbobemhogeeeaa
