/-
  vector's Sign and Check, by a Crypto of this kind.
-/
import Derived.Test.YtnncfhkgcaoomaaDoorVBTags
import Derived.Deep.MidRow
import Derived.RegionTactic
import Derived.ChangeAlike
import Derived.StillTailTactics
import Derived.Deep.QuietTactic
import Derived.Outline
import Derived.Recover
namespace Go.Proofs.YtnncfhkgcaoomaaDoor
open Go.RowKit

theorem range_keep {w w' : World} {b o : Nat} {cs : List Value} (h : w.rangeAt b o cs) (e : w'.heap[b]? = w.heap[b]?) : w'.rangeAt b o cs := fun j v hv => (World.cell?_of_block (a := ⟨b, o + j, none⟩) e).trans (h j v hv)
theorem range_blk {w : World} {b o : Nat} {cs : List Value} (h : w.rangeAt b o cs) (hc : 0 < cs.length) : b < w.heap.size ∧ ∃ cs t fr, w.heap[b]? = some (.cells cs t fr) := by
  have h0 := h 0 cs[0] (List.getElem?_eq_getElem hc)
  refine ⟨World.block_lt_of_cell? w ⟨b, o + 0, none⟩ h0, ?_⟩
  unfold World.cell? at h0
  cases hb : w.heap[b]? with
  | none => simp [hb] at h0
  | some o => cases o <;> simp_all
theorem run_index_tags (W : World) (g o n c j : Nat) (hj : j < n) : (Instr.indexAt 24 (.slice (some ⟨g, o, none⟩) n c) (.int .i64 (j : Int))).run Tryd.prog W = .ok (.pointer (some ⟨g, o + j * 32, none⟩)) W := by
  have hs : (sizeOf 37).run Tryd.prog W = .ok 32 W := by kernel_rfl
  have he : Tryd.prog.elem 24 = 37 := by kernel_rfl
  rw [run_indexAt_slice (P := Tryd.prog) W 24 ⟨g, o, none⟩ n c .i64 j (by rw [he]; exact Tryd.underlying24), if_pos ⟨by omega, by omega⟩, he, hs]
  simp only [Result.andThen_ok, Int.toNat_natCast]
  have ea : (⟨g, o, none⟩ : Addr).add (j * 32) = ⟨g, o + j * 32, none⟩ := by unfold Addr.add; split <;> simp_all
  rw [ea]

set_option maxHeartbeats 4000000 in
set_option maxRecDepth 100000 in
theorem sign_B (St : Nat → World → Prop) (g : Nat) (C : Crypt St g) (k f : Int) (body : List UInt8) (tos : List Int) (tg : Nat → List UInt8) (htl : ∀ i, (tg i).length = 32) (Q Q' : Nat → Prop) (hQ' : ∀ k, Q' k → k ≠ g)
    (B : Option Addr) (nb cb : Nat) (hnb : nb ≤ 100000) (A : Option Addr) (n c : Nat) (hn : n ≤ 100000) (w : World) (hst : St 0 w) (hyb : By w Q B nb body) (hya : Iv w Q' A n tos)
    (htag : ∀ T tc W i, i < n → St i W → By W (fun b => b ≠ g) T (1 + nb) (kb k :: body) → Calls Tryd.prog 55 #[.pointer (some ⟨g, 0, none⟩), .int .i64 f, .int .i64 (tos.getD i 0), .slice T (1 + nb) tc] W fun e w' => e = .returned (.agg (vs (tg i)).toArray) ∧ St (i + 1) w' ∧ KF g W w') :
    Calls Tryd.prog 7 #[.iface 30 (.pointer (some ⟨g, 0, none⟩)), .int .i64 k, .int .i64 f, .slice B nb cb, .slice A n c] w fun e w' => ∃ B1 c1 A1 c2, e = .returned (.agg #[.int .i64 k, .int .i64 f, .slice B1 nb c1, .slice A1 n c2]) ∧ By w' (fun b => w.heap.size ≤ b) B1 nb body ∧ Tg w' A1 n ((List.range n).map tg) ∧ (∀ o, A1 = some o → w.heap.size ≤ o.block) ∧ St n w' ∧ KF g w w' := by
  have hg := C.lt 0 w hst
  have htags : ∀ W T tc, w.heap.size ≤ W.heap.size → St 0 W → By W (fun b => b ≠ g) T (1 + nb) (kb k :: body) → Iv W Q' A n tos → Calls Tryd.prog 14 #[.iface 30 (.pointer (some ⟨g, 0, none⟩)), .int .i64 f, .slice T (1 + nb) tc, .slice A n c] W fun e w' => ∃ A' c', e = .returned (.slice A' n c') ∧ Tg w' A' n ((List.range n).map tg) ∧ (∀ o, A' = some o → W.heap.size ≤ o.block) ∧ St n w' ∧ KF g W w' := fun W T tc _ h1 h2 h3 =>
    tags_B St g C f _ tos tg htl _ Q' (fun _ h => h) hQ' T (1 + nb) tc A n c hn W h1 h2 h3 (fun W i hi h4 h5 => htag T tc W i hi h4 h5)
  have HS := Lib.hid hst
  have HB := Lib.hid hyb
  have HA := Lib.hid hya
  have HTags := Lib.hid htags
  clear hst hyb hya htag htags
  go_enter Tryd.func7, Tryd.ntmps7
  go_wp2_with (first
    | (go_at_call 13; (with_reducible refine (clone_any Q B nb cb body _ (HB.out.alloc _) (by omega)).mono ?_); rintro e w1 ⟨v1, rfl, ho1, hb1⟩; have HX1 : Hid (Below w.heap.size w w1) := Lib.hid (((Below.refl _ w).alloc (Nat.le_refl _) _).trans (hb1.mono (by simp))); have HM1 : Hid (Blk w1 w.heap.size 26 [.int .i64 0, .int .i64 0, .slice none 0 0, .slice none 0 0]) := Lib.hid ((Blk.fresh rfl (by kernel_rfl)).through hb1); obtain ⟨B1, c1, rfl, _⟩ := own_form ho1; have HC1 := Lib.hid ((By.of_own (own_weak ho1 (by simp))).weak (Q' := fun b => w.heap.size + 1 ≤ b) fun _ h => h.1); clear ho1 hb1)
    | (go_at_call 8; (with_reducible refine (text_any Q k body B nb cb _ (HB.out.through HX1.out) (by omega)).mono ?_); rintro e w2 ⟨T2, c2, rfl, hy2, hb2⟩; have HX2 := Lib.hid (HX1.out.trans (hb2.mono HX1.out.size)); have HM2 := Lib.hid (HM1.out.through hb2); have HC2 := Lib.hid (HC1.out.through hb2); have HT2 := Lib.hid (hy2.weak (Q' := fun b => b ≠ g) fun _ h => Nat.ne_of_gt (Nat.lt_of_lt_of_le hg (Nat.le_trans HX1.out.size h.1))); clear hy2 hb2)
    | (go_at_call 14; (with_reducible refine (HTags.out _ T2 c2 HX2.out.size (C.below _ _ _ HS.out HX2.out) HT2.out (HA.out.through HX2.out)).mono ?_); rintro e w3 ⟨A3, c3, rfl, ht3, hn3, hs3, hf3⟩; have HT3 := Lib.hid ht3; have HN3 := Lib.hid hn3; have HS3 := Lib.hid hs3; have HM3 := Lib.hid (hf3.blk HM2.out (Nat.ne_of_gt hg)); have HC3 := Lib.hid (HC2.out.kf hf3 (fun b h => by omega)); have HX3 := Lib.hid ((KF.of_below hg HX2.out).trans hf3); clear ht3 hn3 hs3 hf3)
    | (refine wpList_store_blk rfl 26 (.tmp 10) (.tmp 22) rfl w.heap.size [.int .i64 k, .int .i64 f, .slice B1 nb c1, .slice A3 n c3] rfl rfl 26 [.int .i64 0, .int .i64 0, .slice none 0 0, .slice none 0 0] HM3.out (by kernel_rfl) rfl (by simp [Value.oneCell']) ?_; intro w4 hb4 hg4; have HM4 := Lib.hid hb4; have HT4 := Lib.hid (HT3.out.keep (fun k hk _ ⟨o, e⟩ => hg4.block k hk (fun e' => by have := HN3.out _ e; have := Option.some.inj e'; have := HX2.out.size; have := HM2.out.lt; simp only at *; omega))); have HC4 := Lib.hid ((HC3.out.lt.keep (fun k hk => hg4.block k hk.2 (fun e => by have := hk.1; have := Option.some.inj e; omega))).weak (Q' := fun b => w.heap.size ≤ b) fun _ h => by have := h.1; omega); have HS4 := Lib.hid (C.cell _ _ _ _ HS3.out ⟨_, _, _, HM3.out⟩ hg4 hg); have HX4 := Lib.hid (HX3.out.grownB hg4 (Nat.le_refl _) hg); clear hb4 hg4))
  exact bodyPost_ret (v := .agg #[.int .i64 k, .int .i64 f, .slice B1 nb c1, .slice A3 n c3]) (results_cell_row rfl _ _ w.heap.size 26 _ (0, 0) _ rfl HM4.out Tryd.underlying26 rfl (by kernel_rfl)) rfl ⟨B1, c1, A3, c3, rfl, HC4.out, HT4.out, fun o e => Nat.le_trans HX2.out.size (HN3.out o e), HS4.out, HX4.out⟩

set_option maxHeartbeats 4000000 in
set_option maxRecDepth 100000 in
theorem check_B (St : Nat → World → Prop) (g i : Nat) (C : Crypt St g) (k f who : Int) (body tg : List UInt8) (tgs : List (List UInt8)) (bb : Bool) (Q : Nat → Prop)
    (B : Option Addr) (nb cb : Nat) (hnb : nb ≤ 100000) (A : Option Addr) (n c j : Nat) (hj : tgs[j]? = some tg) (w : World) (hst : St i w) (hyb : By w Q B nb body) (hta : Tg w A n tgs) (hne : ∀ o, A = some o → o.block ≠ g)
    (hchk : ∀ T tc W, St i W → By W (fun b => b ≠ g) T (1 + nb) (kb k :: body) → Calls Tryd.prog 53 #[.pointer (some ⟨g, 0, none⟩), .int .i64 f, .int .i64 who, .slice T (1 + nb) tc, .agg (vs tg).toArray] W fun e w' => e = .returned (.bool bb) ∧ St i w' ∧ KF g W w') :
    Calls Tryd.prog 10 #[.iface 30 (.pointer (some ⟨g, 0, none⟩)), .agg #[.int .i64 k, .int .i64 f, .slice B nb cb, .slice A n c], .int .i64 (j : Int), .int .i64 who] w fun e w' => e = .returned (.int .i64 (if bb then 0 else 12)) ∧ St i w' ∧ KF g w w' := by
  have hg := C.lt i w hst
  have hjn : j < n := by
    have h1 := (List.getElem?_eq_some_iff.1 hj).1
    have h2 := hta.1
    omega
  obtain ⟨htl, gt, ot, rfl, hrg⟩ := hta.at j tg hj
  have hgt : gt ≠ g := hne _ rfl
  have hd1 : decide ((j : Int) < 0) = false := by simp
  have hd2 : decide ((n : Int) ≤ (j : Int)) = false := by simp; omega
  obtain ⟨q, hq⟩ : ∃ q, q = vs tg := ⟨_, rfl⟩
  have hql : q.length = 32 := by rw [hq, vs_length, htl]
  rw [← hq] at hrg
  have hhold : ∀ T tc W, St i W → By W (fun b => b ≠ g) T (1 + nb) (kb k :: body) → Calls Tryd.prog 15 #[.iface 30 (.pointer (some ⟨g, 0, none⟩)), .int .i64 f, .int .i64 who, .slice T (1 + nb) tc, .agg q.toArray] W fun e w' => e = .returned (.bool bb) ∧ St i w' ∧ KF g W w' := fun T tc W h1 h2 => by
    rw [hq]
    exact holds_B St g i C f who _ tg bb htl _ T (1 + nb) tc W h1 h2 (fun W h3 h4 => hchk T tc W h3 h4)
  have hix := fun W => run_index_tags W gt ot n c j hjn
  have hrb := range_blk hrg (by omega)
  have HHold := Lib.hid hhold
  have HQl := Lib.hid hql
  have hx0 : Below w.heap.size w (w.alloc (.cells #[.int .i64 k, .int .i64 f, .slice B nb cb, .slice (some ⟨gt, ot, none⟩) n c] 26)) := (Below.refl _ w).alloc (Nat.le_refl _) _
  have H50 : Hid (Blk (w.alloc (.cells #[.int .i64 k, .int .i64 f, .slice B nb cb, .slice (some ⟨gt, ot, none⟩) n c] 26)).drew w.heap.size 26 [.int .i64 k, .int .i64 f, .slice B nb cb, .slice (some ⟨gt, ot, none⟩) n c]) := Lib.hid (Blk.drew (Blk.fresh rfl rfl))
  have HR0 : Hid ((w.alloc (.cells #[.int .i64 k, .int .i64 f, .slice B nb cb, .slice (some ⟨gt, ot, none⟩) n c] 26)).drew.rangeAt gt (ot + j * 32) q) := Lib.hid (range_keep hrg (hx0.block gt hrb.1))
  have HS0 := Lib.hid (C.below _ _ _ hst hx0.drew)
  have HB0 := Lib.hid ((hyb.through hx0).drew)
  have HX0 := Lib.hid (KF.of_below hg hx0.drew)
  clear hst hyb hta hne hchk hj htl hq hql hrg hhold hrb hx0
  go_enter Tryd.func10, Tryd.ntmps10
  go_wp2
  try dsimp only [Act.put]
  refine wp_region_held_drew (S := fun W => Blk W w.heap.size 26 [.int .i64 k, .int .i64 f, .slice B nb cb, .slice (some ⟨gt, ot, none⟩) n c] ∧ W.rangeAt gt (ot + j * 32) q) (by kernel_rfl) ⟨H50.out, HR0.out⟩ (fun hHeld => ?_)
  change wpAnyH _ _ _ _ _ _ #[false, false, false, false, false, false, false, false, false, false, false, false, false, false, false, false] _ _
  refine wpAnyH_take (i := 0) (v := (.iface 30 (.pointer (some ⟨g, 0, none⟩)))) rfl (by kernel_rfl) (by kernel_rfl) (by kernel_rfl) (fun _ _ _ h => h) (Or.inl ⟨by kernel_rfl, fun w hSw => ?_⟩) (by assumption) ?_
  · (try dsimp only at hSw); go_simp <;> (try rfl)
  change wpAnyH _ _ _ _ _ _ _ (Act.put _ (some (18 : Nat)) (.iface 30 (.pointer (some ⟨g, 0, none⟩)))) _
  simp only [Act.put, List.setIfInBounds_toArray, List.set_cons_zero, List.set_cons_succ]
  refine wpAnyH_take (i := 1) (v := (.pointer (some ⟨w.heap.size, 1, none⟩))) rfl (by kernel_rfl) (by kernel_rfl) (by kernel_rfl) (fun _ _ _ h => h) (Or.inl ⟨by kernel_rfl, fun w hSw => ?_⟩) (by assumption) ?_
  · (try dsimp only at hSw); go_simp <;> (try rfl)
  change wpAnyH _ _ _ _ _ _ _ (Act.put _ (some (19 : Nat)) (.pointer (some ⟨w.heap.size, 1, none⟩))) _
  simp only [Act.put, List.setIfInBounds_toArray, List.set_cons_zero, List.set_cons_succ]
  refine wpAnyH_take (i := 2) (v := (.int .i64 f)) rfl (by kernel_rfl) (by kernel_rfl) (by kernel_rfl) (fun _ _ _ h => h) (yields_load_at (by kernel_rfl) 3 (.tmp 19) rfl (.pointer (some ⟨w.heap.size, 1, none⟩)) (by simp [Act.eval]) (.int .i64 f) (fun W hW => load_one' (Tryd.agg_int W) (hW.1.cellAt rfl))) (by assumption) ?_
  change wpAnyH _ _ _ _ _ _ _ (Act.put _ (some (20 : Nat)) (.int .i64 f)) _
  simp only [Act.put, List.setIfInBounds_toArray, List.set_cons_zero, List.set_cons_succ]
  refine wpAnyH_take (i := 3) (v := (.int .i64 who)) rfl (by kernel_rfl) (by kernel_rfl) (by kernel_rfl) (fun _ _ _ h => h) (Or.inl ⟨by kernel_rfl, fun w hSw => ?_⟩) (by assumption) ?_
  · (try dsimp only at hSw); go_simp <;> (try rfl)
  change wpAnyH _ _ _ _ _ _ _ (Act.put _ (some (21 : Nat)) (.int .i64 who)) _
  simp only [Act.put, List.setIfInBounds_toArray, List.set_cons_zero, List.set_cons_succ]
  refine wpAnyH_take (i := 4) (v := (.pointer (some ⟨w.heap.size, 0, none⟩))) rfl (by kernel_rfl) (by kernel_rfl) (by kernel_rfl) (fun _ _ _ h => h) (Or.inl ⟨by kernel_rfl, fun w hSw => ?_⟩) (by assumption) ?_
  · (try dsimp only at hSw); go_simp <;> (try rfl)
  change wpAnyH _ _ _ _ _ _ _ (Act.put _ (some (22 : Nat)) (.pointer (some ⟨w.heap.size, 0, none⟩))) _
  simp only [Act.put, List.setIfInBounds_toArray, List.set_cons_zero, List.set_cons_succ]
  refine wpAnyH_take (i := 5) (v := (.int .i64 k)) rfl (by kernel_rfl) (by kernel_rfl) (by kernel_rfl) (fun _ _ _ h => h) (yields_load_at (by kernel_rfl) 3 (.tmp 22) rfl (.pointer (some ⟨w.heap.size, 0, none⟩)) (by simp [Act.eval]) (.int .i64 k) (fun W hW => load_one' (Tryd.agg_int W) (hW.1.cellAt rfl))) (by assumption) ?_
  change wpAnyH _ _ _ _ _ _ _ (Act.put _ (some (23 : Nat)) (.int .i64 k)) _
  simp only [Act.put, List.setIfInBounds_toArray, List.set_cons_zero, List.set_cons_succ]
  refine wpAnyH_take (i := 6) (v := (.pointer (some ⟨w.heap.size, 2, none⟩))) rfl (by kernel_rfl) (by kernel_rfl) (by kernel_rfl) (fun _ _ _ h => h) (Or.inl ⟨by kernel_rfl, fun w hSw => ?_⟩) (by assumption) ?_
  · (try dsimp only at hSw); go_simp <;> (try rfl)
  change wpAnyH _ _ _ _ _ _ _ (Act.put _ (some (24 : Nat)) (.pointer (some ⟨w.heap.size, 2, none⟩))) _
  simp only [Act.put, List.setIfInBounds_toArray, List.set_cons_zero, List.set_cons_succ]
  refine wpAnyH_take (i := 7) (v := (.slice B nb cb)) rfl (by kernel_rfl) (by kernel_rfl) (by kernel_rfl) (fun _ _ _ h => h) (yields_load_at (by kernel_rfl) 22 (.tmp 24) rfl (.pointer (some ⟨w.heap.size, 2, none⟩)) (by simp [Act.eval]) (.slice B nb cb) (fun W hW => load_one' (Tryd.agg_sl W) (hW.1.cellAt rfl))) (by assumption) ?_
  change wpAnyH _ _ _ _ _ _ _ (Act.put _ (some (25 : Nat)) (.slice B nb cb)) _
  simp only [Act.put, List.setIfInBounds_toArray, List.set_cons_zero, List.set_cons_succ]
  refine wpAnyH_take (i := 9) (v := (.pointer (some ⟨w.heap.size, 3, none⟩))) rfl (by kernel_rfl) (by kernel_rfl) (by kernel_rfl) (fun _ _ _ h => h) (Or.inl ⟨by kernel_rfl, fun w hSw => ?_⟩) (by assumption) ?_
  · (try dsimp only at hSw); go_simp <;> (try rfl)
  change wpAnyH _ _ _ _ _ _ _ (Act.put _ (some (27 : Nat)) (.pointer (some ⟨w.heap.size, 3, none⟩))) _
  simp only [Act.put, List.setIfInBounds_toArray, List.set_cons_zero, List.set_cons_succ]
  refine wpAnyH_take (i := 10) (v := (.slice (some ⟨gt, ot, none⟩) n c)) rfl (by kernel_rfl) (by kernel_rfl) (by kernel_rfl) (fun _ _ _ h => h) (yields_load_at (by kernel_rfl) 24 (.tmp 27) rfl (.pointer (some ⟨w.heap.size, 3, none⟩)) (by simp [Act.eval]) (.slice (some ⟨gt, ot, none⟩) n c) (fun W hW => load_one' (Tryd.agg_tags W) (hW.1.cellAt rfl))) (by assumption) ?_
  change wpAnyH _ _ _ _ _ _ _ (Act.put _ (some (28 : Nat)) (.slice (some ⟨gt, ot, none⟩) n c)) _
  simp only [Act.put, List.setIfInBounds_toArray, List.set_cons_zero, List.set_cons_succ]
  refine wpAnyH_take (i := 11) (v := (.int .i64 (j : Int))) rfl (by kernel_rfl) (by kernel_rfl) (by kernel_rfl) (fun _ _ _ h => h) (Or.inl ⟨by kernel_rfl, fun w hSw => ?_⟩) (by assumption) ?_
  · (try dsimp only at hSw); go_simp <;> (try rfl)
  change wpAnyH _ _ _ _ _ _ _ (Act.put _ (some (29 : Nat)) (.int .i64 (j : Int))) _
  simp only [Act.put, List.setIfInBounds_toArray, List.set_cons_zero, List.set_cons_succ]
  refine wpAnyH_take (i := 12) (v := (.pointer (some ⟨gt, ot + j * 32, none⟩))) rfl (by kernel_rfl) (by kernel_rfl) (by kernel_rfl) (fun _ _ _ h => h) (Or.inl ⟨by kernel_rfl, fun w hSw => ?_⟩) (by assumption) ?_
  · (try dsimp only at hSw); go_simp <;> (try rfl)
  change wpAnyH _ _ _ _ _ _ _ (Act.put _ (some (30 : Nat)) (.pointer (some ⟨gt, ot + j * 32, none⟩))) _
  simp only [Act.put, List.setIfInBounds_toArray, List.set_cons_zero, List.set_cons_succ]
  refine wpAnyH_take (i := 13) (v := (.agg q.toArray)) rfl (by kernel_rfl) (by kernel_rfl) (by kernel_rfl) (fun _ _ _ h => h) (yieldsIf_load_mid (by kernel_rfl) 37 (.tmp 30) rfl gt (ot + j * 32) (by simp [Act.eval]) q _ (fun W hW => hW.2) Tryd.underlying37 rfl (by rw [HQl.out]; kernel_rfl)) (by assumption) ?_
  change wpAnyH _ _ _ _ _ _ _ (Act.put _ (some (31 : Nat)) (.agg q.toArray)) _
  simp only [Act.put, List.setIfInBounds_toArray, List.set_cons_zero, List.set_cons_succ]
  refine wpAnyH_ready (rs := [8]) (by kernel_rfl) (by simp) ?_
  refine AllReadyH.cons rfl (fun K hK => ?_) AllReadyH.nil
  go_simp
  refine (text_any Q k body B nb cb _ HB0.out (by omega)).mono ?_
  rintro e wa ⟨Ta, ca, rfl, hya, hb⟩; have HSa := Lib.hid (C.below _ _ _ HS0.out hb); have HXa := Lib.hid (HX0.out.below hg hb); have H5a := Lib.hid (H50.out.through hb); have HRa := Lib.hid (range_keep HR0.out (hb.block gt (range_blk HR0.out (by rw [HQl.out]; omega)).1)); have HTa := Lib.hid (hya.weak (Q' := fun b => b ≠ g) fun _ h => Nat.ne_of_gt (Nat.lt_of_lt_of_le hg (Nat.le_trans HX0.out.size h.1))); clear hya hb
  go_wp2_with fail
  refine hK.out _ _ ⟨H5a.out, HRa.out⟩ (fun hHeld1 => ?_)
  clear hHeld hK K
  have hHeld := hHeld1
  clear hHeld1
  refine wpAnyH_ready (rs := [14]) (by kernel_rfl) (by simp) ?_
  refine AllReadyH.cons rfl (fun K hK => ?_) AllReadyH.nil
  go_simp
  refine (HHold.out Ta ca _ HSa.out HTa.out).mono ?_
  rintro e wb ⟨rfl, hs, hf⟩; have HSb := Lib.hid hs; have HXb := Lib.hid (HXa.out.trans hf); have H5b := Lib.hid (hf.blk H5a.out (Nat.ne_of_gt hg)); have HRb := Lib.hid (range_keep HRa.out (hf.cells gt hgt (range_blk HRa.out (by rw [HQl.out]; omega)).2)); clear hs hf
  go_wp2_with fail
  refine hK.out _ _ ⟨H5b.out, HRb.out⟩ (fun hHeld1 => ?_)
  clear hHeld hK K
  have hHeld := hHeld1
  clear hHeld1
  refine wpAnyH_take (i := 15) (v := (.bool (!bb))) rfl (by kernel_rfl) (by kernel_rfl) (by kernel_rfl) (fun _ _ _ h => h) (Or.inl ⟨by kernel_rfl, fun w hSw => ?_⟩) (by assumption) ?_
  · (try dsimp only at hSw); go_simp <;> (try rfl)
  change wpAnyH _ _ _ _ _ _ _ (Act.put _ (some (33 : Nat)) (.bool (!bb))) _
  simp only [Act.put, List.setIfInBounds_toArray, List.set_cons_zero, List.set_cons_succ]
  refine wpAnyH_done (by kernel_rfl) ?_ _
  cases bb
  · go_wp2
    go_ret
    exact ⟨rfl, HSb.out, HXb.out⟩
  · go_wp2
    go_ret
    exact ⟨rfl, HSb.out, HXb.out⟩

set_option maxHeartbeats 4000000 in
set_option maxRecDepth 100000 in
theorem check_out (k f who pl : Int) (B : Option Addr) (nb cb : Nat) (A : Option Addr) (n c : Nat) (v : Value) (h : pl < 0 ∨ (n : Int) ≤ pl) (w : World) :
    Calls Tryd.prog 10 #[v, .agg #[.int .i64 k, .int .i64 f, .slice B nb cb, .slice A n c], .int .i64 pl, .int .i64 who] w fun e w' => e = .returned (.int .i64 12) ∧ Below w.heap.size w w' := by
  rcases h with h | h
  · have hd1 : decide (pl < 0) = true := by simp; omega
    go_enter Tryd.func10, Tryd.ntmps10
    go_wp2
    go_ret
    exact ⟨rfl, (Below.refl _ w).alloc (Nat.le_refl _) _⟩
  · have hd1 : decide (pl < 0) = false := by simp; omega
    have hd2 : decide ((n : Int) ≤ pl) = true := by simp; omega
    go_enter Tryd.func10, Tryd.ntmps10
    go_wp2
    go_ret
    exact ⟨rfl, (Below.refl _ w).alloc (Nat.le_refl _) _⟩

end Go.Proofs.YtnncfhkgcaoomaaDoor
