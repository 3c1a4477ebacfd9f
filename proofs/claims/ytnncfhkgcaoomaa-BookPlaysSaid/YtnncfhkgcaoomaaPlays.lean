/-
  BookPlays, walked.
-/
import Derived.Test.YtnncfhkgcaoomaaRDig5
import Derived.Test.YtnncfhkgcaoomaaRChk5
import Derived.Test.YtnncfhkgcaoomaaBFix
import Derived.Test.YtnncfhkgcaoomaaVBSign
namespace Go.Proofs.Ytnncfhkgcaoomaa
open Go.RowKit

/-- An act, as cells. -/
def actC (kd : UInt8) (a b : Int) (T : Option Addr) (n c : Nat) (tg : List UInt8) : List Value := [.int .u8 (kd.toNat : Int), .int .i64 a, .int .i64 b, .slice T n c] ++ vs tg
theorem actC_length (kd : UInt8) (a b : Int) (T : Option Addr) (n c : Nat) (tg : List UInt8) (h : tg.length = 32) : (actC kd a b T n c tg).length = 36 := by simp [actC, vs_length, h]
theorem actC_one (kd : UInt8) (a b : Int) (T : Option Addr) (n c : Nat) (tg : List UInt8) : (actC kd a b T n c tg).toArray.all (·.oneCell') = true := by
  refine Array.all_eq_true_iff_forall_mem.2 fun v hv => ?_
  have hv' : v ∈ actC kd a b T n c tg := by simpa using hv
  rcases List.mem_append.1 hv' with h | h
  · simp at h
    rcases h with rfl | rfl | rfl | rfl <;> rfl
  · exact vs_one v h
/-- A slice of acts, as it lies in memory. -/
def Acts (w : World) (L : Option Addr) (m : Nat) : Prop :=
  0 < m → ∃ g o, L = some ⟨g, o, none⟩ ∧ ∀ i, i < m → ∃ kd a b T n c t tg, w.rangeAt g (o + i * 36) (actC kd a b T n c tg) ∧ By w (fun _ => True) T n t ∧ tg.length = 32
theorem run_index_act (W : World) (g o n c j : Nat) (hj : j < n) : (Instr.indexAt 22 (.slice (some ⟨g, o, none⟩) n c) (.int .i64 (j : Int))).run Try.prog W = .ok (.pointer (some ⟨g, o + j * 36, none⟩)) W := by
  have hs : (sizeOf 37).run Try.prog W = .ok 36 W := by kernel_rfl
  have he : Try.prog.elem 22 = 37 := by kernel_rfl
  rw [run_indexAt_slice (P := Try.prog) W 22 ⟨g, o, none⟩ n c .i64 j (by rw [he]; exact Try.underlying22), if_pos ⟨by omega, by omega⟩, he, hs]
  simp only [Result.andThen_ok, Int.toNat_natCast]
  have ea : (⟨g, o, none⟩ : Addr).add (j * 36) = ⟨g, o + j * 36, none⟩ := by unfold Addr.add; split <;> simp_all
  rw [ea]
theorem Blk.tagRange {w : World} {k : Nat} {t : TypeId} {kd : UInt8} {a b : Int} {T : Option Addr} {n c : Nat} {tg : List UInt8} (h : Blk w k t (actC kd a b T n c tg)) : w.rangeAt k 4 (vs tg) := by
  have h' : Blk w k t ([.int .u8 (kd.toNat : Int), .int .i64 a, .int .i64 b, .slice T n c] ++ (vs tg ++ [])) := by rw [List.append_nil]; exact h
  exact Blk.range h'

set_option maxHeartbeats 16000000 in
set_option maxRecDepth 100000 in
theorem plays_any (L : Option Addr) (m cl : Nat) (w : World) (hacts : Acts w L m) :
    Calls Try.prog 3 #[.slice L m cl] w fun e w' => e = .returned (.bool true) ∧ Below w.heap.size w w' := by
  by_cases hm : 100 < m
  · have hd : decide (100 < (m : Int)) = true := by simp; omega
    clear hacts
    go_enter Try.func3, Try.ntmps3
    go_wp2_with (go_at_call 6; (with_reducible refine (bfixed_any _).mono ?_); rintro e w1 ⟨rfl, hx1⟩)
    go_ret
    exact ⟨rfl, hx1⟩
  have hd : decide (100 < (m : Int)) = false := by simp; omega
  have HL := Lib.hid hacts
  clear hacts
  go_enter Try.func3, Try.ntmps3
  go_wp2_with (first
    | (go_at_call 6; (with_reducible refine (bfixed_any _).mono ?_); rintro e w1 ⟨rfl, hx1⟩; have HX1 := Lib.hid hx1; clear hx1)
    | (go_at_call 7; (with_reducible refine (bnew_any _).mono ?_); rintro e w2 ⟨rfl, hs, hb⟩; have HS2 := Lib.hid hs; have HX2 := Lib.hid (HX1.out.trans (hb.mono HX1.out.size)); have hgb2 := hs.lt; clear hs hb))
  obtain ⟨gr, hgr⟩ : ∃ gr, gr = w2.heap.size := ⟨_, rfl⟩
  have hbg : Blk (w2.alloc (.cells #[.slice none 0 0, .slice none 0 0] 30)) gr 30 [.slice none 0 0, .slice none 0 0] := Blk.fresh hgr rfl
  have hrb : RB (w2.alloc (.cells #[.slice none 0 0, .slice none 0 0] 30)) gr [] [] := ⟨_, _, hbg, World.ownsRow_nil _ _ _ _, World.ownsRow_nil _ _ _ _⟩
  have hal : Below w2.heap.size w2 (w2.alloc (.cells #[.slice none 0 0, .slice none 0 0] 30)) := (Below.refl _ w2).alloc (Nat.le_refl _) _
  have HS3 := Lib.hid (HS2.out.through hal)
  have HR3 := Lib.hid hrb
  have HX3 := Lib.hid (HX2.out.trans (hal.mono HX2.out.size))
  rw [← hgr]
  obtain ⟨gb, hgb⟩ : ∃ gb, gb = w1.heap.size := ⟨_, rfl⟩
  rw [← hgb] at HS3 hgb2
  rw [← hgb]
  have hwb : w.heap.size ≤ gb := by rw [hgb]; exact HX1.out.size
  have hbr : gb < gr := by omega
  have hwr : w.heap.size ≤ gr := by omega
  clear hgr hgb hgb2 hbg hrb hal HS2 HX2 HX1
  go_loopw [23] (fun iv wr => ∃ (j : Nat) (ds : List DK) (ts : List TK), j ≤ m ∧ iv = .int .i64 j ∧ BS wr gb ds ts ∧ RB wr gr ds ts ∧ ds.length ≤ j ∧ ts.length ≤ j ∧ Below w.heap.size w wr) (fun iv _ => m - (intOf iv).toNat)
  case atStart => exact ⟨0, [], [], Nat.zero_le _, rfl, HS3.out, HR3.out, Nat.le_refl _, Nat.le_refl _, HX3.out⟩
  case round =>
    obtain ⟨j, ds, ts, hj, rfl, hs, hr, hdl, htl, hx⟩ := hrel
    have KS := Lib.hid hs
    have KR := Lib.hid hr
    have KX := Lib.hid hx
    clear hs hr hx HS3 HR3 HX3
    by_cases hlt : j < m
    · obtain ⟨ga, oa, rfl, hst⟩ := HL.out (by omega)
      obtain ⟨kd, a, b, T, n, c, t, tg, hrg, hyt, htg⟩ := hst j hlt
      have hal := actC_length kd a b T n c tg htg
      have hgl := (range_blk hrg (by omega)).1
      have HRg := Lib.hid (range_keep hrg (KX.out.block ga hgl))
      have HY := Lib.hid ((hyt.lt.weak (Q' := fun k => k < w.heap.size) fun _ h => h.2).below KX.out)
      have hix := fun W => run_index_act W ga oa m cl j hlt
      have hone := actC_one kd a b T n c tg
      have HAl := Lib.hid hal
      have HOne := Lib.hid hone
      have hgrl : gr < wr.heap.size := KR.out.lt
      clear hst hrg hyt hal hgl hone
      by_cases hbig : 100 < n
      · as_aux_lemma =>
        have hdn : decide (100 < (n : Int)) = true := by simp; omega
        go_wp2_with (first
          | (refine wpList_load_mid rfl 37 (.tmp 25) rfl ga (oa + j * 36) rfl (actC kd a b T n c tg) _ HRg.out Try.underlying37 rfl (by rw [HAl.out]; kernel_rfl) ?_)
          | (refine wpList_store_blk rfl 37 (.tmp 7) (.tmp 26) rfl wr.heap.size (actC kd a b T n c tg) rfl rfl 37 ([.int .u8 0, .int .i64 0, .int .i64 0, .slice none 0 0] ++ vs zero32) (Blk.fresh rfl (by kernel_rfl)) (by rw [HAl.out]; kernel_rfl) (by rw [HAl.out]; rfl) HOne.out ?_; intro w5 hb5 ho5; have hx5 := below_new ho5; have H75 := Lib.hid hb5; have c53 : w5.cell? ⟨wr.heap.size, 3, none⟩ = some (.slice T n c) := hb5.cellAt rfl; have c50 : w5.cell? ⟨wr.heap.size, 0, none⟩ = some (.int .u8 (kd.toNat : Int)) := hb5.cellAt rfl; have HS5 := Lib.hid (KS.out.through hx5); have HR5 := Lib.hid (KR.out.through hx5); have HX5 := Lib.hid (KX.out.trans (hx5.mono KX.out.size)); have HY5 := Lib.hid (HY.out.below (hx5.mono (KX.out.size))); clear hb5 ho5 hx5))
        go_ret
        exact ⟨rfl, HX5.out⟩
      have hdn : decide (100 < (n : Int)) = false := by simp; omega
      have hcase : kd.toNat % 3 = 0 ∨ kd.toNat % 3 = 1 ∨ kd.toNat % 3 = 2 := by omega
      rcases hcase with hk | hk | hk
      · as_aux_lemma =>
        have hk1 : (kd.toNat : Int) % 3 = 0 := by omega
        have hk2 : (kd.toNat : Int).tmod 3 = 0 := by rw [Int.tmod_eq_emod_of_nonneg (by omega)]; exact hk1
        obtain ⟨x, hx⟩ : ∃ x : DK, x = (kb a, t) := ⟨_, rfl⟩
        obtain ⟨ds1, hds1⟩ : ∃ ds1, ds1 = also x ds := ⟨_, rfl⟩
        have hdl1 : ds1.length ≤ j + 1 := by rw [hds1]; have := also_length x ds; omega
        obtain ⟨ts1, hts1⟩ : ∃ ts1, ts1 = ts := ⟨_, rfl⟩
        have htl1 : ts1.length ≤ j + 1 := by rw [hts1]; omega
        obtain ⟨r, hr⟩ : ∃ r, r = vs (numB (kb a) (ord x ds1)) := ⟨_, rfl⟩
        have hp : ∀ W, BS W gb ds ts → By W (fun k => k < w.heap.size) T n t → Calls Try.prog 12 #[.pointer (some ⟨gb, 0, none⟩), .int .i64 a, .slice T n c] W fun e w' => e = .returned (.agg r.toArray) ∧ BS w' gb ds1 ts1 ∧ KF gb W w' := fun W h1 h2 => by
          have h := bdig_any _ gb ds ts a t T n c W h1 h2 (by omega)
          rw [← hx, ← hds1, ← hr, ← hts1] at h
          exact h
        have hq : ∀ W, RB W gr ds ts → By W (fun k => k < w.heap.size) T n t → Calls Try.prog 8 #[.pointer (some ⟨gr, 0, none⟩), .int .i64 a, .slice T n c] W fun e w' => e = .returned (.agg r.toArray) ∧ RB w' gr ds1 ts1 ∧ RF gr W w' := fun W h1 h2 => by
          have h := rdig5_any _ gr ds ts a t T n c W h1 h2 (by omega) (by omega)
          rw [← hx, ← hds1, ← hr, ← hts1] at h
          exact h
        have he : ∀ W, (binOp .eql 38 (.agg r.toArray) (.agg r.toArray)).run Try.prog W = .ok (.bool true) W := fun W => by rw [hr, dig_eql _ _ (numB_length _ _) (numB_length _ _), beq_self_eq_true]
        have hz : ∀ W, BS W gb ds1 ts1 → Calls Try.prog 11 #[.pointer (some ⟨gb, 0, none⟩)] W fun e w' => e = .returned (.tuple #[.int .i64 (ds1.length : Int), .int .i64 (ts1.length : Int)]) ∧ Below W.heap.size W w' := fun W h1 => bsizes_any gb ds1 ts1 W h1
        have HP := Lib.hid hp
        have HQ := Lib.hid hq
        have HZ := Lib.hid hz
        clear hp hq hz hx hds1 hts1 hr
        go_wp2_with (first
          | (refine wpList_load_mid rfl 37 (.tmp 25) rfl ga (oa + j * 36) rfl (actC kd a b T n c tg) _ HRg.out Try.underlying37 rfl (by rw [HAl.out]; kernel_rfl) ?_)
          | (refine wpList_store_blk rfl 37 (.tmp 7) (.tmp 26) rfl wr.heap.size (actC kd a b T n c tg) rfl rfl 37 ([.int .u8 0, .int .i64 0, .int .i64 0, .slice none 0 0] ++ vs zero32) (Blk.fresh rfl (by kernel_rfl)) (by rw [HAl.out]; kernel_rfl) (by rw [HAl.out]; rfl) HOne.out ?_; intro w5 hb5 ho5; have hx5 := below_new ho5; have H75 := Lib.hid hb5; have c53 : w5.cell? ⟨wr.heap.size, 3, none⟩ = some (.slice T n c) := hb5.cellAt rfl; have c50 : w5.cell? ⟨wr.heap.size, 0, none⟩ = some (.int .u8 (kd.toNat : Int)) := hb5.cellAt rfl; have HS5 := Lib.hid (KS.out.through hx5); have HR5 := Lib.hid (KR.out.through hx5); have HX5 := Lib.hid (KX.out.trans (hx5.mono KX.out.size)); have HY5 := Lib.hid (HY.out.below (hx5.mono (KX.out.size))); clear hb5 ho5 hx5))
        obtain ⟨b7, hb7⟩ : ∃ b7, b7 = wr.heap.size := ⟨_, rfl⟩
        rw [← hb7] at H75 c53 c50
        rw [← hb7]
        have h7b : b7 ≠ gb := by omega
        have h7r : b7 ≠ gr := by omega
        clear hb7 c53 c50
        try dsimp only [Act.put]
        have HSp := Lib.hid HS5.out.drew
        have HRp := Lib.hid HR5.out.drew
        have HXp := Lib.hid HX5.out.drew
        have HYp := Lib.hid HY5.out.drew
        have H7p := Lib.hid H75.out.drew
        refine wp_region_held_drew (S := fun W => Blk W b7 37 (actC kd a b T n c tg)) (by kernel_rfl) H7p.out (fun hHeld => ?_)
        change wpAnyH _ _ _ _ _ _ #[false, false, false, false, false, false, false, false, false, false, false, false, false, false] _ _
        refine wpAnyH_take (i := 0) (v := (.iface 24 (.pointer (some ⟨gb, 0, none⟩)))) rfl (by kernel_rfl) (by kernel_rfl) (by kernel_rfl) (fun _ _ _ h => h) (Or.inl ⟨by kernel_rfl, fun w hSw => ?_⟩) (by assumption) ?_
        · (try dsimp only at hSw); go_simp <;> (try rfl)
        change wpAnyH _ _ _ _ _ _ _ (Act.put _ (some (36 : Nat)) (.iface 24 (.pointer (some ⟨gb, 0, none⟩)))) _
        simp only [Act.put, List.setIfInBounds_toArray, List.set_cons_zero, List.set_cons_succ]
        refine wpAnyH_take (i := 1) (v := (.pointer (some ⟨b7, 1, none⟩))) rfl (by kernel_rfl) (by kernel_rfl) (by kernel_rfl) (fun _ _ _ h => h) (Or.inl ⟨by kernel_rfl, fun w hSw => ?_⟩) (by assumption) ?_
        · (try dsimp only at hSw); go_simp <;> (try rfl)
        change wpAnyH _ _ _ _ _ _ _ (Act.put _ (some (37 : Nat)) (.pointer (some ⟨b7, 1, none⟩))) _
        simp only [Act.put, List.setIfInBounds_toArray, List.set_cons_zero, List.set_cons_succ]
        refine wpAnyH_take (i := 2) (v := (.int .i64 a)) rfl (by kernel_rfl) (by kernel_rfl) (by kernel_rfl) (fun _ _ _ h => h) (yields_load_at (by kernel_rfl) 3 (.tmp 37) rfl (.pointer (some ⟨b7, 1, none⟩)) (by simp [Act.eval]) (.int .i64 a) (fun W hW => load_one' (Try.agg_int W) (hW.cellAt rfl))) (by assumption) ?_
        change wpAnyH _ _ _ _ _ _ _ (Act.put _ (some (38 : Nat)) (.int .i64 a)) _
        simp only [Act.put, List.setIfInBounds_toArray, List.set_cons_zero, List.set_cons_succ]
        refine wpAnyH_take (i := 3) (v := (.pointer (some ⟨b7, 3, none⟩))) rfl (by kernel_rfl) (by kernel_rfl) (by kernel_rfl) (fun _ _ _ h => h) (Or.inl ⟨by kernel_rfl, fun w hSw => ?_⟩) (by assumption) ?_
        · (try dsimp only at hSw); go_simp <;> (try rfl)
        change wpAnyH _ _ _ _ _ _ _ (Act.put _ (some (39 : Nat)) (.pointer (some ⟨b7, 3, none⟩))) _
        simp only [Act.put, List.setIfInBounds_toArray, List.set_cons_zero, List.set_cons_succ]
        refine wpAnyH_take (i := 4) (v := (.slice T n c)) rfl (by kernel_rfl) (by kernel_rfl) (by kernel_rfl) (fun _ _ _ h => h) (yields_load_at (by kernel_rfl) 33 (.tmp 39) rfl (.pointer (some ⟨b7, 3, none⟩)) (by simp [Act.eval]) (.slice T n c) (fun W hW => load_one' (Try.agg_sl W) (hW.cellAt rfl))) (by assumption) ?_
        change wpAnyH _ _ _ _ _ _ _ (Act.put _ (some (40 : Nat)) (.slice T n c)) _
        simp only [Act.put, List.setIfInBounds_toArray, List.set_cons_zero, List.set_cons_succ]
        refine wpAnyH_take (i := 6) (v := (.pointer (some ⟨gr, 0, none⟩))) rfl (by kernel_rfl) (by kernel_rfl) (by kernel_rfl) (fun _ _ _ h => h) (Or.inl ⟨by kernel_rfl, fun w hSw => ?_⟩) (by assumption) ?_
        · (try dsimp only at hSw); go_simp <;> (try rfl)
        change wpAnyH _ _ _ _ _ _ _ (Act.put _ (some (42 : Nat)) (.pointer (some ⟨gr, 0, none⟩))) _
        simp only [Act.put, List.setIfInBounds_toArray, List.set_cons_zero, List.set_cons_succ]
        refine wpAnyH_take (i := 7) (v := (.pointer (some ⟨b7, 1, none⟩))) rfl (by kernel_rfl) (by kernel_rfl) (by kernel_rfl) (fun _ _ _ h => h) (Or.inl ⟨by kernel_rfl, fun w hSw => ?_⟩) (by assumption) ?_
        · (try dsimp only at hSw); go_simp <;> (try rfl)
        change wpAnyH _ _ _ _ _ _ _ (Act.put _ (some (43 : Nat)) (.pointer (some ⟨b7, 1, none⟩))) _
        simp only [Act.put, List.setIfInBounds_toArray, List.set_cons_zero, List.set_cons_succ]
        refine wpAnyH_take (i := 8) (v := (.int .i64 a)) rfl (by kernel_rfl) (by kernel_rfl) (by kernel_rfl) (fun _ _ _ h => h) (yields_load_at (by kernel_rfl) 3 (.tmp 43) rfl (.pointer (some ⟨b7, 1, none⟩)) (by simp [Act.eval]) (.int .i64 a) (fun W hW => load_one' (Try.agg_int W) (hW.cellAt rfl))) (by assumption) ?_
        change wpAnyH _ _ _ _ _ _ _ (Act.put _ (some (44 : Nat)) (.int .i64 a)) _
        simp only [Act.put, List.setIfInBounds_toArray, List.set_cons_zero, List.set_cons_succ]
        refine wpAnyH_take (i := 9) (v := (.pointer (some ⟨b7, 3, none⟩))) rfl (by kernel_rfl) (by kernel_rfl) (by kernel_rfl) (fun _ _ _ h => h) (Or.inl ⟨by kernel_rfl, fun w hSw => ?_⟩) (by assumption) ?_
        · (try dsimp only at hSw); go_simp <;> (try rfl)
        change wpAnyH _ _ _ _ _ _ _ (Act.put _ (some (45 : Nat)) (.pointer (some ⟨b7, 3, none⟩))) _
        simp only [Act.put, List.setIfInBounds_toArray, List.set_cons_zero, List.set_cons_succ]
        refine wpAnyH_take (i := 10) (v := (.slice T n c)) rfl (by kernel_rfl) (by kernel_rfl) (by kernel_rfl) (fun _ _ _ h => h) (yields_load_at (by kernel_rfl) 33 (.tmp 45) rfl (.pointer (some ⟨b7, 3, none⟩)) (by simp [Act.eval]) (.slice T n c) (fun W hW => load_one' (Try.agg_sl W) (hW.cellAt rfl))) (by assumption) ?_
        change wpAnyH _ _ _ _ _ _ _ (Act.put _ (some (46 : Nat)) (.slice T n c)) _
        simp only [Act.put, List.setIfInBounds_toArray, List.set_cons_zero, List.set_cons_succ]
        refine wpAnyH_ready (rs := [5]) (by kernel_rfl) (by simp) ?_
        refine AllReadyH.cons rfl (fun K hK => ?_) AllReadyH.nil
        go_simp
        refine (HP.out _ HSp.out HYp.out).mono ?_
        rintro e wa ⟨rfl, hs, hf⟩; have HSa := Lib.hid hs; have HRa := Lib.hid (HRp.out.kf hf hbr); have H7a := Lib.hid (hf.blk H7p.out h7b); have HYa := Lib.hid (HYp.out.kf hf (fun k hk => by omega)); have HXa := Lib.hid (HXp.out.trans (hf.low.mono hwb)); clear hs hf
        go_wp2_with fail
        refine hK.out _ _ H7a.out (fun hHeld1 => ?_)
        clear hHeld hK K
        have hHeld := hHeld1
        clear hHeld1
        refine wpAnyH_ready (rs := [11]) (by kernel_rfl) (by simp) ?_
        refine AllReadyH.cons rfl (fun K hK => ?_) AllReadyH.nil
        go_simp
        refine (HQ.out _ HRa.out HYa.out).mono ?_
        rintro e wb ⟨rfl, hr, hf⟩; have hcl := HRa.out.choose_spec.choose_spec.1; have HSb := Lib.hid (HSa.out.rf hf hbr ⟨_, _, _, hcl⟩); have HRb := Lib.hid hr; have H7b := Lib.hid (hf.blk H7a.out h7r (by decide) (by decide)); have HXb := Lib.hid (HXa.out.trans (hf.low.mono hwr)); clear hr hf hcl
        go_wp2_with fail
        refine hK.out _ _ H7b.out (fun hHeld1 => ?_)
        clear hHeld hK K
        have hHeld := hHeld1
        clear hHeld1
        refine wpAnyH_take (i := 12) (v := (.bool true)) rfl (by kernel_rfl) (by kernel_rfl) (by kernel_rfl) (fun _ _ _ h => h) (Or.inl ⟨by kernel_rfl, fun w hSw => ?_⟩) (by assumption) ?_
        · (try dsimp only at hSw); go_simp <;> (try rfl)
        change wpAnyH _ _ _ _ _ _ _ (Act.put _ (some (48 : Nat)) (.bool true)) _
        simp only [Act.put, List.setIfInBounds_toArray, List.set_cons_zero, List.set_cons_succ]
        refine wpAnyH_take (i := 13) (v := (.bool true)) rfl (by kernel_rfl) (by kernel_rfl) (by kernel_rfl) (fun _ _ _ h => h) (Or.inl ⟨by kernel_rfl, fun w hSw => ?_⟩) (by assumption) ?_
        · (try dsimp only at hSw); go_simp <;> (try rfl)
        change wpAnyH _ _ _ _ _ _ _ (Act.put _ (some (8 : Nat)) (.bool true)) _
        simp only [Act.put, List.setIfInBounds_toArray, List.set_cons_zero, List.set_cons_succ]
        refine wpAnyH_done (by kernel_rfl) ?_ _
        obtain ⟨v1, v2, hg1, hv1, hv2⟩ := HRb.out
        obtain ⟨A1, c1, rfl, _⟩ := own_formS hv1
        obtain ⟨A2, c2, rfl, _⟩ := own_formS hv2
        have HG1 := Lib.hid hg1
        clear hg1 hv1 hv2
        obtain ⟨L1, hL1⟩ : ∃ L1, L1 = ds1.length := ⟨_, rfl⟩
        obtain ⟨L2, hL2⟩ : ∃ L2, L2 = ts1.length := ⟨_, rfl⟩
        have hzz := HZ.out _ HSb.out
        rw [← hL1, ← hL2] at hzz HG1
        have HZZ := Lib.hid hzz
        clear hzz hL1 hL2
        go_wp2_with (go_at_call 11; (with_reducible refine (HZZ.out).mono ?_); rintro e wc ⟨rfl, hb⟩; have HGc := Lib.hid (HG1.out.through hb); have c0 := HGc.out.cellAt (i := 0) rfl; have c1' := HGc.out.cellAt (i := 1) rfl; have HSc := Lib.hid (HSb.out.through hb); have HRc := Lib.hid (HRb.out.through hb); have HXc := Lib.hid (HXb.out.trans (hb.mono HXb.out.size)); clear hb)
        go_roundw
        case rel => exact ⟨j + 1, ds1, ts1, by omega, by go_num, HSc.out, HRc.out, hdl1, htl1, HXc.out⟩
        case measure => simp [intOf]; omega
      · as_aux_lemma =>
        have hk1 : (kd.toNat : Int) % 3 = 1 := by omega
        have hk2 : (kd.toNat : Int).tmod 3 = 1 := by rw [Int.tmod_eq_emod_of_nonneg (by omega)]; exact hk1
        obtain ⟨x, hx⟩ : ∃ x : TK, x = (a, b, t) := ⟨_, rfl⟩
        obtain ⟨ts1, hts1⟩ : ∃ ts1, ts1 = also x ts := ⟨_, rfl⟩
        have htl1 : ts1.length ≤ j + 1 := by rw [hts1]; have := also_length x ts; omega
        obtain ⟨ds1, hds1⟩ : ∃ ds1, ds1 = ds := ⟨_, rfl⟩
        have hdl1 : ds1.length ≤ j + 1 := by rw [hds1]; omega
        obtain ⟨r, hr⟩ : ∃ r, r = vs (numB 255 (ord x ts1)) := ⟨_, rfl⟩
        have hp : ∀ W, BS W gb ds ts → By W (fun k => k < w.heap.size) T n t → Calls Try.prog 13 #[.pointer (some ⟨gb, 0, none⟩), .int .i64 a, .int .i64 b, .slice T n c] W fun e w' => e = .returned (.agg r.toArray) ∧ BS w' gb ds1 ts1 ∧ KF gb W w' := fun W h1 h2 => by
          have h := btag_any _ gb ds ts a b t T n c W h1 h2 (by omega)
          rw [← hx, ← hts1, ← hr, ← hds1] at h
          exact h
        have hq : ∀ W, RB W gr ds ts → By W (fun k => k < w.heap.size) T n t → Calls Try.prog 9 #[.pointer (some ⟨gr, 0, none⟩), .int .i64 a, .int .i64 b, .slice T n c] W fun e w' => e = .returned (.agg r.toArray) ∧ RB w' gr ds1 ts1 ∧ RF gr W w' := fun W h1 h2 => by
          have h := rtag5_any _ gr ds ts a b t T n c W h1 h2 (by omega)
          rw [← hx, ← hts1, ← hr, ← hds1] at h
          exact h
        have he : ∀ W, (binOp .eql 35 (.agg r.toArray) (.agg r.toArray)).run Try.prog W = .ok (.bool true) W := fun W => by rw [hr, tag_eql _ _ (numB_length _ _) (numB_length _ _), beq_self_eq_true]
        have hz : ∀ W, BS W gb ds1 ts1 → Calls Try.prog 11 #[.pointer (some ⟨gb, 0, none⟩)] W fun e w' => e = .returned (.tuple #[.int .i64 (ds1.length : Int), .int .i64 (ts1.length : Int)]) ∧ Below W.heap.size W w' := fun W h1 => bsizes_any gb ds1 ts1 W h1
        have HP := Lib.hid hp
        have HQ := Lib.hid hq
        have HZ := Lib.hid hz
        clear hp hq hz hx hds1 hts1 hr
        go_wp2_with (first
          | (refine wpList_load_mid rfl 37 (.tmp 25) rfl ga (oa + j * 36) rfl (actC kd a b T n c tg) _ HRg.out Try.underlying37 rfl (by rw [HAl.out]; kernel_rfl) ?_)
          | (refine wpList_store_blk rfl 37 (.tmp 7) (.tmp 26) rfl wr.heap.size (actC kd a b T n c tg) rfl rfl 37 ([.int .u8 0, .int .i64 0, .int .i64 0, .slice none 0 0] ++ vs zero32) (Blk.fresh rfl (by kernel_rfl)) (by rw [HAl.out]; kernel_rfl) (by rw [HAl.out]; rfl) HOne.out ?_; intro w5 hb5 ho5; have hx5 := below_new ho5; have H75 := Lib.hid hb5; have c53 : w5.cell? ⟨wr.heap.size, 3, none⟩ = some (.slice T n c) := hb5.cellAt rfl; have c50 : w5.cell? ⟨wr.heap.size, 0, none⟩ = some (.int .u8 (kd.toNat : Int)) := hb5.cellAt rfl; have HS5 := Lib.hid (KS.out.through hx5); have HR5 := Lib.hid (KR.out.through hx5); have HX5 := Lib.hid (KX.out.trans (hx5.mono KX.out.size)); have HY5 := Lib.hid (HY.out.below (hx5.mono (KX.out.size))); clear hb5 ho5 hx5))
        obtain ⟨b7, hb7⟩ : ∃ b7, b7 = wr.heap.size := ⟨_, rfl⟩
        rw [← hb7] at H75 c53 c50
        rw [← hb7]
        have h7b : b7 ≠ gb := by omega
        have h7r : b7 ≠ gr := by omega
        clear hb7 c53 c50
        try dsimp only [Act.put]
        have HSp := Lib.hid HS5.out.drew
        have HRp := Lib.hid HR5.out.drew
        have HXp := Lib.hid HX5.out.drew
        have HYp := Lib.hid HY5.out.drew
        have H7p := Lib.hid H75.out.drew
        refine wp_region_held_drew (S := fun W => Blk W b7 37 (actC kd a b T n c tg)) (by kernel_rfl) H7p.out (fun hHeld => ?_)
        change wpAnyH _ _ _ _ _ _ #[false, false, false, false, false, false, false, false, false, false, false, false, false, false, false, false, false, false] _ _
        refine wpAnyH_take (i := 0) (v := (.iface 24 (.pointer (some ⟨gb, 0, none⟩)))) rfl (by kernel_rfl) (by kernel_rfl) (by kernel_rfl) (fun _ _ _ h => h) (Or.inl ⟨by kernel_rfl, fun w hSw => ?_⟩) (by assumption) ?_
        · (try dsimp only at hSw); go_simp <;> (try rfl)
        change wpAnyH _ _ _ _ _ _ _ (Act.put _ (some (51 : Nat)) (.iface 24 (.pointer (some ⟨gb, 0, none⟩)))) _
        simp only [Act.put, List.setIfInBounds_toArray, List.set_cons_zero, List.set_cons_succ]
        refine wpAnyH_take (i := 1) (v := (.pointer (some ⟨b7, 1, none⟩))) rfl (by kernel_rfl) (by kernel_rfl) (by kernel_rfl) (fun _ _ _ h => h) (Or.inl ⟨by kernel_rfl, fun w hSw => ?_⟩) (by assumption) ?_
        · (try dsimp only at hSw); go_simp <;> (try rfl)
        change wpAnyH _ _ _ _ _ _ _ (Act.put _ (some (52 : Nat)) (.pointer (some ⟨b7, 1, none⟩))) _
        simp only [Act.put, List.setIfInBounds_toArray, List.set_cons_zero, List.set_cons_succ]
        refine wpAnyH_take (i := 2) (v := (.int .i64 a)) rfl (by kernel_rfl) (by kernel_rfl) (by kernel_rfl) (fun _ _ _ h => h) (yields_load_at (by kernel_rfl) 3 (.tmp 52) rfl (.pointer (some ⟨b7, 1, none⟩)) (by simp [Act.eval]) (.int .i64 a) (fun W hW => load_one' (Try.agg_int W) (hW.cellAt rfl))) (by assumption) ?_
        change wpAnyH _ _ _ _ _ _ _ (Act.put _ (some (53 : Nat)) (.int .i64 a)) _
        simp only [Act.put, List.setIfInBounds_toArray, List.set_cons_zero, List.set_cons_succ]
        refine wpAnyH_take (i := 3) (v := (.pointer (some ⟨b7, 2, none⟩))) rfl (by kernel_rfl) (by kernel_rfl) (by kernel_rfl) (fun _ _ _ h => h) (Or.inl ⟨by kernel_rfl, fun w hSw => ?_⟩) (by assumption) ?_
        · (try dsimp only at hSw); go_simp <;> (try rfl)
        change wpAnyH _ _ _ _ _ _ _ (Act.put _ (some (54 : Nat)) (.pointer (some ⟨b7, 2, none⟩))) _
        simp only [Act.put, List.setIfInBounds_toArray, List.set_cons_zero, List.set_cons_succ]
        refine wpAnyH_take (i := 4) (v := (.int .i64 b)) rfl (by kernel_rfl) (by kernel_rfl) (by kernel_rfl) (fun _ _ _ h => h) (yields_load_at (by kernel_rfl) 3 (.tmp 54) rfl (.pointer (some ⟨b7, 2, none⟩)) (by simp [Act.eval]) (.int .i64 b) (fun W hW => load_one' (Try.agg_int W) (hW.cellAt rfl))) (by assumption) ?_
        change wpAnyH _ _ _ _ _ _ _ (Act.put _ (some (55 : Nat)) (.int .i64 b)) _
        simp only [Act.put, List.setIfInBounds_toArray, List.set_cons_zero, List.set_cons_succ]
        refine wpAnyH_take (i := 5) (v := (.pointer (some ⟨b7, 3, none⟩))) rfl (by kernel_rfl) (by kernel_rfl) (by kernel_rfl) (fun _ _ _ h => h) (Or.inl ⟨by kernel_rfl, fun w hSw => ?_⟩) (by assumption) ?_
        · (try dsimp only at hSw); go_simp <;> (try rfl)
        change wpAnyH _ _ _ _ _ _ _ (Act.put _ (some (56 : Nat)) (.pointer (some ⟨b7, 3, none⟩))) _
        simp only [Act.put, List.setIfInBounds_toArray, List.set_cons_zero, List.set_cons_succ]
        refine wpAnyH_take (i := 6) (v := (.slice T n c)) rfl (by kernel_rfl) (by kernel_rfl) (by kernel_rfl) (fun _ _ _ h => h) (yields_load_at (by kernel_rfl) 33 (.tmp 56) rfl (.pointer (some ⟨b7, 3, none⟩)) (by simp [Act.eval]) (.slice T n c) (fun W hW => load_one' (Try.agg_sl W) (hW.cellAt rfl))) (by assumption) ?_
        change wpAnyH _ _ _ _ _ _ _ (Act.put _ (some (57 : Nat)) (.slice T n c)) _
        simp only [Act.put, List.setIfInBounds_toArray, List.set_cons_zero, List.set_cons_succ]
        refine wpAnyH_take (i := 8) (v := (.pointer (some ⟨gr, 0, none⟩))) rfl (by kernel_rfl) (by kernel_rfl) (by kernel_rfl) (fun _ _ _ h => h) (Or.inl ⟨by kernel_rfl, fun w hSw => ?_⟩) (by assumption) ?_
        · (try dsimp only at hSw); go_simp <;> (try rfl)
        change wpAnyH _ _ _ _ _ _ _ (Act.put _ (some (59 : Nat)) (.pointer (some ⟨gr, 0, none⟩))) _
        simp only [Act.put, List.setIfInBounds_toArray, List.set_cons_zero, List.set_cons_succ]
        refine wpAnyH_take (i := 9) (v := (.pointer (some ⟨b7, 1, none⟩))) rfl (by kernel_rfl) (by kernel_rfl) (by kernel_rfl) (fun _ _ _ h => h) (Or.inl ⟨by kernel_rfl, fun w hSw => ?_⟩) (by assumption) ?_
        · (try dsimp only at hSw); go_simp <;> (try rfl)
        change wpAnyH _ _ _ _ _ _ _ (Act.put _ (some (60 : Nat)) (.pointer (some ⟨b7, 1, none⟩))) _
        simp only [Act.put, List.setIfInBounds_toArray, List.set_cons_zero, List.set_cons_succ]
        refine wpAnyH_take (i := 10) (v := (.int .i64 a)) rfl (by kernel_rfl) (by kernel_rfl) (by kernel_rfl) (fun _ _ _ h => h) (yields_load_at (by kernel_rfl) 3 (.tmp 60) rfl (.pointer (some ⟨b7, 1, none⟩)) (by simp [Act.eval]) (.int .i64 a) (fun W hW => load_one' (Try.agg_int W) (hW.cellAt rfl))) (by assumption) ?_
        change wpAnyH _ _ _ _ _ _ _ (Act.put _ (some (61 : Nat)) (.int .i64 a)) _
        simp only [Act.put, List.setIfInBounds_toArray, List.set_cons_zero, List.set_cons_succ]
        refine wpAnyH_take (i := 11) (v := (.pointer (some ⟨b7, 2, none⟩))) rfl (by kernel_rfl) (by kernel_rfl) (by kernel_rfl) (fun _ _ _ h => h) (Or.inl ⟨by kernel_rfl, fun w hSw => ?_⟩) (by assumption) ?_
        · (try dsimp only at hSw); go_simp <;> (try rfl)
        change wpAnyH _ _ _ _ _ _ _ (Act.put _ (some (62 : Nat)) (.pointer (some ⟨b7, 2, none⟩))) _
        simp only [Act.put, List.setIfInBounds_toArray, List.set_cons_zero, List.set_cons_succ]
        refine wpAnyH_take (i := 12) (v := (.int .i64 b)) rfl (by kernel_rfl) (by kernel_rfl) (by kernel_rfl) (fun _ _ _ h => h) (yields_load_at (by kernel_rfl) 3 (.tmp 62) rfl (.pointer (some ⟨b7, 2, none⟩)) (by simp [Act.eval]) (.int .i64 b) (fun W hW => load_one' (Try.agg_int W) (hW.cellAt rfl))) (by assumption) ?_
        change wpAnyH _ _ _ _ _ _ _ (Act.put _ (some (63 : Nat)) (.int .i64 b)) _
        simp only [Act.put, List.setIfInBounds_toArray, List.set_cons_zero, List.set_cons_succ]
        refine wpAnyH_take (i := 13) (v := (.pointer (some ⟨b7, 3, none⟩))) rfl (by kernel_rfl) (by kernel_rfl) (by kernel_rfl) (fun _ _ _ h => h) (Or.inl ⟨by kernel_rfl, fun w hSw => ?_⟩) (by assumption) ?_
        · (try dsimp only at hSw); go_simp <;> (try rfl)
        change wpAnyH _ _ _ _ _ _ _ (Act.put _ (some (64 : Nat)) (.pointer (some ⟨b7, 3, none⟩))) _
        simp only [Act.put, List.setIfInBounds_toArray, List.set_cons_zero, List.set_cons_succ]
        refine wpAnyH_take (i := 14) (v := (.slice T n c)) rfl (by kernel_rfl) (by kernel_rfl) (by kernel_rfl) (fun _ _ _ h => h) (yields_load_at (by kernel_rfl) 33 (.tmp 64) rfl (.pointer (some ⟨b7, 3, none⟩)) (by simp [Act.eval]) (.slice T n c) (fun W hW => load_one' (Try.agg_sl W) (hW.cellAt rfl))) (by assumption) ?_
        change wpAnyH _ _ _ _ _ _ _ (Act.put _ (some (65 : Nat)) (.slice T n c)) _
        simp only [Act.put, List.setIfInBounds_toArray, List.set_cons_zero, List.set_cons_succ]
        refine wpAnyH_ready (rs := [7]) (by kernel_rfl) (by simp) ?_
        refine AllReadyH.cons rfl (fun K hK => ?_) AllReadyH.nil
        go_simp
        refine (HP.out _ HSp.out HYp.out).mono ?_
        rintro e wa ⟨rfl, hs, hf⟩; have HSa := Lib.hid hs; have HRa := Lib.hid (HRp.out.kf hf hbr); have H7a := Lib.hid (hf.blk H7p.out h7b); have HYa := Lib.hid (HYp.out.kf hf (fun k hk => by omega)); have HXa := Lib.hid (HXp.out.trans (hf.low.mono hwb)); clear hs hf
        go_wp2_with fail
        refine hK.out _ _ H7a.out (fun hHeld1 => ?_)
        clear hHeld hK K
        have hHeld := hHeld1
        clear hHeld1
        refine wpAnyH_ready (rs := [15]) (by kernel_rfl) (by simp) ?_
        refine AllReadyH.cons rfl (fun K hK => ?_) AllReadyH.nil
        go_simp
        refine (HQ.out _ HRa.out HYa.out).mono ?_
        rintro e wb ⟨rfl, hr, hf⟩; have hcl := HRa.out.choose_spec.choose_spec.1; have HSb := Lib.hid (HSa.out.rf hf hbr ⟨_, _, _, hcl⟩); have HRb := Lib.hid hr; have H7b := Lib.hid (hf.blk H7a.out h7r (by decide) (by decide)); have HXb := Lib.hid (HXa.out.trans (hf.low.mono hwr)); clear hr hf hcl
        go_wp2_with fail
        refine hK.out _ _ H7b.out (fun hHeld1 => ?_)
        clear hHeld hK K
        have hHeld := hHeld1
        clear hHeld1
        refine wpAnyH_take (i := 16) (v := (.bool true)) rfl (by kernel_rfl) (by kernel_rfl) (by kernel_rfl) (fun _ _ _ h => h) (Or.inl ⟨by kernel_rfl, fun w hSw => ?_⟩) (by assumption) ?_
        · (try dsimp only at hSw); go_simp <;> (try rfl)
        change wpAnyH _ _ _ _ _ _ _ (Act.put _ (some (67 : Nat)) (.bool true)) _
        simp only [Act.put, List.setIfInBounds_toArray, List.set_cons_zero, List.set_cons_succ]
        refine wpAnyH_take (i := 17) (v := (.bool true)) rfl (by kernel_rfl) (by kernel_rfl) (by kernel_rfl) (fun _ _ _ h => h) (Or.inl ⟨by kernel_rfl, fun w hSw => ?_⟩) (by assumption) ?_
        · (try dsimp only at hSw); go_simp <;> (try rfl)
        change wpAnyH _ _ _ _ _ _ _ (Act.put _ (some (8 : Nat)) (.bool true)) _
        simp only [Act.put, List.setIfInBounds_toArray, List.set_cons_zero, List.set_cons_succ]
        refine wpAnyH_done (by kernel_rfl) ?_ _
        obtain ⟨v1, v2, hg1, hv1, hv2⟩ := HRb.out
        obtain ⟨A1, c1, rfl, _⟩ := own_formS hv1
        obtain ⟨A2, c2, rfl, _⟩ := own_formS hv2
        have HG1 := Lib.hid hg1
        clear hg1 hv1 hv2
        obtain ⟨L1, hL1⟩ : ∃ L1, L1 = ds1.length := ⟨_, rfl⟩
        obtain ⟨L2, hL2⟩ : ∃ L2, L2 = ts1.length := ⟨_, rfl⟩
        have hzz := HZ.out _ HSb.out
        rw [← hL1, ← hL2] at hzz HG1
        have HZZ := Lib.hid hzz
        clear hzz hL1 hL2
        go_wp2_with (go_at_call 11; (with_reducible refine (HZZ.out).mono ?_); rintro e wc ⟨rfl, hb⟩; have HGc := Lib.hid (HG1.out.through hb); have c0 := HGc.out.cellAt (i := 0) rfl; have c1' := HGc.out.cellAt (i := 1) rfl; have HSc := Lib.hid (HSb.out.through hb); have HRc := Lib.hid (HRb.out.through hb); have HXc := Lib.hid (HXb.out.trans (hb.mono HXb.out.size)); clear hb)
        go_roundw
        case rel => exact ⟨j + 1, ds1, ts1, by omega, by go_num, HSc.out, HRc.out, hdl1, htl1, HXc.out⟩
        case measure => simp [intOf]; omega
      · as_aux_lemma =>
        have hk1 : (kd.toNat : Int) % 3 = 2 := by omega
        have hk2 : (kd.toNat : Int).tmod 3 = 2 := by rw [Int.tmod_eq_emod_of_nonneg (by omega)]; exact hk1
        obtain ⟨q, hqq⟩ : ∃ q, q = vs tg := ⟨_, rfl⟩
        have hql : q.length = 32 := by rw [hqq, vs_length, htg]
        obtain ⟨bb, hbb⟩ : ∃ bb, bb = bookHolds ts (a, b, t) tg := ⟨_, rfl⟩
        have hp : ∀ W, BS W gb ds ts → By W (fun k => k < w.heap.size) T n t → Calls Try.prog 14 #[.pointer (some ⟨gb, 0, none⟩), .int .i64 a, .int .i64 b, .slice T n c, .agg q.toArray] W fun e w' => e = .returned (.bool bb) ∧ Below W.heap.size W w' := fun W h1 h2 => by
          rw [hqq, hbb]
          exact bcheck_any _ gb ds ts a b t tg T n c W h1 h2 (by omega) htg
        have hq : ∀ W, RB W gr ds ts → By W (fun k => k < w.heap.size) T n t → Calls Try.prog 10 #[.pointer (some ⟨gr, 0, none⟩), .int .i64 a, .int .i64 b, .slice T n c, .agg q.toArray] W fun e w' => e = .returned (.bool bb) ∧ Below W.heap.size W w' := fun W h1 h2 => by
          rw [hqq, hbb]
          exact rcheck5_any _ gr ds ts a b t tg T n c W h1 h2 (by omega) htg
        have HQq := Lib.hid hqq
        have HQl := Lib.hid hql
        have ds1 := ds
        clear ds1
        have hdl1 : ds.length ≤ j + 1 := by omega
        have htl1 : ts.length ≤ j + 1 := by omega
        have hz : ∀ W, BS W gb ds ts → Calls Try.prog 11 #[.pointer (some ⟨gb, 0, none⟩)] W fun e w' => e = .returned (.tuple #[.int .i64 (ds.length : Int), .int .i64 (ts.length : Int)]) ∧ Below W.heap.size W w' := fun W h1 => bsizes_any gb ds ts W h1
        have HP := Lib.hid hp
        have HQ := Lib.hid hq
        have HZ := Lib.hid hz
        clear hp hq hz hqq hql hbb
        go_wp2_with (first
          | (refine wpList_load_mid rfl 37 (.tmp 25) rfl ga (oa + j * 36) rfl (actC kd a b T n c tg) _ HRg.out Try.underlying37 rfl (by rw [HAl.out]; kernel_rfl) ?_)
          | (refine wpList_store_blk rfl 37 (.tmp 7) (.tmp 26) rfl wr.heap.size (actC kd a b T n c tg) rfl rfl 37 ([.int .u8 0, .int .i64 0, .int .i64 0, .slice none 0 0] ++ vs zero32) (Blk.fresh rfl (by kernel_rfl)) (by rw [HAl.out]; kernel_rfl) (by rw [HAl.out]; rfl) HOne.out ?_; intro w5 hb5 ho5; have hx5 := below_new ho5; have H75 := Lib.hid hb5; have c53 : w5.cell? ⟨wr.heap.size, 3, none⟩ = some (.slice T n c) := hb5.cellAt rfl; have c50 : w5.cell? ⟨wr.heap.size, 0, none⟩ = some (.int .u8 (kd.toNat : Int)) := hb5.cellAt rfl; have HS5 := Lib.hid (KS.out.through hx5); have HR5 := Lib.hid (KR.out.through hx5); have HX5 := Lib.hid (KX.out.trans (hx5.mono KX.out.size)); have HY5 := Lib.hid (HY.out.below (hx5.mono (KX.out.size))); clear hb5 ho5 hx5))
        obtain ⟨b7, hb7⟩ : ∃ b7, b7 = wr.heap.size := ⟨_, rfl⟩
        rw [← hb7] at H75 c53 c50
        rw [← hb7]
        have h7b : b7 ≠ gb := by omega
        have h7r : b7 ≠ gr := by omega
        clear hb7 c53 c50
        try dsimp only [Act.put]
        have HSp := Lib.hid HS5.out.drew
        have HRp := Lib.hid HR5.out.drew
        have HXp := Lib.hid HX5.out.drew
        have HYp := Lib.hid HY5.out.drew
        have H7p := Lib.hid H75.out.drew
        refine wp_region_held_drew (S := fun W => Blk W b7 37 (actC kd a b T n c tg)) (by kernel_rfl) H7p.out (fun hHeld => ?_)
        change wpAnyH _ _ _ _ _ _ #[false, false, false, false, false, false, false, false, false, false, false, false, false, false, false, false, false, false, false, false, false, false] _ _
        refine wpAnyH_take (i := 0) (v := (.iface 24 (.pointer (some ⟨gb, 0, none⟩)))) rfl (by kernel_rfl) (by kernel_rfl) (by kernel_rfl) (fun _ _ _ h => h) (Or.inl ⟨by kernel_rfl, fun w hSw => ?_⟩) (by assumption) ?_
        · (try dsimp only at hSw); go_simp <;> (try rfl)
        change wpAnyH _ _ _ _ _ _ _ (Act.put _ (some (70 : Nat)) (.iface 24 (.pointer (some ⟨gb, 0, none⟩)))) _
        simp only [Act.put, List.setIfInBounds_toArray, List.set_cons_zero, List.set_cons_succ]
        refine wpAnyH_take (i := 1) (v := (.pointer (some ⟨b7, 1, none⟩))) rfl (by kernel_rfl) (by kernel_rfl) (by kernel_rfl) (fun _ _ _ h => h) (Or.inl ⟨by kernel_rfl, fun w hSw => ?_⟩) (by assumption) ?_
        · (try dsimp only at hSw); go_simp <;> (try rfl)
        change wpAnyH _ _ _ _ _ _ _ (Act.put _ (some (71 : Nat)) (.pointer (some ⟨b7, 1, none⟩))) _
        simp only [Act.put, List.setIfInBounds_toArray, List.set_cons_zero, List.set_cons_succ]
        refine wpAnyH_take (i := 2) (v := (.int .i64 a)) rfl (by kernel_rfl) (by kernel_rfl) (by kernel_rfl) (fun _ _ _ h => h) (yields_load_at (by kernel_rfl) 3 (.tmp 71) rfl (.pointer (some ⟨b7, 1, none⟩)) (by simp [Act.eval]) (.int .i64 a) (fun W hW => load_one' (Try.agg_int W) (hW.cellAt rfl))) (by assumption) ?_
        change wpAnyH _ _ _ _ _ _ _ (Act.put _ (some (72 : Nat)) (.int .i64 a)) _
        simp only [Act.put, List.setIfInBounds_toArray, List.set_cons_zero, List.set_cons_succ]
        refine wpAnyH_take (i := 3) (v := (.pointer (some ⟨b7, 2, none⟩))) rfl (by kernel_rfl) (by kernel_rfl) (by kernel_rfl) (fun _ _ _ h => h) (Or.inl ⟨by kernel_rfl, fun w hSw => ?_⟩) (by assumption) ?_
        · (try dsimp only at hSw); go_simp <;> (try rfl)
        change wpAnyH _ _ _ _ _ _ _ (Act.put _ (some (73 : Nat)) (.pointer (some ⟨b7, 2, none⟩))) _
        simp only [Act.put, List.setIfInBounds_toArray, List.set_cons_zero, List.set_cons_succ]
        refine wpAnyH_take (i := 4) (v := (.int .i64 b)) rfl (by kernel_rfl) (by kernel_rfl) (by kernel_rfl) (fun _ _ _ h => h) (yields_load_at (by kernel_rfl) 3 (.tmp 73) rfl (.pointer (some ⟨b7, 2, none⟩)) (by simp [Act.eval]) (.int .i64 b) (fun W hW => load_one' (Try.agg_int W) (hW.cellAt rfl))) (by assumption) ?_
        change wpAnyH _ _ _ _ _ _ _ (Act.put _ (some (74 : Nat)) (.int .i64 b)) _
        simp only [Act.put, List.setIfInBounds_toArray, List.set_cons_zero, List.set_cons_succ]
        refine wpAnyH_take (i := 5) (v := (.pointer (some ⟨b7, 3, none⟩))) rfl (by kernel_rfl) (by kernel_rfl) (by kernel_rfl) (fun _ _ _ h => h) (Or.inl ⟨by kernel_rfl, fun w hSw => ?_⟩) (by assumption) ?_
        · (try dsimp only at hSw); go_simp <;> (try rfl)
        change wpAnyH _ _ _ _ _ _ _ (Act.put _ (some (75 : Nat)) (.pointer (some ⟨b7, 3, none⟩))) _
        simp only [Act.put, List.setIfInBounds_toArray, List.set_cons_zero, List.set_cons_succ]
        refine wpAnyH_take (i := 6) (v := (.slice T n c)) rfl (by kernel_rfl) (by kernel_rfl) (by kernel_rfl) (fun _ _ _ h => h) (yields_load_at (by kernel_rfl) 33 (.tmp 75) rfl (.pointer (some ⟨b7, 3, none⟩)) (by simp [Act.eval]) (.slice T n c) (fun W hW => load_one' (Try.agg_sl W) (hW.cellAt rfl))) (by assumption) ?_
        change wpAnyH _ _ _ _ _ _ _ (Act.put _ (some (76 : Nat)) (.slice T n c)) _
        simp only [Act.put, List.setIfInBounds_toArray, List.set_cons_zero, List.set_cons_succ]
        refine wpAnyH_take (i := 7) (v := (.pointer (some ⟨b7, 4, none⟩))) rfl (by kernel_rfl) (by kernel_rfl) (by kernel_rfl) (fun _ _ _ h => h) (Or.inl ⟨by kernel_rfl, fun w hSw => ?_⟩) (by assumption) ?_
        · (try dsimp only at hSw); go_simp <;> (try rfl)
        change wpAnyH _ _ _ _ _ _ _ (Act.put _ (some (77 : Nat)) (.pointer (some ⟨b7, 4, none⟩))) _
        simp only [Act.put, List.setIfInBounds_toArray, List.set_cons_zero, List.set_cons_succ]
        refine wpAnyH_take (i := 8) (v := (.agg q.toArray)) rfl (by kernel_rfl) (by kernel_rfl) (by kernel_rfl) (fun _ _ _ h => h) (yieldsIf_load_mid (by kernel_rfl) 35 (.tmp 77) rfl b7 4 (by simp [Act.eval]) q _ (fun W hW => by rw [HQq.out]; exact hW.tagRange) Try.underlying35 rfl (by rw [HQl.out]; kernel_rfl)) (by assumption) ?_
        change wpAnyH _ _ _ _ _ _ _ (Act.put _ (some (78 : Nat)) (.agg q.toArray)) _
        simp only [Act.put, List.setIfInBounds_toArray, List.set_cons_zero, List.set_cons_succ]
        refine wpAnyH_take (i := 10) (v := (.pointer (some ⟨gr, 0, none⟩))) rfl (by kernel_rfl) (by kernel_rfl) (by kernel_rfl) (fun _ _ _ h => h) (Or.inl ⟨by kernel_rfl, fun w hSw => ?_⟩) (by assumption) ?_
        · (try dsimp only at hSw); go_simp <;> (try rfl)
        change wpAnyH _ _ _ _ _ _ _ (Act.put _ (some (80 : Nat)) (.pointer (some ⟨gr, 0, none⟩))) _
        simp only [Act.put, List.setIfInBounds_toArray, List.set_cons_zero, List.set_cons_succ]
        refine wpAnyH_take (i := 11) (v := (.pointer (some ⟨b7, 1, none⟩))) rfl (by kernel_rfl) (by kernel_rfl) (by kernel_rfl) (fun _ _ _ h => h) (Or.inl ⟨by kernel_rfl, fun w hSw => ?_⟩) (by assumption) ?_
        · (try dsimp only at hSw); go_simp <;> (try rfl)
        change wpAnyH _ _ _ _ _ _ _ (Act.put _ (some (81 : Nat)) (.pointer (some ⟨b7, 1, none⟩))) _
        simp only [Act.put, List.setIfInBounds_toArray, List.set_cons_zero, List.set_cons_succ]
        refine wpAnyH_take (i := 12) (v := (.int .i64 a)) rfl (by kernel_rfl) (by kernel_rfl) (by kernel_rfl) (fun _ _ _ h => h) (yields_load_at (by kernel_rfl) 3 (.tmp 81) rfl (.pointer (some ⟨b7, 1, none⟩)) (by simp [Act.eval]) (.int .i64 a) (fun W hW => load_one' (Try.agg_int W) (hW.cellAt rfl))) (by assumption) ?_
        change wpAnyH _ _ _ _ _ _ _ (Act.put _ (some (82 : Nat)) (.int .i64 a)) _
        simp only [Act.put, List.setIfInBounds_toArray, List.set_cons_zero, List.set_cons_succ]
        refine wpAnyH_take (i := 13) (v := (.pointer (some ⟨b7, 2, none⟩))) rfl (by kernel_rfl) (by kernel_rfl) (by kernel_rfl) (fun _ _ _ h => h) (Or.inl ⟨by kernel_rfl, fun w hSw => ?_⟩) (by assumption) ?_
        · (try dsimp only at hSw); go_simp <;> (try rfl)
        change wpAnyH _ _ _ _ _ _ _ (Act.put _ (some (83 : Nat)) (.pointer (some ⟨b7, 2, none⟩))) _
        simp only [Act.put, List.setIfInBounds_toArray, List.set_cons_zero, List.set_cons_succ]
        refine wpAnyH_take (i := 14) (v := (.int .i64 b)) rfl (by kernel_rfl) (by kernel_rfl) (by kernel_rfl) (fun _ _ _ h => h) (yields_load_at (by kernel_rfl) 3 (.tmp 83) rfl (.pointer (some ⟨b7, 2, none⟩)) (by simp [Act.eval]) (.int .i64 b) (fun W hW => load_one' (Try.agg_int W) (hW.cellAt rfl))) (by assumption) ?_
        change wpAnyH _ _ _ _ _ _ _ (Act.put _ (some (84 : Nat)) (.int .i64 b)) _
        simp only [Act.put, List.setIfInBounds_toArray, List.set_cons_zero, List.set_cons_succ]
        refine wpAnyH_take (i := 15) (v := (.pointer (some ⟨b7, 3, none⟩))) rfl (by kernel_rfl) (by kernel_rfl) (by kernel_rfl) (fun _ _ _ h => h) (Or.inl ⟨by kernel_rfl, fun w hSw => ?_⟩) (by assumption) ?_
        · (try dsimp only at hSw); go_simp <;> (try rfl)
        change wpAnyH _ _ _ _ _ _ _ (Act.put _ (some (85 : Nat)) (.pointer (some ⟨b7, 3, none⟩))) _
        simp only [Act.put, List.setIfInBounds_toArray, List.set_cons_zero, List.set_cons_succ]
        refine wpAnyH_take (i := 16) (v := (.slice T n c)) rfl (by kernel_rfl) (by kernel_rfl) (by kernel_rfl) (fun _ _ _ h => h) (yields_load_at (by kernel_rfl) 33 (.tmp 85) rfl (.pointer (some ⟨b7, 3, none⟩)) (by simp [Act.eval]) (.slice T n c) (fun W hW => load_one' (Try.agg_sl W) (hW.cellAt rfl))) (by assumption) ?_
        change wpAnyH _ _ _ _ _ _ _ (Act.put _ (some (86 : Nat)) (.slice T n c)) _
        simp only [Act.put, List.setIfInBounds_toArray, List.set_cons_zero, List.set_cons_succ]
        refine wpAnyH_take (i := 17) (v := (.pointer (some ⟨b7, 4, none⟩))) rfl (by kernel_rfl) (by kernel_rfl) (by kernel_rfl) (fun _ _ _ h => h) (Or.inl ⟨by kernel_rfl, fun w hSw => ?_⟩) (by assumption) ?_
        · (try dsimp only at hSw); go_simp <;> (try rfl)
        change wpAnyH _ _ _ _ _ _ _ (Act.put _ (some (87 : Nat)) (.pointer (some ⟨b7, 4, none⟩))) _
        simp only [Act.put, List.setIfInBounds_toArray, List.set_cons_zero, List.set_cons_succ]
        refine wpAnyH_take (i := 18) (v := (.agg q.toArray)) rfl (by kernel_rfl) (by kernel_rfl) (by kernel_rfl) (fun _ _ _ h => h) (yieldsIf_load_mid (by kernel_rfl) 35 (.tmp 87) rfl b7 4 (by simp [Act.eval]) q _ (fun W hW => by rw [HQq.out]; exact hW.tagRange) Try.underlying35 rfl (by rw [HQl.out]; kernel_rfl)) (by assumption) ?_
        change wpAnyH _ _ _ _ _ _ _ (Act.put _ (some (88 : Nat)) (.agg q.toArray)) _
        simp only [Act.put, List.setIfInBounds_toArray, List.set_cons_zero, List.set_cons_succ]
        refine wpAnyH_ready (rs := [9]) (by kernel_rfl) (by simp) ?_
        refine AllReadyH.cons rfl (fun K hK => ?_) AllReadyH.nil
        go_simp
        refine (HP.out _ HSp.out HYp.out).mono ?_
        rintro e wa ⟨rfl, hb⟩; have HSa := Lib.hid (HSp.out.through hb); have HRa := Lib.hid (HRp.out.through hb); have H7a := Lib.hid (H7p.out.through hb); have HYa := Lib.hid (HYp.out.through hb); have HXa := Lib.hid (HXp.out.trans (hb.mono HXp.out.size)); clear hb
        go_wp2_with fail
        refine hK.out _ _ H7a.out (fun hHeld1 => ?_)
        clear hHeld hK K
        have hHeld := hHeld1
        clear hHeld1
        refine wpAnyH_ready (rs := [19]) (by kernel_rfl) (by simp) ?_
        refine AllReadyH.cons rfl (fun K hK => ?_) AllReadyH.nil
        go_simp
        refine (HQ.out _ HRa.out HYa.out).mono ?_
        rintro e wb ⟨rfl, hb⟩; have HSb := Lib.hid (HSa.out.through hb); have HRb := Lib.hid (HRa.out.through hb); have H7b := Lib.hid (H7a.out.through hb); have HXb := Lib.hid (HXa.out.trans (hb.mono HXa.out.size)); clear hb
        go_wp2_with fail
        refine hK.out _ _ H7b.out (fun hHeld1 => ?_)
        clear hHeld hK K
        have hHeld := hHeld1
        clear hHeld1
        refine wpAnyH_take (i := 20) (v := (.bool true)) rfl (by kernel_rfl) (by kernel_rfl) (by kernel_rfl) (fun _ _ _ h => h) (Or.inl ⟨by kernel_rfl, fun w hSw => ?_⟩) (by assumption) ?_
        · (try dsimp only at hSw); go_simp <;> (try rfl)
        change wpAnyH _ _ _ _ _ _ _ (Act.put _ (some (90 : Nat)) (.bool true)) _
        simp only [Act.put, List.setIfInBounds_toArray, List.set_cons_zero, List.set_cons_succ]
        refine wpAnyH_take (i := 21) (v := (.bool true)) rfl (by kernel_rfl) (by kernel_rfl) (by kernel_rfl) (fun _ _ _ h => h) (Or.inl ⟨by kernel_rfl, fun w hSw => ?_⟩) (by assumption) ?_
        · (try dsimp only at hSw); go_simp <;> (try rfl)
        change wpAnyH _ _ _ _ _ _ _ (Act.put _ (some (8 : Nat)) (.bool true)) _
        simp only [Act.put, List.setIfInBounds_toArray, List.set_cons_zero, List.set_cons_succ]
        refine wpAnyH_done (by kernel_rfl) ?_ _
        obtain ⟨v1, v2, hg1, hv1, hv2⟩ := HRb.out
        obtain ⟨A1, c1, rfl, _⟩ := own_formS hv1
        obtain ⟨A2, c2, rfl, _⟩ := own_formS hv2
        have HG1 := Lib.hid hg1
        clear hg1 hv1 hv2
        obtain ⟨L1, hL1⟩ : ∃ L1, L1 = ds.length := ⟨_, rfl⟩
        obtain ⟨L2, hL2⟩ : ∃ L2, L2 = ts.length := ⟨_, rfl⟩
        have hzz := HZ.out _ HSb.out
        rw [← hL1, ← hL2] at hzz HG1
        have HZZ := Lib.hid hzz
        clear hzz hL1 hL2
        go_wp2_with (go_at_call 11; (with_reducible refine (HZZ.out).mono ?_); rintro e wc ⟨rfl, hb⟩; have HGc := Lib.hid (HG1.out.through hb); have c0 := HGc.out.cellAt (i := 0) rfl; have c1' := HGc.out.cellAt (i := 1) rfl; have HSc := Lib.hid (HSb.out.through hb); have HRc := Lib.hid (HRb.out.through hb); have HXc := Lib.hid (HXb.out.trans (hb.mono HXb.out.size)); clear hb)
        go_roundw
        case rel => exact ⟨j + 1, ds, ts, by omega, by go_num, HSc.out, HRc.out, hdl1, htl1, HXc.out⟩
        case measure => simp [intOf]; omega
    · go_wp2
      go_ret
      exact ⟨rfl, KX.out⟩

end Go.Proofs.Ytnncfhkgcaoomaa
