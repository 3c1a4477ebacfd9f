/-
  The document's Bytes of a message, walked.
-/
import Derived.Test.YtkklgfcmgefedaaWiS
namespace Go.Proofs.Ytkklgfcmgefedaa
open Go.RowKit

theorem Try.agg_int (w : World) : (isAgg 3).run Try.prog w = .ok false w := by kernel_rfl
theorem Try.agg_sl (w : World) : (isAgg 22).run Try.prog w = .ok false w := by kernel_rfl
theorem own_through {w w' : World} {base sz n : Nat} {e : TypeId} {v : Value} {xs : List Value} (h : w.ownsRow base e sz v n xs) (hb : Below w.heap.size w w') : w'.ownsRow base e sz v n xs :=
  h.kept (only_below (g := w.heap.size) hb) (.inr (fun e => by have := h.lt _ e; omega))

set_option maxHeartbeats 16000000 in
set_option maxRecDepth 100000 in
theorem rmbytes_any (m : Ms) (B : Option Addr) (nb cb : Nat) (A : Option Addr) (nt ct : Nat) (w : World) (h : MsIn w B nb A nt ct m) (hL : (encM m).length ≤ 1000000000) (hn : nt ≤ 10000000) :
    Calls Try.prog 11 #[.agg #[.int .i64 m.kd, .int .i64 m.fr, .slice B nb cb, .slice A nt ct]] w (Byt w (encM m)) := by
  obtain ⟨i0, hi, hz0, hz1, hz2⟩ := info_parts Try.info_u8
  have HTs := Lib.hid h.2
  have HYs := Lib.hid h.1
  have hLn : m.ts.length = nt := h.2.len
  have HMx : Hid (nt ≤ 9223372036854775807) := Lib.hid (by omega)
  obtain ⟨OUT, hO⟩ : ∃ OUT, encM m = OUT := ⟨_, rfl⟩
  have hbl : m.bd.length ≤ 1000000000 := by
    have h9 := hL
    unfold encM rowB at h9
    simp only [List.length_append, beB_length] at h9
    omega
  rw [hO] at hL ⊢
  have HLL := Lib.hid hL
  have HOUT : Hid ((beB (u64N m.kd) 1 ++ beB (u64N m.fr) 1 ++ rowB m.bd) ++ beB nt 2 ++ encAll encTg m.ts = OUT) := Lib.hid (by rw [← hO, ← hLn]; simp [encM, List.append_assoc])
  have HB : Hid (Blk (w.alloc (.cells #[.int .i64 m.kd, .int .i64 m.fr, .slice B nb cb, .slice A nt ct] 25)) w.heap.size 25 [.int .i64 m.kd, .int .i64 m.fr, .slice B nb cb, .slice A nt ct]) := Lib.hid (Blk.fresh rfl rfl)
  have HX1 : Hid (Below w.heap.size w (w.alloc (.cells #[.int .i64 m.kd, .int .i64 m.fr, .slice B nb cb, .slice A nt ct] 25))) := Lib.hid (below1_ w _)
  have HP1 : Hid (∀ (W : World) (B : Option Addr) (k d : Nat), By W (fun _ => True) B k [] → Calls Try.prog 20 #[.slice B k d, .int .u64 ((u64N m.kd : Nat) : Int), .int .i64 1] W (Byt W (beB (u64N m.kd) 1))) := Lib.hid (fun W B k d hY => by have h9 := rput_by 1 rfl (u64N m.kd) (by unfold u64N; omega) (c := d) hY (by simp); rw [List.nil_append] at h9; exact h9)
  have HP2 : Hid (∀ (W : World) (B : Option Addr) (k d : Nat), By W (fun _ => True) B k (beB (u64N m.kd) 1) → Calls Try.prog 20 #[.slice B k d, .int .u64 ((u64N m.fr : Nat) : Int), .int .i64 1] W (Byt W (beB (u64N m.kd) 1 ++ beB (u64N m.fr) 1))) := Lib.hid (fun W B k d hY => rput_by 1 rfl (u64N m.fr) (by unfold u64N; omega) hY (by rw [beB_length]; omega))
  have HRw : Hid (∀ (W : World) (C : Option Addr) (k d : Nat), By W (fun _ => True) C k (beB (u64N m.kd) 1 ++ beB (u64N m.fr) 1) → Below (w.alloc (.cells #[.int .i64 m.kd, .int .i64 m.fr, .slice B nb cb, .slice A nt ct] 25)).heap.size (w.alloc (.cells #[.int .i64 m.kd, .int .i64 m.fr, .slice B nb cb, .slice A nt ct] 25)) W → Calls Try.prog 19 #[.slice C k d, .slice B nb cb] W (Byt W (beB (u64N m.kd) 1 ++ beB (u64N m.fr) 1 ++ rowB m.bd))) := Lib.hid (fun W C k d hY hW => rrow_by hY (HYs.out.through (below_step HX1.out hW)) (by simp [beB_length]) (by omega))
  have hwu : ∀ W : World, (convert 3 37 (.int .i64 (nt : Int))).run Try.prog W = .ok (.int .u64 (nt : Int)) W := fun W => by
    have h9 := conv_u64 3 37 Try.underlying3 Try.underlying37 (nt : Int) W
    rw [u64N_nat (by omega)] at h9
    exact h9
  have HPut : Hid (∀ (W : World) (B : Option Addr) (k d : Nat), By W (fun _ => True) B k (beB (u64N m.kd) 1 ++ beB (u64N m.fr) 1 ++ rowB m.bd) → Calls Try.prog 20 #[.slice B k d, .int .u64 (nt : Int), .int .i64 2] W (Made W (beB (u64N m.kd) 1 ++ beB (u64N m.fr) 1 ++ rowB m.bd ++ beB nt 2).length (beB (u64N m.kd) 1 ++ beB (u64N m.fr) 1 ++ rowB m.bd ++ beB nt 2))) := Lib.hid (fun W B k d hY => by
    have h9 := rput_any (fun _ => True) B k d (beB (u64N m.kd) 1 ++ beB (u64N m.fr) 1 ++ rowB m.bd) ((nt : Nat) : Int) (2 : Nat) (by omega) (by omega) W hY (by rw [← hY.len]; simp only [List.length_append, beB_length, rowB]; omega)
    rw [Int.toNat_natCast, putB_wid rfl] at h9
    have e : putN k (2 : Nat) = (beB (u64N m.kd) 1 ++ beB (u64N m.fr) 1 ++ rowB m.bd ++ beB nt 2).length := by rw [List.length_append, beB_length, hY.len]; rfl
    rw [e] at h9
    exact h9)
  clear h hO hL hn hbl hLn
  go_enter Try.func11, Try.ntmps11
  go_wp2
  try dsimp only [Act.put]
  refine wp_region_held_drew (S := fun W => Below (w.alloc (.cells #[.int .i64 m.kd, .int .i64 m.fr, .slice B nb cb, .slice A nt ct] 25)).heap.size (w.alloc (.cells #[.int .i64 m.kd, .int .i64 m.fr, .slice B nb cb, .slice A nt ct] 25)) W) (by kernel_rfl) (Below.refl _ _).drew (fun hHeld => ?_)
  change wpAnyH _ _ _ _ _ _ #[false, false, false, false, false, false, false, false, false, false, false, false] _ _
  refine wpAnyH_take (i := 0) (v := (.pointer (some ⟨w.heap.size, 0, none⟩))) rfl (by kernel_rfl) (by kernel_rfl) (by kernel_rfl) (fun _ _ _ h => h) (Or.inl ⟨by kernel_rfl, fun w hSw => ?_⟩) (by assumption) ?_
  · (try dsimp only at hSw); go_simp <;> (try rfl)
  change wpAnyH _ _ _ _ _ _ _ (Act.put _ (some (8 : Nat)) (.pointer (some ⟨w.heap.size, 0, none⟩))) _
  simp only [Act.put, List.setIfInBounds_toArray, List.set_cons_zero, List.set_cons_succ]
  refine wpAnyH_take (i := 1) (v := (.int .i64 m.kd)) rfl (by kernel_rfl) (by kernel_rfl) (by kernel_rfl) (fun _ _ _ h => h) (yields_load_at (by kernel_rfl) 3 (.tmp 8) rfl (.pointer (some ⟨w.heap.size, 0, none⟩)) (by simp [Act.eval]) (.int .i64 m.kd) (fun W hW => load_one' (Try.agg_int W) ((HB.out.through hW).cellAt (i := 0) rfl))) (by assumption) ?_
  change wpAnyH _ _ _ _ _ _ _ (Act.put _ (some (9 : Nat)) (.int .i64 m.kd)) _
  simp only [Act.put, List.setIfInBounds_toArray, List.set_cons_zero, List.set_cons_succ]
  refine wpAnyH_take (i := 2) (v := (.int .u64 ((u64N m.kd : Nat) : Int))) rfl (by kernel_rfl) (by kernel_rfl) (by kernel_rfl) (fun _ _ _ h => h) (yields_conv (by kernel_rfl) 3 37 (.tmp 9) rfl (.int .i64 m.kd) (by simp [Act.eval]) (.int .u64 ((u64N m.kd : Nat) : Int)) (fun W _ => conv_u64 3 37 Try.underlying3 Try.underlying37 m.kd W)) (by assumption) ?_
  change wpAnyH _ _ _ _ _ _ _ (Act.put _ (some (10 : Nat)) (.int .u64 ((u64N m.kd : Nat) : Int))) _
  simp only [Act.put, List.setIfInBounds_toArray, List.set_cons_zero, List.set_cons_succ]
  refine wpAnyH_take (i := 4) (v := (.pointer (some ⟨w.heap.size, 1, none⟩))) rfl (by kernel_rfl) (by kernel_rfl) (by kernel_rfl) (fun _ _ _ h => h) (Or.inl ⟨by kernel_rfl, fun w hSw => ?_⟩) (by assumption) ?_
  · (try dsimp only at hSw); go_simp <;> (try rfl)
  change wpAnyH _ _ _ _ _ _ _ (Act.put _ (some (12 : Nat)) (.pointer (some ⟨w.heap.size, 1, none⟩))) _
  simp only [Act.put, List.setIfInBounds_toArray, List.set_cons_zero, List.set_cons_succ]
  refine wpAnyH_take (i := 5) (v := (.int .i64 m.fr)) rfl (by kernel_rfl) (by kernel_rfl) (by kernel_rfl) (fun _ _ _ h => h) (yields_load_at (by kernel_rfl) 3 (.tmp 12) rfl (.pointer (some ⟨w.heap.size, 1, none⟩)) (by simp [Act.eval]) (.int .i64 m.fr) (fun W hW => load_one' (Try.agg_int W) ((HB.out.through hW).cellAt (i := 1) rfl))) (by assumption) ?_
  change wpAnyH _ _ _ _ _ _ _ (Act.put _ (some (13 : Nat)) (.int .i64 m.fr)) _
  simp only [Act.put, List.setIfInBounds_toArray, List.set_cons_zero, List.set_cons_succ]
  refine wpAnyH_take (i := 6) (v := (.int .u64 ((u64N m.fr : Nat) : Int))) rfl (by kernel_rfl) (by kernel_rfl) (by kernel_rfl) (fun _ _ _ h => h) (yields_conv (by kernel_rfl) 3 37 (.tmp 13) rfl (.int .i64 m.fr) (by simp [Act.eval]) (.int .u64 ((u64N m.fr : Nat) : Int)) (fun W _ => conv_u64 3 37 Try.underlying3 Try.underlying37 m.fr W)) (by assumption) ?_
  change wpAnyH _ _ _ _ _ _ _ (Act.put _ (some (14 : Nat)) (.int .u64 ((u64N m.fr : Nat) : Int))) _
  simp only [Act.put, List.setIfInBounds_toArray, List.set_cons_zero, List.set_cons_succ]
  refine wpAnyH_take (i := 8) (v := (.pointer (some ⟨w.heap.size, 2, none⟩))) rfl (by kernel_rfl) (by kernel_rfl) (by kernel_rfl) (fun _ _ _ h => h) (Or.inl ⟨by kernel_rfl, fun w hSw => ?_⟩) (by assumption) ?_
  · (try dsimp only at hSw); go_simp <;> (try rfl)
  change wpAnyH _ _ _ _ _ _ _ (Act.put _ (some (16 : Nat)) (.pointer (some ⟨w.heap.size, 2, none⟩))) _
  simp only [Act.put, List.setIfInBounds_toArray, List.set_cons_zero, List.set_cons_succ]
  refine wpAnyH_take (i := 9) (v := (.slice B nb cb)) rfl (by kernel_rfl) (by kernel_rfl) (by kernel_rfl) (fun _ _ _ h => h) (yields_load_at (by kernel_rfl) 22 (.tmp 16) rfl (.pointer (some ⟨w.heap.size, 2, none⟩)) (by simp [Act.eval]) (.slice B nb cb) (fun W hW => load_one' (Try.agg_sl W) ((HB.out.through hW).cellAt (i := 2) rfl))) (by assumption) ?_
  change wpAnyH _ _ _ _ _ _ _ (Act.put _ (some (17 : Nat)) (.slice B nb cb)) _
  simp only [Act.put, List.setIfInBounds_toArray, List.set_cons_zero, List.set_cons_succ]
  refine wpAnyH_ready (rs := [3]) (by kernel_rfl) (by simp) ?_
  refine AllReadyH.cons rfl (fun K hK => ?_) AllReadyH.nil
  go_simp
  refine (HP1.out _ _ _ _ By.none_).mono ?_
  rintro e wp ⟨Ap, np, dp, rfl, hyp, _, _, hbp⟩; have HYp := Lib.hid hyp; have HKp := Lib.hid (below_step hHeld hbp); clear hyp hbp
  go_wp2_with fail
  refine hK.out _ _ HKp.out (fun hHeld1 => ?_)
  clear hHeld hK K
  have hHeld := hHeld1
  clear hHeld1
  refine wpAnyH_ready (rs := [7]) (by kernel_rfl) (by simp) ?_
  refine AllReadyH.cons rfl (fun K hK => ?_) AllReadyH.nil
  go_simp
  refine (HP2.out _ _ _ _ HYp.out).mono ?_
  rintro e wq ⟨Aq, nq, dq, rfl, hyq, _, _, hbq⟩; have HYq := Lib.hid hyq; have HKq := Lib.hid (below_step hHeld hbq); clear hyq hbq
  go_wp2_with fail
  refine hK.out _ _ HKq.out (fun hHeld1 => ?_)
  clear hHeld hK K
  have hHeld := hHeld1
  clear hHeld1
  refine wpAnyH_ready (rs := [10]) (by kernel_rfl) (by simp) ?_
  refine AllReadyH.cons rfl (fun K hK => ?_) AllReadyH.nil
  go_simp
  refine (HRw.out _ _ _ _ HYq.out (hHeld)).mono ?_
  rintro e wc ⟨Ac, nc, dc, rfl, hyc, _, _, hbc⟩; have HYc := Lib.hid hyc; have HKc := Lib.hid (below_step hHeld hbc); clear hyc hbc
  go_wp2_with fail
  refine hK.out _ _ HKc.out (fun hHeld1 => ?_)
  clear hHeld hK K
  have hHeld := hHeld1
  clear hHeld1
  refine wpAnyH_take (i := 11) (v := (.slice Ac nc dc)) rfl (by kernel_rfl) (by kernel_rfl) (by kernel_rfl) (fun _ _ _ h => h) (Or.inl ⟨by kernel_rfl, fun w hSw => ?_⟩) (by assumption) ?_
  · (try dsimp only at hSw); go_simp <;> (try rfl)
  change wpAnyH _ _ _ _ _ _ _ (Act.put _ (some (3 : Nat)) (.slice Ac nc dc)) _
  simp only [Act.put, List.setIfInBounds_toArray, List.set_cons_zero, List.set_cons_succ]
  refine wpAnyH_done (by kernel_rfl) ?_ _
  have HXc : Hid (Below w.heap.size w wc) := Lib.hid (below_step HX1.out hHeld)
  have HBc : Hid (Blk wc w.heap.size 25 [.int .i64 m.kd, .int .i64 m.fr, .slice B nb cb, .slice A nt ct]) := Lib.hid (HB.out.through hHeld)
  have HTc := Lib.hid (HTs.out.through HXc.out)
  clear hHeld
  have c3 := HBc.out.cellAt (i := 3) rfl
  go_wp2_with (first
      | (go_at_call 20; (refine (HPut.out _ _ _ _ HYc.out).mono ?_); rintro e w4 ⟨v4, rfl, ho4, hb4⟩; have HO4 := Lib.hid ho4; have HX4 := Lib.hid hb4; clear c3; have c3 := (HBc.out.through hb4).cellAt (i := 3) rfl; clear ho4 hb4))
  clear c3
  obtain ⟨Y, hY⟩ : ∃ Y, beB (u64N m.kd) 1 ++ beB (u64N m.fr) 1 ++ rowB m.bd ++ beB nt 2 = Y := ⟨_, rfl⟩
  have HOUT2 : Hid (Y ++ encAll encTg m.ts = OUT) := Lib.hid (by rw [← hY]; exact HOUT.out)
  rw [hY] at HO4
  obtain ⟨W5, hW5⟩ : ∃ W5, wc = W5 := ⟨_, rfl⟩
  rw [hW5] at HO4 HX4 HTc HXc
  have HT4 := Lib.hid (HTc.out.through HX4.out)
  clear hY hW5
  have hkm := HMx.out
  go_loopw [3, 28] (fun bv jv wr => ∃ (j : Nat) (zs : List UInt8) (v' : Value), j ≤ nt ∧ jv = .int .i64 (j : Int) ∧ v' = bv ∧ zs ++ encAll encTg (m.ts.drop j) = OUT ∧ wr.ownsRow W5.heap.size 5 1 v' zs.length (vs zs) ∧ Below W5.heap.size W5 wr) (fun _ jv _ => nt - (intOf jv).toNat)
  case atStart => exact ⟨0, Y, v4, Nat.zero_le _, rfl, rfl, HOUT2.out, HO4.out, HX4.out⟩
  case round =>
    obtain ⟨j, zs, v', hj, rfl, rfl, hpq, hown, hx⟩ := hrel
    have HO := Lib.hid hown
    have HX := Lib.hid hx
    have HPQ := Lib.hid hpq
    clear hown hx hpq
    by_cases hltj : j < nt
    · obtain ⟨gt, ot, t, hBe, _, _, hdt, htl, hrt⟩ := HTc.out.at hltj
      simp only at hBe
      subst hBe
      have HRt := Lib.hid (rangeAt.through hrt HX.out)
      have HTL := Lib.hid htl
      have hixt := fun (W : World) => Try.ix_tg W gt ot nt ct j hltj
      have HPQ3 : Hid (zs ++ (t.drop 0 ++ encAll encTg (m.ts.drop (j + 1))) = OUT) := Lib.hid (by rw [← HPQ.out, hdt]; simp [encAll, encTg])
      have HIdx : Hid (∀ (W : World) (i : Nat) (x : UInt8), i < 32 → t[i]? = some x → (Instr.index 40 (.agg (vs t).toArray) (.int .i64 (i : Int))).run Try.prog W = .ok (.int .u8 (x.toNat : Int)) W) := Lib.hid (fun W i x h1 h2 => run_index_row W 40 5 32 (vs t) .i64 i (u8 x) Try.underlying40 (by kernel_rfl) (by kernel_rfl) h1 (by rw [vs_get, h2]; rfl))
      clear hrt hdt htl
      go_wp2_with (first
          | (refine wpList_load_mid rfl 40 (.tmp 30) rfl gt (ot + j * 32) rfl (vs t) _ HRt.out Try.underlying40 rfl (by rw [vs_length, HTL.out]; kernel_rfl) ?_)
          | (refine wpList_store_blk rfl 40 (.tmp 5) (.tmp 31) rfl wr.heap.size (vs t) rfl rfl 40 (vs (List.replicate 32 0)) (Blk.fresh rfl rfl) (by rw [vs_length, HTL.out]; kernel_rfl) (by rw [vs_length, vs_length, HTL.out]; rfl) (Array.all_eq_true_iff_forall_mem.2 (fun u hu => vs_one u (by simpa using hu))) ?_; simp only [Act.put]; intro w8 hb8 hg8; have HTb := Lib.hid hb8; have HO8 := Lib.hid (own_through HO.out (below_new hg8)); have HX8 := Lib.hid (below_step HX.out (below_new hg8)); clear hb8 hg8)
          | (refine wpList_load_blk rfl 40 (.tmp 5) rfl wr.heap.size rfl 40 (vs t) _ HTb.out Try.underlying40 rfl (by rw [vs_length, HTL.out]; kernel_rfl) ?_))
      clear HO HX HPQ
      go_loopw [3, 33] (fun bv kv wr => ∃ (p : Nat) (ys3 : List UInt8) (v' : Value), p ≤ 32 ∧ kv = .int .i64 (p : Int) ∧ v' = bv ∧ ys3 ++ (t.drop p ++ encAll encTg (m.ts.drop (j + 1))) = OUT ∧ wr.ownsRow W5.heap.size 5 1 v' ys3.length (vs ys3) ∧ Below W5.heap.size W5 wr) (fun _ kv _ => 32 - (intOf kv).toNat)
      case atStart => exact ⟨0, zs, v', by omega, rfl, rfl, HPQ3.out, HO8.out, HX8.out⟩
      case round =>
        obtain ⟨p, ys3, v', hp, rfl, rfl, hpq, hown, hx⟩ := hrel
        have HO := Lib.hid hown
        have HX := Lib.hid hx
        have HPQ := Lib.hid hpq
        clear hown hx hpq
        by_cases hltm : p < 32
        · have hml : p < t.length := by rw [HTL.out]; exact hltm
          have hget := List.getElem?_eq_getElem hml
          have hdm := List.drop_eq_getElem_cons hml
          generalize t[p] = x at hget hdm
          have hidx := fun W => HIdx.out W p x hltm hget
          have HPQ4 : Hid ((ys3 ++ [x]) ++ (t.drop (p + 1) ++ encAll encTg (m.ts.drop (j + 1))) = OUT) := Lib.hid (by rw [← HPQ.out, hdm]; simp)
          have HBD : Hid (ys3.length + 1 ≤ 140737488355328) := Lib.hid (by have h9 := congrArg List.length HPQ4.out; simp only [List.length_append, List.length_cons, List.length_nil] at h9; have := HLL.out; omega)
          clear hget hdm hml
          go_wp2_with (first
              | (at_builtin; refine wpList_append_by _ rfl (.tmp 36) (.tmp 38) 22 rfl W5.heap.size i0 Try.underlying22 hi hz0 hz1 hz2 v' ys3.length (vs ys3) rfl (HO.out.alloc _) (fun _ => True) (some ⟨wr.heap.size, 0, none⟩) 1 1 [x] rfl (By.one8 _ trivial) HBD.out (Nat.le_trans HX.out.size (below1_ wr _).size) ?_; intro v9 w9 hown9 hgrow9 _; have HN9 : Hid (w9.ownsRow W5.heap.size 5 1 v9 (ys3 ++ [x]).length (vs (ys3 ++ [x]))) := Lib.hid (by rw [List.length_append, ← vs_append]; exact hown9); have HX9 : Hid (Below W5.heap.size W5 w9) := Lib.hid ((HX.out.alloc HX.out.size _).grown hgrow9 (Nat.le_trans HX.out.size (below1_ wr _).size) (fun g hg => (HO.out.lt g hg).1)); clear hown9 hgrow9))
          go_roundw
          case rel => exact ⟨p + 1, ys3 ++ [x], v9, by omega, by go_num, rfl, HPQ4.out, HN9.out, HX9.out⟩
          case measure => simp [intOf]; omega
        · have hm32 : p = 32 := by omega
          subst hm32
          have HPQ4 : Hid (ys3 ++ encAll encTg (m.ts.drop (j + 1)) = OUT) := Lib.hid (by
            have e32 : t.drop 32 = [] := List.drop_of_length_le (by rw [HTL.out]; exact Nat.le_refl _)
            rw [← HPQ.out, e32]
            rfl)
          go_wp2
          go_roundw
          case rel => exact ⟨j + 1, ys3, v', by omega, by go_num, rfl, HPQ4.out, HO.out, HX.out⟩
          case measure => simp [intOf]; omega
    · have e9 : m.ts.drop j = [] := List.drop_of_length_le (by have := HTs.out.len; simp only at this; omega)
      have HPQ3 : Hid (zs = OUT) := Lib.hid (by rw [← HPQ.out, e9]; simp [encAll])
      clear e9
      obtain ⟨A7, c7, rfl, hn7, hm7, _⟩ := own_form HO.out
      go_wp2
      go_ret
      rw [← HPQ3.out]
      exact ⟨A7, _, c7, rfl, (By.of_own HO.out).weak fun _ _ => trivial, hn7, hm7, below_step HXc.out HX.out⟩

end Go.Proofs.Ytkklgfcmgefedaa
