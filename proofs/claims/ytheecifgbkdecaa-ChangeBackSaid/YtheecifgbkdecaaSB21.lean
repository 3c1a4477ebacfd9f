/-
  ChB
-/
import Derived.Test.YtheecifgbkdecaaSB14
import Derived.Test.YtheecifgbkdecaaSB20
import Derived.Test.YtheecifgbkdecaaSB5
namespace Go.Proofs.Ytheecifgbkdecaa
open Go.RowKit

theorem encPf_len (p : Pf) : (encPf p).length = 20 + (encB p.es).length := by
  unfold encPf rowB
  simp only [List.length_append, beB_length]
  omega
set_option maxHeartbeats 16000000 in
set_option maxRecDepth 100000 in
theorem rproofs_any {Q : Nat → Prop} (xs : List UInt8) (ps : List Pf) (A : Option Addr) (n c0 : Nat) (D : Option Addr) (k d : Nat) (w : World) (h : By w Q A n xs) (hp : PfsIn w D k ps) (hk : k ≤ 100000) (hl : ∀ p ∈ ps, p.Low) (hL : (xs ++ encPfs ps).length ≤ 1000000000) :
    Calls Try.prog 43 #[.slice A n c0, .slice D k d] w (Byt w (xs ++ encPfs ps)) := by
  have HP := Lib.hid hp
  have HLn := Lib.hid hp.len
  have HLo := Lib.hid hl
  have HY0 : Hid (By w (fun _ => True) A n xs) := Lib.hid (h.weak fun _ _ => trivial)
  obtain ⟨OUT, hO⟩ : ∃ O, xs ++ encPfs ps = O := ⟨_, rfl⟩
  rw [hO] at hL ⊢
  have HLL := Lib.hid hL
  have HO0 : Hid ((xs ++ beB k 2) ++ encAll encPf ps = OUT) := Lib.hid (by rw [← hO]; unfold encPfs; rw [hp.len, List.append_assoc])
  have hxl : xs.length ≤ 1000000000 := by have h9 := congrArg List.length hO; simp only [List.length_append] at h9; omega
  have hwu : ∀ W : World, (convert 3 70 (.int .i64 (k : Int))).run Try.prog W = .ok (.int .u64 (k : Int)) W := fun W => by
    have h9 := conv_u64 3 70 Try.underlying3 Try.underlying70 (k : Int) W
    rw [show u64N (k : Int) = k by unfold u64N; omega] at h9
    exact h9
  have HP0 : Hid (∀ W : World, By W (fun _ => True) A n xs → Calls Try.prog 41 #[.slice A n c0, .int .u64 (k : Int), .int .i64 2] W (Byt W (xs ++ beB k 2))) := Lib.hid (fun W hY => rput_by 2 rfl k (by omega) hY (by omega))
  have HPu : Hid (∀ (v : Int) (W : World) (B : Option Addr) (k d : Nat) (ys : List UInt8), By W (fun _ => True) B k ys → ys.length ≤ 1000000000 → Calls Try.prog 41 #[.slice B k d, .int .u64 ((u64N v : Nat) : Int), .int .i64 8] W (Byt W (ys ++ beB (u64N v) 8))) := Lib.hid (fun v W B k d ys hY hl => rput_by 8 rfl (u64N v) (by unfold u64N; omega) hY (by omega))
  clear h hp hl hO hL hxl
  go_enter Try.func43, Try.ntmps43
  go_wp2_with (first
    | (go_at_call 41; (with_reducible refine (HP0.out _ HY0.out).mono ?_); rintro e w1 ⟨A1, n1, c1, rfl, hy1, hn1, hm1, hb1⟩; have HY1 := Lib.hid hy1; have HC1 := Lib.hid (And.intro hn1 hm1); have HX1 := Lib.hid hb1; clear hy1 hb1 hn1 hm1))
  go_loopw [0, 14] (fun bv iv wr => ∃ (i : Nat) (Av : Option Addr) (nv cv : Nat) (ys : List UInt8), i ≤ k ∧ iv = .int .i64 (i : Int) ∧ bv = .slice Av nv cv ∧ ys ++ encAll encPf (ps.drop i) = OUT ∧ By wr (fun _ => True) Av nv ys ∧ (nv ≤ cv ∧ cv ≤ maxLen) ∧ Below w.heap.size w wr) (fun _ iv _ => k - (intOf iv).toNat)
  case atStart => exact ⟨0, A1, n1, c1, _, Nat.zero_le _, rfl, rfl, HO0.out, HY1.out, HC1.out, HX1.out⟩
  case round =>
    obtain ⟨i, Av, nv, cv, ys, hi, rfl, rfl, ho, hy, hc, hx⟩ := hrel
    have HOv := Lib.hid ho
    have HYv0 := Lib.hid hy
    have HCv := Lib.hid hc
    have HXv := Lib.hid hx
    clear ho hy hc hx
    by_cases hlt : i < k
    · obtain ⟨g, o, p, B, m, c, rfl, _, hmem, hd, hrx, he, hmc, hcm⟩ := (HP.out.through HXv.out).at hlt
      have HRx := Lib.hid hrx
      have HEx := Lib.hid he
      have HMC := Lib.hid (And.intro hmc hcm)
      have hix := Try.ix_pf wr g o k d i hlt
      have HBx : Hid (Blk (wr.alloc (.cells #[.int .i64 p.sq, .int .i64 p.vw, .slice B m c] 55)) wr.heap.size 55 [.int .i64 p.sq, .int .i64 p.vw, .slice B m c]) := Lib.hid (Blk.fresh rfl rfl)
      have HYv : Hid (By (wr.alloc (.cells #[.int .i64 p.sq, .int .i64 p.vw, .slice B m c] 55)) (fun _ => True) Av nv ys) := Lib.hid (HYv0.out.through (below1_ wr _))
      have hlow := HLo.out p hmem
      have HOz : Hid ((ys ++ beB (u64N p.sq) 8 ++ beB (u64N p.vw) 8 ++ rowB (encB p.es)) ++ encAll encPf (ps.drop (i + 1)) = OUT) := Lib.hid (by rw [← HOv.out, hd]; simp only [encAll, encPf, List.append_assoc])
      have hzl : ys.length + 16 + 4 + (encB p.es).length ≤ 1000000000 := by
        have h9 := congrArg List.length HOz.out
        simp only [List.length_append, beB_length, rowB] at h9
        have := HLL.out
        omega
      have HZ1 : Hid (ys.length ≤ 1000000000) := Lib.hid (by omega)
      have HZ2 : Hid ((ys ++ beB (u64N p.sq) 8).length ≤ 1000000000) := Lib.hid (by rw [List.length_append, beB_length]; omega)
      have HBy : Hid (∀ (E : Option Addr) (m c : Nat) (W : World), EysIn W E m p.es → m ≤ c → Calls Try.prog 88 #[.slice E m c] W (Byt W (encB p.es))) := Lib.hid (fun E m c W h9 _ => rbytesB_any p.es E m c W h9 (by rw [← h9.len]; exact Nat.le_trans hlow.1 (by omega)) (fun y hy => ⟨Nat.le_trans (hlow.2 y hy).1 (by omega), Nat.le_trans (hlow.2 y hy).2 (by omega)⟩) (by omega))
      have HRw : Hid (∀ (W : World) (C : Option Addr) (m d : Nat) (C' : Option Addr) (m' d' : Nat), By W (fun _ => True) C m (ys ++ beB (u64N p.sq) 8 ++ beB (u64N p.vw) 8) → By W (fun _ => True) C' m' (encB p.es) → Calls Try.prog 71 #[.slice C m d, .slice C' m' d'] W (Byt W (ys ++ beB (u64N p.sq) 8 ++ beB (u64N p.vw) 8 ++ rowB (encB p.es)))) := Lib.hid (fun W C m d C' m' d' h1 h2 => rrow_by h1 h2 (by simp only [List.length_append, beB_length]; omega) (by omega))
      clear hrx he hmc hcm hd hmem hlow hzl
      go_wp2_with (first
        | (refine wpList_load_mid rfl 55 (.tmp 16) rfl g (o + i * 3) rfl [.int .i64 p.sq, .int .i64 p.vw, .slice B m c] _ HRx.out Try.underlying55 rfl (by kernel_rfl) ?_))
      try dsimp only [Act.put]
      refine wp_region_held_drew (S := fun W => Below (wr.alloc (.cells #[.int .i64 p.sq, .int .i64 p.vw, .slice B m c] 55)).heap.size (wr.alloc (.cells #[.int .i64 p.sq, .int .i64 p.vw, .slice B m c] 55)) W) (by kernel_rfl) (Below.refl _ _).drew (fun hHeld => ?_)
      change wpAnyH _ _ _ _ _ _ #[false, false, false, false, false, false, false, false, false, false] _ _
      refine wpAnyH_take (i := 0) (v := (.slice Av nv cv)) rfl (by kernel_rfl) (by kernel_rfl) (by kernel_rfl) (fun _ _ _ h => h) (Or.inl ⟨by kernel_rfl, fun w hSw => ?_⟩) (by assumption) ?_
      · (try dsimp only at hSw); go_simp <;> (try rfl)
      change wpAnyH _ _ _ _ _ _ _ (Act.put _ (some (18 : Nat)) (.slice Av nv cv)) _
      simp only [Act.put, List.setIfInBounds_toArray, List.set_cons_zero, List.set_cons_succ]
      refine wpAnyH_take (i := 1) (v := (.pointer (some ⟨wr.heap.size, 0, none⟩))) rfl (by kernel_rfl) (by kernel_rfl) (by kernel_rfl) (fun _ _ _ h => h) (Or.inl ⟨by kernel_rfl, fun w hSw => ?_⟩) (by assumption) ?_
      · (try dsimp only at hSw); go_simp <;> (try rfl)
      change wpAnyH _ _ _ _ _ _ _ (Act.put _ (some (19 : Nat)) (.pointer (some ⟨wr.heap.size, 0, none⟩))) _
      simp only [Act.put, List.setIfInBounds_toArray, List.set_cons_zero, List.set_cons_succ]
      refine wpAnyH_take (i := 2) (v := (.int .i64 p.sq)) rfl (by kernel_rfl) (by kernel_rfl) (by kernel_rfl) (fun _ _ _ h => h) (yields_load_at (by kernel_rfl) 2 (.tmp 19) rfl (.pointer (some ⟨wr.heap.size, 0, none⟩)) (by simp [Act.eval]) (.int .i64 p.sq) (fun W hW => load_one' (Try.agg_i64 W) ((HBx.out.through hW).cellAt (i := 0) rfl))) (by assumption) ?_
      change wpAnyH _ _ _ _ _ _ _ (Act.put _ (some (20 : Nat)) (.int .i64 p.sq)) _
      simp only [Act.put, List.setIfInBounds_toArray, List.set_cons_zero, List.set_cons_succ]
      refine wpAnyH_take (i := 3) (v := (.int .u64 ((u64N p.sq : Nat) : Int))) rfl (by kernel_rfl) (by kernel_rfl) (by kernel_rfl) (fun _ _ _ h => h) (yields_conv (by kernel_rfl) 2 70 (.tmp 20) rfl (.int .i64 p.sq) (by simp [Act.eval]) (.int .u64 ((u64N p.sq : Nat) : Int)) (fun W _ => conv_u64 2 70 Try.underlying2 Try.underlying70 p.sq W)) (by assumption) ?_
      change wpAnyH _ _ _ _ _ _ _ (Act.put _ (some (21 : Nat)) (.int .u64 ((u64N p.sq : Nat) : Int))) _
      simp only [Act.put, List.setIfInBounds_toArray, List.set_cons_zero, List.set_cons_succ]
      refine wpAnyH_take (i := 5) (v := (.pointer (some ⟨wr.heap.size, 1, none⟩))) rfl (by kernel_rfl) (by kernel_rfl) (by kernel_rfl) (fun _ _ _ h => h) (Or.inl ⟨by kernel_rfl, fun w hSw => ?_⟩) (by assumption) ?_
      · (try dsimp only at hSw); go_simp <;> (try rfl)
      change wpAnyH _ _ _ _ _ _ _ (Act.put _ (some (23 : Nat)) (.pointer (some ⟨wr.heap.size, 1, none⟩))) _
      simp only [Act.put, List.setIfInBounds_toArray, List.set_cons_zero, List.set_cons_succ]
      refine wpAnyH_take (i := 6) (v := (.int .i64 p.vw)) rfl (by kernel_rfl) (by kernel_rfl) (by kernel_rfl) (fun _ _ _ h => h) (yields_load_at (by kernel_rfl) 2 (.tmp 23) rfl (.pointer (some ⟨wr.heap.size, 1, none⟩)) (by simp [Act.eval]) (.int .i64 p.vw) (fun W hW => load_one' (Try.agg_i64 W) ((HBx.out.through hW).cellAt (i := 1) rfl))) (by assumption) ?_
      change wpAnyH _ _ _ _ _ _ _ (Act.put _ (some (24 : Nat)) (.int .i64 p.vw)) _
      simp only [Act.put, List.setIfInBounds_toArray, List.set_cons_zero, List.set_cons_succ]
      refine wpAnyH_take (i := 7) (v := (.int .u64 ((u64N p.vw : Nat) : Int))) rfl (by kernel_rfl) (by kernel_rfl) (by kernel_rfl) (fun _ _ _ h => h) (yields_conv (by kernel_rfl) 2 70 (.tmp 24) rfl (.int .i64 p.vw) (by simp [Act.eval]) (.int .u64 ((u64N p.vw : Nat) : Int)) (fun W _ => conv_u64 2 70 Try.underlying2 Try.underlying70 p.vw W)) (by assumption) ?_
      change wpAnyH _ _ _ _ _ _ _ (Act.put _ (some (25 : Nat)) (.int .u64 ((u64N p.vw : Nat) : Int))) _
      simp only [Act.put, List.setIfInBounds_toArray, List.set_cons_zero, List.set_cons_succ]
      refine wpAnyH_ready (rs := [4]) (by kernel_rfl) (by simp) ?_
      refine AllReadyH.cons rfl (fun K hK => ?_) AllReadyH.nil
      go_simp
      refine (HPu.out p.sq _ _ _ _ ys (HYv.out.through hHeld) HZ1.out).mono ?_
      rintro e wp ⟨Ap, np, dp, rfl, hyp, _, _, hbp⟩; have HYp := Lib.hid hyp; have HKp := Lib.hid (below_step hHeld hbp); clear hyp hbp
      go_wp2_with fail
      refine hK.out _ _ HKp.out (fun hHeld1 => ?_)
      clear hHeld hK K
      have hHeld := hHeld1
      clear hHeld1
      refine wpAnyH_ready (rs := [8]) (by kernel_rfl) (by simp) ?_
      refine AllReadyH.cons rfl (fun K hK => ?_) AllReadyH.nil
      go_simp
      refine (HPu.out p.vw _ _ _ _ (ys ++ beB (u64N p.sq) 8) HYp.out HZ2.out).mono ?_
      rintro e wq ⟨Aq, nq, dq, rfl, hyq, _, _, hbq⟩; have HYq := Lib.hid hyq; have HKq := Lib.hid (below_step hHeld hbq); clear hyq hbq
      go_wp2_with fail
      refine hK.out _ _ HKq.out (fun hHeld1 => ?_)
      clear hHeld hK K
      have hHeld := hHeld1
      clear hHeld1
      refine wpAnyH_take (i := 9) (v := (.slice Aq nq dq)) rfl (by kernel_rfl) (by kernel_rfl) (by kernel_rfl) (fun _ _ _ h => h) (Or.inl ⟨by kernel_rfl, fun w hSw => ?_⟩) (by assumption) ?_
      · (try dsimp only at hSw); go_simp <;> (try rfl)
      change wpAnyH _ _ _ _ _ _ _ (Act.put _ (some (0 : Nat)) (.slice Aq nq dq)) _
      simp only [Act.put, List.setIfInBounds_toArray, List.set_cons_zero, List.set_cons_succ]
      refine wpAnyH_done (by kernel_rfl) ?_ _
      have HXq : Hid (Below w.heap.size w wq) := Lib.hid (below_step (below_step HXv.out (below1_ wr _)) hHeld)
      have HBq := Lib.hid (HBx.out.through hHeld)
      have HEq := Lib.hid ((HEx.out.through (below1_ wr _)).through hHeld)
      have k2 := HBq.out.cellAt (i := 2) rfl
      clear hHeld
      go_wp2_with (first
        | (go_at_call 88; (with_reducible refine (HBy.out _ _ _ _ HEq.out HMC.out.1).mono ?_); rintro e wb ⟨Ab, nb, db, rfl, hyb, _, _, hbb⟩; have HYb := Lib.hid hyb; have HYq2 := Lib.hid (HYq.out.through hbb); have HXb := Lib.hid (below_step HXq.out hbb); clear hyb hbb)
        | (go_at_call 71; (with_reducible refine (HRw.out _ _ _ _ _ _ _ HYq2.out HYb.out).mono ?_); rintro e wz ⟨Az, nz, dz, rfl, hyz, hnz, hmz, hbz⟩; have HYz := Lib.hid hyz; have HCz := Lib.hid (And.intro hnz hmz); have HXz := Lib.hid (below_step HXb.out hbz); clear hyz hbz hnz hmz))
      go_roundw
      case rel => exact ⟨i + 1, Az, nz, dz, _, by omega, by go_num, rfl, HOz.out, HYz.out, ⟨HCz.out.1, HCz.out.2⟩, HXz.out⟩
      case measure => simp [intOf]; omega
    · have e9 : ps.drop i = [] := List.drop_of_length_le (by have := HLn.out; omega)
      have HE : Hid (ys = OUT) := Lib.hid (by rw [← HOv.out, e9]; simp [encAll])
      clear e9
      go_wp2
      go_ret
      exact ⟨Av, nv, cv, rfl, by rw [← HE.out]; exact HYv0.out, HCv.out.1, HCv.out.2, HXv.out⟩

end Go.Proofs.Ytheecifgbkdecaa
