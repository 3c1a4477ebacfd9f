/-
  LedgerBytes, walked.
-/
import Derived.Test.YtkbeodlihmmdbaaPgL1
import Derived.Test.YtkbeodlihmmdbaaPgF2
import Derived.Test.YtkbeodlihmmdbaaLgBy
namespace Go.Proofs.Ytkbeodlihmmdbaa
open Go.RowKit

theorem name_lim {l : Lg} (h : fewL l = true) : ∀ x ∈ l.ls, x.nm.length ≤ 100 := fun x hx => by
  simp only [fewL, Bool.and_eq_true, List.all_eq_true] at h
  have := h.1 x hx
  simp only [fewX, Bool.and_eq_true, decide_eq_true_eq] at this
  exact this.1.1
theorem few_lim {l : Lg} (h : fewL l = true) : l.ls.length ≤ 64 ∧ l.os.length ≤ 64 := by
  simp only [fewL, Bool.and_eq_true, decide_eq_true_eq] at h
  exact h.2
theorem bytes_ne {l : Lg} : l.bytes ≠ [] := fun h => by
  have h2 := congrArg List.length h
  unfold Lg.bytes at h2
  simp at h2
theorem bytes_same {l k : Lg} (h : l.right = true) : ((if k.right then k.bytes else []) == l.bytes) = l.same k := by
  have key : ∀ a b : Bool, (a = true ↔ b = true) → a = b := fun a b h => by cases a <;> cases b <;> simp_all
  apply key
  rw [beq_iff_eq, Lg.same_iff]
  constructor
  · intro e
    cases hk : k.right with
    | true =>
      rw [hk, if_pos rfl] at e
      exact (bytes_inj hk h e).symm
    | false =>
      rw [hk, if_neg (by simp)] at e
      exact absurd e.symm bytes_ne
  · rintro rfl
    rw [h, if_pos rfl]

set_option maxHeartbeats 16000000 in
set_option maxRecDepth 100000 in
theorem lbytes_any (l k : Lg) (A : Option Addr) (n c : Nat) (B : Option Addr) (m d : Nat) (A' : Option Addr) (n' c' : Nat) (B' : Option Addr) (m' d' : Nat) (w : World) (h : LgIn w A n B m l) (hnc : n ≤ c) (hcm : c ≤ maxLen) (_hmd : m ≤ d) (_hdm : d ≤ maxLen) (h' : LgIn w A' n' B' m' k) (hnc' : n' ≤ c') (hcm' : c' ≤ maxLen) (_hmd' : m' ≤ d') (_hdm' : d' ≤ maxLen) :
    Calls Try.prog 4 #[l.val A n c B m d, k.val A' n' c' B' m' d'] w fun e w' => e = .returned (.bool true) ∧ Below w.heap.size w w' := by
  have hli := ba_list
  have hf1 : ∀ W, Below w.heap.size w W → Calls Try.prog 8 #[.agg #[.int .i64 l.sq, .int .i64 l.tt, .slice A n c, .slice B m d]] W fun e w' => e = .returned (.bool (fewL l)) ∧ Below W.heap.size W w' := fun W hW => few_any l A n c B m d W (h.through hW) (by omega)
  have hf2 : ∀ W, Below w.heap.size w W → Calls Try.prog 8 #[.agg #[.int .i64 k.sq, .int .i64 k.tt, .slice A' n' c', .slice B' m' d']] W fun e w' => e = .returned (.bool (fewL k)) ∧ Below W.heap.size W w' := fun W hW => few_any k A' n' c' B' m' d' W (h'.through hW) (by omega)
  have HX0 : Hid (Below w.heap.size w ((w.alloc (.cells #[.int .i64 l.sq, .int .i64 l.tt, .slice A n c, .slice B m d] 25)).alloc (.cells #[.int .i64 k.sq, .int .i64 k.tt, .slice A' n' c', .slice B' m' d'] 25))) := Lib.hid (below2 w _ _)
  have K10 : Hid (Blk ((w.alloc (.cells #[.int .i64 l.sq, .int .i64 l.tt, .slice A n c, .slice B m d] 25)).alloc (.cells #[.int .i64 k.sq, .int .i64 k.tt, .slice A' n' c', .slice B' m' d'] 25)) w.heap.size 25 [.int .i64 l.sq, .int .i64 l.tt, .slice A n c, .slice B m d]) := Lib.hid ((Blk.fresh rfl rfl).alloc _)
  have K20 : Hid (Blk ((w.alloc (.cells #[.int .i64 l.sq, .int .i64 l.tt, .slice A n c, .slice B m d] 25)).alloc (.cells #[.int .i64 k.sq, .int .i64 k.tt, .slice A' n' c', .slice B' m' d'] 25)) (w.heap.size + 1) 25 [.int .i64 k.sq, .int .i64 k.tt, .slice A' n' c', .slice B' m' d']) := Lib.hid (Blk.fresh (by simp) rfl)
  unfold Lg.val
  cases hfl : fewL l with
  | false =>
    rw [hfl] at hf1
    have HF1 := Lib.hid hf1
    clear hf1 hf2 h h' hfl
    go_enter Try.func4, Try.ntmps4
    go_wp2_with (first
      | (go_at_call 7; (with_reducible refine (fixed_any _).mono ?_); rintro e wa ⟨rfl, hba⟩; have HXa : Hid (Below w.heap.size w wa) := Lib.hid (below_step HX0.out hba); have K1a := Lib.hid (K10.out.through hba); have K2a := Lib.hid (K20.out.through hba); clear hba)
      | (refine wpList_load_blk rfl 25 (.tmp 2) rfl (w.heap.size) rfl 25 [.int .i64 l.sq, .int .i64 l.tt, .slice A n c, .slice B m d] _ K1a.out Try.underlying25 rfl (by kernel_rfl) ?_)
      | (go_at_call 8; (with_reducible refine (HF1.out _ HXa.out).mono ?_); rintro e wb ⟨rfl, hbb⟩; have HXb : Hid (Below w.heap.size w wb) := Lib.hid (below_step HXa.out hbb); have K1b := Lib.hid (K1a.out.through hbb); have K2b := Lib.hid (K2a.out.through hbb); clear hbb))
    go_ret
    exact ⟨rfl, HXb.out⟩
  | true =>
  cases hfk : fewL k with
  | false =>
    rw [hfl] at hf1
    rw [hfk] at hf2
    have HF1 := Lib.hid hf1
    have HF2 := Lib.hid hf2
    clear hf1 hf2 h h' hfl hfk
    go_enter Try.func4, Try.ntmps4
    go_wp2_with (first
      | (go_at_call 7; (with_reducible refine (fixed_any _).mono ?_); rintro e wa ⟨rfl, hba⟩; have HXa : Hid (Below w.heap.size w wa) := Lib.hid (below_step HX0.out hba); have K1a := Lib.hid (K10.out.through hba); have K2a := Lib.hid (K20.out.through hba); clear hba)
      | (refine wpList_load_blk rfl 25 (.tmp 2) rfl (w.heap.size) rfl 25 [.int .i64 l.sq, .int .i64 l.tt, .slice A n c, .slice B m d] _ K1a.out Try.underlying25 rfl (by kernel_rfl) ?_)
      | (go_at_call 8; (with_reducible refine (HF1.out _ HXa.out).mono ?_); rintro e wb ⟨rfl, hbb⟩; have HXb : Hid (Below w.heap.size w wb) := Lib.hid (below_step HXa.out hbb); have K1b := Lib.hid (K1a.out.through hbb); have K2b := Lib.hid (K2a.out.through hbb); clear hbb)
      | (refine wpList_load_blk_g 25 (.tmp 3) rfl (by kernel_rfl) (w.heap.size + 1) rfl 25 [.int .i64 k.sq, .int .i64 k.tt, .slice A' n' c', .slice B' m' d'] _ K2b.out Try.underlying25 rfl (by kernel_rfl) ?_)
      | (go_at_call 8; (with_reducible refine (HF2.out _ HXb.out).mono ?_); rintro e wc ⟨rfl, hbc⟩; have HXc : Hid (Below w.heap.size w wc) := Lib.hid (below_step HXb.out hbc); have K1c := Lib.hid (K1b.out.through hbc); have K2c := Lib.hid (K2b.out.through hbc); clear hbc))
    go_ret
    exact ⟨rfl, HXc.out⟩
  | true =>
  rw [hfl] at hf1
  rw [hfk] at hf2
  have hll := few_lim hfl
  have hlk := few_lim hfk
  have hnl := name_lim hfl
  have hnk := name_lim hfk
  have hl1 := h.len
  have hk1 := h'.len
  have hn : n ≤ 64 := by omega
  have hm : m ≤ 64 := by omega
  have hn' : n' ≤ 64 := by omega
  have hm' : m' ≤ 64 := by omega
  have hck : ∀ W, Below w.heap.size w W → Calls Try.prog 21 #[.agg #[.int .i64 l.sq, .int .i64 l.tt, .slice A n c, .slice B m d]] W fun e w' => e = .returned (.int .i64 (chkE l)) ∧ Below W.heap.size W w' := fun W hW => check_any l A n c B m d W (h.through hW) (by omega) (by omega) (fun x hx => Nat.le_trans (hnl x hx) (by omega))
  have hrt : ∀ W, Below w.heap.size w W → Calls Try.prog 22 #[.agg #[.int .i64 l.sq, .int .i64 l.tt, .slice A n c, .slice B m d]] W fun e w' => e = .returned (.bool l.right) ∧ Below W.heap.size W w' := fun W hW => rright_any l A n c B m d W (h.through hW) (by omega) (by omega) (fun x hx => Nat.le_trans (hnl x hx) (by omega))
  have hsm : ∀ W, Below w.heap.size w W → Calls Try.prog 23 #[.agg #[.int .i64 l.sq, .int .i64 l.tt, .slice A n c, .slice B m d], .agg #[.int .i64 k.sq, .int .i64 k.tt, .slice A' n' c', .slice B' m' d']] W fun e w' => e = .returned (.bool (l.same k)) ∧ Below W.heap.size W w' := fun W hW => same_any l k A n c B m d A' n' c' B' m' d' W (h.through hW) (h'.through hW) (by omega) (by omega) (by omega) (by omega)
  have hrs : ∀ W, Below w.heap.size w W → Calls Try.prog 17 #[.agg #[.int .i64 l.sq, .int .i64 l.tt, .slice A n c, .slice B m d], .agg #[.int .i64 k.sq, .int .i64 k.tt, .slice A' n' c', .slice B' m' d']] W fun e w' => e = .returned (.bool (l.same k)) ∧ Below W.heap.size W w' := fun W hW => rsame_any l k A n c B m d A' n' c' B' m' d' W (h.through hW) (h'.through hW) (by omega) (by omega) (by omega) (by omega)
  have hbl : ∀ W, Below w.heap.size w W → Calls Try.prog 20 #[.agg #[.int .i64 l.sq, .int .i64 l.tt, .slice A n c, .slice B m d]] W (Byt W (if l.right then l.bytes else [])) := fun W hW => bytes_any l A n c B m d W (h.through hW) (by omega) (by omega) (fun x hx => Nat.le_trans (hnl x hx) (by omega))
  have hbk : ∀ W, Below w.heap.size w W → Calls Try.prog 20 #[.agg #[.int .i64 k.sq, .int .i64 k.tt, .slice A' n' c', .slice B' m' d']] W (Byt W (if k.right then k.bytes else [])) := fun W hW => bytes_any k A' n' c' B' m' d' W (h'.through hW) (by omega) (by omega) (fun x hx => Nat.le_trans (hnk x hx) (by omega))
  have HF1 := Lib.hid hf1
  have HF2 := Lib.hid hf2
  unfold chkE at hck
  cases hr : l.right with
  | false =>
    rw [hr] at hck hrt hbl
    obtain ⟨sb, hsb⟩ : ∃ sb, l.same k = sb := ⟨_, rfl⟩
    rw [hsb] at hsm hrs
    have hck2 : ∀ W, Below w.heap.size w W → Calls Try.prog 21 #[.agg #[.int .i64 l.sq, .int .i64 l.tt, .slice A n c, .slice B m d]] W fun e w' => e = .returned (.int .i64 2) ∧ Below W.heap.size W w' := hck
    have hbl2 : ∀ W, Below w.heap.size w W → Calls Try.prog 20 #[.agg #[.int .i64 l.sq, .int .i64 l.tt, .slice A n c, .slice B m d]] W (Byt W []) := hbl
    have HCk := Lib.hid hck2
    have HRt := Lib.hid hrt
    have HSm := Lib.hid hsm
    have HRs := Lib.hid hrs
    have HBl := Lib.hid hbl2
    clear h h' hfl hfk hf1 hf2 hll hlk hnl hnk hl1 hk1 hck hck2 hrt hsm hrs hbl hbl2 hbk hr hsb
    go_enter Try.func4, Try.ntmps4
    go_wp2_with (first
      | (go_at_call 7; (with_reducible refine (fixed_any _).mono ?_); rintro e wa ⟨rfl, hba⟩; have HXa : Hid (Below w.heap.size w wa) := Lib.hid (below_step HX0.out hba); have K1a := Lib.hid (K10.out.through hba); have K2a := Lib.hid (K20.out.through hba); clear hba)
      | (refine wpList_load_blk rfl 25 (.tmp 2) rfl (w.heap.size) rfl 25 [.int .i64 l.sq, .int .i64 l.tt, .slice A n c, .slice B m d] _ K1a.out Try.underlying25 rfl (by kernel_rfl) ?_)
      | (go_at_call 8; (with_reducible refine (HF1.out _ HXa.out).mono ?_); rintro e wb ⟨rfl, hbb⟩; have HXb : Hid (Below w.heap.size w wb) := Lib.hid (below_step HXa.out hbb); have K1b := Lib.hid (K1a.out.through hbb); have K2b := Lib.hid (K2a.out.through hbb); clear hbb)
      | (refine wpList_load_blk_g 25 (.tmp 3) rfl (by kernel_rfl) (w.heap.size + 1) rfl 25 [.int .i64 k.sq, .int .i64 k.tt, .slice A' n' c', .slice B' m' d'] _ K2b.out Try.underlying25 rfl (by kernel_rfl) ?_)
      | (go_at_call 8; (with_reducible refine (HF2.out _ HXb.out).mono ?_); rintro e wc ⟨rfl, hbc⟩; have HXc : Hid (Below w.heap.size w wc) := Lib.hid (below_step HXb.out hbc); have K1c := Lib.hid (K1b.out.through hbc); have K2c := Lib.hid (K2b.out.through hbc); clear hbc)
      | (refine wpList_load_blk rfl 25 (.tmp 2) rfl (w.heap.size) rfl 25 [.int .i64 l.sq, .int .i64 l.tt, .slice A n c, .slice B m d] _ K1c.out Try.underlying25 rfl (by kernel_rfl) ?_)
      | (go_at_call 20; (with_reducible refine (HBl.out _ HXc.out).mono ?_); rintro e wd ⟨Ad, nd, cd, rfl, hyd, _, _, hbd⟩; have HXd : Hid (Below w.heap.size w wd) := Lib.hid (below_step HXc.out hbd); have K1d := Lib.hid (K1c.out.through hbd); have K2d := Lib.hid (K2c.out.through hbd); have HYd := Lib.hid hyd; clear hbd hyd))
    obtain rfl : 0 = nd := HYd.out.len
    refine wp_region_held_drew (S := fun W => Below wd.heap.size wd W) (by kernel_rfl) (Below.refl _ _).drew (fun hHeld => ?_)
    change wpAnyH _ _ _ _ _ _ #[false, false, false, false, false, false, false, false, false, false, false, false, false, false, false] _ _
    refine wpAnyH_take (i := 0) (v := (.agg #[.int .i64 l.sq, .int .i64 l.tt, .slice A n c, .slice B m d])) rfl (by kernel_rfl) (by kernel_rfl) (by kernel_rfl) (fun _ _ _ h => h) (yields_load_at (by kernel_rfl) 25 (.tmp 2) rfl (.pointer (some ⟨w.heap.size, 0, none⟩)) rfl (.agg #[.int .i64 l.sq, .int .i64 l.tt, .slice A n c, .slice B m d]) (fun W hW => (K1d.out.through hW).loadAt 25 _ Try.underlying25 rfl (by kernel_rfl))) (by assumption) ?_
    change wpAnyH _ _ _ _ _ _ _ (Act.put _ (some (21 : Nat)) (.agg #[.int .i64 l.sq, .int .i64 l.tt, .slice A n c, .slice B m d])) _
    simp only [Act.put, List.setIfInBounds_toArray, List.set_cons_zero, List.set_cons_succ]
    refine wpAnyH_take (i := 3) (v := (.agg #[.int .i64 l.sq, .int .i64 l.tt, .slice A n c, .slice B m d])) rfl (by kernel_rfl) (by kernel_rfl) (by kernel_rfl) (fun _ _ _ h => h) (yields_load_at (by kernel_rfl) 25 (.tmp 2) rfl (.pointer (some ⟨w.heap.size, 0, none⟩)) rfl (.agg #[.int .i64 l.sq, .int .i64 l.tt, .slice A n c, .slice B m d]) (fun W hW => (K1d.out.through hW).loadAt 25 _ Try.underlying25 rfl (by kernel_rfl))) (by assumption) ?_
    change wpAnyH _ _ _ _ _ _ _ (Act.put _ (some (24 : Nat)) (.agg #[.int .i64 l.sq, .int .i64 l.tt, .slice A n c, .slice B m d])) _
    simp only [Act.put, List.setIfInBounds_toArray, List.set_cons_zero, List.set_cons_succ]
    refine wpAnyH_ready (rs := [1]) (by kernel_rfl) (by simp) ?_
    refine AllReadyH.cons rfl (fun K hK => ?_) AllReadyH.nil
    go_simp
    refine ((HCk.out _ (below_step HXd.out hHeld))).mono ?_
    rintro e wp ⟨rfl, hbp⟩; have HKp := Lib.hid hbp; clear hbp
    go_wp2_with fail
    refine hK.out _ _ (below_step hHeld HKp.out) (fun hHeld1 => ?_)
    clear hHeld hK K
    have hHeld := hHeld1
    clear hHeld1
    refine wpAnyH_take (i := 2) (v := (.bool false)) rfl (by kernel_rfl) (by kernel_rfl) (by kernel_rfl) (fun _ _ _ h => h) (Or.inl ⟨by kernel_rfl, fun w hSw => ?_⟩) (by assumption) ?_
    · (try dsimp only at hSw); go_simp <;> (try rfl)
    change wpAnyH _ _ _ _ _ _ _ (Act.put _ (some (23 : Nat)) (.bool false)) _
    simp only [Act.put, List.setIfInBounds_toArray, List.set_cons_zero, List.set_cons_succ]
    refine wpAnyH_ready (rs := [4]) (by kernel_rfl) (by simp) ?_
    refine AllReadyH.cons rfl (fun K hK => ?_) AllReadyH.nil
    go_simp
    refine ((HRt.out _ (below_step HXd.out hHeld))).mono ?_
    rintro e wq ⟨rfl, hbq⟩; have HKq := Lib.hid hbq; clear hbq
    go_wp2_with fail
    refine hK.out _ _ (below_step hHeld HKq.out) (fun hHeld1 => ?_)
    clear hHeld hK K
    have hHeld := hHeld1
    clear hHeld1
    refine wpAnyH_take (i := 5) (v := (.bool false)) rfl (by kernel_rfl) (by kernel_rfl) (by kernel_rfl) (fun _ _ _ h => h) (Or.inl ⟨by kernel_rfl, fun w hSw => ?_⟩) (by assumption) ?_
    · (try dsimp only at hSw); go_simp <;> (try rfl)
    change wpAnyH _ _ _ _ _ _ _ (Act.put _ (some (26 : Nat)) (.bool false)) _
    simp only [Act.put, List.setIfInBounds_toArray, List.set_cons_zero, List.set_cons_succ]
    refine wpAnyH_take (i := 6) (v := (.bool false)) rfl (by kernel_rfl) (by kernel_rfl) (by kernel_rfl) (fun _ _ _ h => h) (Or.inl ⟨by kernel_rfl, fun w hSw => ?_⟩) (by assumption) ?_
    · (try dsimp only at hSw); go_simp <;> (try rfl)
    change wpAnyH _ _ _ _ _ _ _ (Act.put _ (some (27 : Nat)) (.bool false)) _
    simp only [Act.put, List.setIfInBounds_toArray, List.set_cons_zero, List.set_cons_succ]
    refine wpAnyH_take (i := 7) (v := (.agg #[.int .i64 l.sq, .int .i64 l.tt, .slice A n c, .slice B m d])) rfl (by kernel_rfl) (by kernel_rfl) (by kernel_rfl) (fun _ _ _ h => h) (yields_load_at (by kernel_rfl) 25 (.tmp 2) rfl (.pointer (some ⟨w.heap.size, 0, none⟩)) rfl (.agg #[.int .i64 l.sq, .int .i64 l.tt, .slice A n c, .slice B m d]) (fun W hW => (K1d.out.through hW).loadAt 25 _ Try.underlying25 rfl (by kernel_rfl))) (by assumption) ?_
    change wpAnyH _ _ _ _ _ _ _ (Act.put _ (some (28 : Nat)) (.agg #[.int .i64 l.sq, .int .i64 l.tt, .slice A n c, .slice B m d])) _
    simp only [Act.put, List.setIfInBounds_toArray, List.set_cons_zero, List.set_cons_succ]
    refine wpAnyH_take (i := 8) (v := (.agg #[.int .i64 k.sq, .int .i64 k.tt, .slice A' n' c', .slice B' m' d'])) rfl (by kernel_rfl) (by kernel_rfl) (by kernel_rfl) (fun _ _ _ h => h) (yields_load_at (by kernel_rfl) 25 (.tmp 3) rfl (.pointer (some ⟨w.heap.size + 1, 0, none⟩)) rfl (.agg #[.int .i64 k.sq, .int .i64 k.tt, .slice A' n' c', .slice B' m' d']) (fun W hW => (K2d.out.through hW).loadAt 25 _ Try.underlying25 rfl (by kernel_rfl))) (by assumption) ?_
    change wpAnyH _ _ _ _ _ _ _ (Act.put _ (some (29 : Nat)) (.agg #[.int .i64 k.sq, .int .i64 k.tt, .slice A' n' c', .slice B' m' d'])) _
    simp only [Act.put, List.setIfInBounds_toArray, List.set_cons_zero, List.set_cons_succ]
    refine wpAnyH_take (i := 10) (v := (.agg #[.int .i64 l.sq, .int .i64 l.tt, .slice A n c, .slice B m d])) rfl (by kernel_rfl) (by kernel_rfl) (by kernel_rfl) (fun _ _ _ h => h) (yields_load_at (by kernel_rfl) 25 (.tmp 2) rfl (.pointer (some ⟨w.heap.size, 0, none⟩)) rfl (.agg #[.int .i64 l.sq, .int .i64 l.tt, .slice A n c, .slice B m d]) (fun W hW => (K1d.out.through hW).loadAt 25 _ Try.underlying25 rfl (by kernel_rfl))) (by assumption) ?_
    change wpAnyH _ _ _ _ _ _ _ (Act.put _ (some (31 : Nat)) (.agg #[.int .i64 l.sq, .int .i64 l.tt, .slice A n c, .slice B m d])) _
    simp only [Act.put, List.setIfInBounds_toArray, List.set_cons_zero, List.set_cons_succ]
    refine wpAnyH_take (i := 11) (v := (.agg #[.int .i64 k.sq, .int .i64 k.tt, .slice A' n' c', .slice B' m' d'])) rfl (by kernel_rfl) (by kernel_rfl) (by kernel_rfl) (fun _ _ _ h => h) (yields_load_at (by kernel_rfl) 25 (.tmp 3) rfl (.pointer (some ⟨w.heap.size + 1, 0, none⟩)) rfl (.agg #[.int .i64 k.sq, .int .i64 k.tt, .slice A' n' c', .slice B' m' d']) (fun W hW => (K2d.out.through hW).loadAt 25 _ Try.underlying25 rfl (by kernel_rfl))) (by assumption) ?_
    change wpAnyH _ _ _ _ _ _ _ (Act.put _ (some (32 : Nat)) (.agg #[.int .i64 k.sq, .int .i64 k.tt, .slice A' n' c', .slice B' m' d'])) _
    simp only [Act.put, List.setIfInBounds_toArray, List.set_cons_zero, List.set_cons_succ]
    refine wpAnyH_ready (rs := [9]) (by kernel_rfl) (by simp) ?_
    refine AllReadyH.cons rfl (fun K hK => ?_) AllReadyH.nil
    go_simp
    refine ((HSm.out _ (below_step HXd.out hHeld))).mono ?_
    rintro e wr ⟨rfl, hbr⟩; have HKr := Lib.hid hbr; clear hbr
    go_wp2_with fail
    refine hK.out _ _ (below_step hHeld HKr.out) (fun hHeld1 => ?_)
    clear hHeld hK K
    have hHeld := hHeld1
    clear hHeld1
    refine wpAnyH_ready (rs := [12]) (by kernel_rfl) (by simp) ?_
    refine AllReadyH.cons rfl (fun K hK => ?_) AllReadyH.nil
    go_simp
    refine ((HRs.out _ (below_step HXd.out hHeld))).mono ?_
    rintro e ws ⟨rfl, hbs⟩; have HKs := Lib.hid hbs; clear hbs
    go_wp2_with fail
    refine hK.out _ _ (below_step hHeld HKs.out) (fun hHeld1 => ?_)
    clear hHeld hK K
    have hHeld := hHeld1
    clear hHeld1
    refine wpAnyH_take (i := 13) (v := (.bool false)) rfl (by kernel_rfl) (by kernel_rfl) (by kernel_rfl) (fun _ _ _ h => h) (Or.inl ⟨by kernel_rfl, fun w hSw => ?_⟩) (by assumption) ?_
    · (try dsimp only at hSw); go_simp <;> (try rfl)
    change wpAnyH _ _ _ _ _ _ _ (Act.put _ (some (34 : Nat)) (.bool false)) _
    simp only [Act.put, List.setIfInBounds_toArray, List.set_cons_zero, List.set_cons_succ]
    refine wpAnyH_take (i := 14) (v := (.bool false)) rfl (by kernel_rfl) (by kernel_rfl) (by kernel_rfl) (fun _ _ _ h => h) (Or.inl ⟨by kernel_rfl, fun w hSw => ?_⟩) (by assumption) ?_
    · (try dsimp only at hSw); go_simp <;> (try rfl)
    change wpAnyH _ _ _ _ _ _ _ (Act.put _ (some (35 : Nat)) (.bool false)) _
    simp only [Act.put, List.setIfInBounds_toArray, List.set_cons_zero, List.set_cons_succ]
    refine wpAnyH_done (by kernel_rfl) ?_ _
    have hbe := Lib.hid hHeld
    clear hHeld
    have HXe : Hid (Below w.heap.size w ws) := Lib.hid (below_step HXd.out hbe.out)
    have K1e := Lib.hid (K1d.out.through hbe.out)
    have K2e := Lib.hid (K2d.out.through hbe.out)
    have HYe := Lib.hid (HYd.out.through hbe.out)
    go_wp2_with (first
  | (refine wpList_load_blk rfl 25 (.tmp 2) rfl (w.heap.size) rfl 25 [.int .i64 l.sq, .int .i64 l.tt, .slice A n c, .slice B m d] _ K1e.out Try.underlying25 rfl (by kernel_rfl) ?_)
  | (go_at_call 22; (with_reducible refine (HRt.out _ HXe.out).mono ?_); rintro e wf ⟨rfl, hbf⟩; have HXf : Hid (Below w.heap.size w wf) := Lib.hid (below_step HXe.out hbf); have K1f := Lib.hid (K1e.out.through hbf); have K2f := Lib.hid (K2e.out.through hbf); have HYf := Lib.hid (HYe.out.through hbf); clear hbf))
    go_ret
    exact ⟨rfl, HXf.out⟩

  | true =>
    rw [hr] at hck hrt hbl
    have hsame := bytes_same (k := k) hr
    obtain ⟨sb, hsb⟩ : ∃ sb, l.same k = sb := ⟨_, rfl⟩
    rw [hsb] at hsm hrs hsame
    obtain ⟨xk, hxk⟩ : ∃ xk, (if k.right then k.bytes else []) = xk := ⟨_, rfl⟩
    rw [hxk] at hbk hsame
    have hpa : ∀ (W : World) (A : Option Addr) (n c : Nat), By W (fun _ => True) A n l.bytes → Calls Try.prog 24 #[.slice A n c] W fun e w' => ∃ A n c B m d, e = .returned (.tuple #[.agg #[.int .i64 l.sq, .int .i64 l.tt, .slice A n c, .slice B m d], .int .i64 0]) ∧ LgIn w' A n B m l ∧ n ≤ c ∧ m ≤ d ∧ Below W.heap.size W w' := fun W A n c hY => by
      have hR := Lg.right_iff.1 hr
      have hlt := lsOk_mem _ _ hR.ls
      have hln : l.bytes.length ≤ 1000000 := by
        have h1 := encAll_len (f := encLt) (b := 500) l.ls (fun x hx => encLt_len (hlt x hx))
        have h2 := encAll_len (f := encOc) (b := 10) l.os (fun x _ => Nat.le_of_eq (encOc_len x))
        have h3 : l.ls.length * 500 ≤ 64 * 500 := Nat.mul_le_mul_right _ hll.1
        have h4 : l.os.length * 10 ≤ 64 * 10 := Nat.mul_le_mul_right _ hll.2
        unfold Lg.bytes
        simp
        omega
      have h9 := parse_any l.bytes A n c W hY (by rw [← hY.len]; exact hln)
      have e9 : parseB l.bytes = (l, true) := by unfold parseB; rw [parseLg_iff.2 ⟨hr, rfl⟩]
      rw [e9] at h9
      exact h9
    have hr6 : ∀ (W : World) (A6 : Option Addr) (n6 c6 : Nat) (B6 : Option Addr) (m6 d6 : Nat), Below w.heap.size w W → LgIn W A6 n6 B6 m6 l → Calls Try.prog 17 #[.agg #[.int .i64 l.sq, .int .i64 l.tt, .slice A6 n6 c6, .slice B6 m6 d6], .agg #[.int .i64 l.sq, .int .i64 l.tt, .slice A n c, .slice B m d]] W fun e w' => e = .returned (.bool true) ∧ Below W.heap.size W w' := fun W A6 n6 c6 B6 m6 d6 hW hI => by
      have h9 := rsame_any l l A6 n6 c6 B6 m6 d6 A n c B m d W hI (h.through hW) (by have := hI.len; omega) (by have := hI.len; omega) (by omega) (by omega)
      rw [Lg.same_self] at h9
      exact h9
    have hrb : ∀ W, Below w.heap.size w W → Calls Try.prog 25 #[.agg #[.int .i64 l.sq, .int .i64 l.tt, .slice A n c, .slice B m d]] W (Byt W l.bytes) := fun W hW => rbytes_any l A n c B m d W (h.through hW) hr
    have hck2 : ∀ W, Below w.heap.size w W → Calls Try.prog 21 #[.agg #[.int .i64 l.sq, .int .i64 l.tt, .slice A n c, .slice B m d]] W fun e w' => e = .returned (.int .i64 0) ∧ Below W.heap.size W w' := hck
    have hbl2 : ∀ W, Below w.heap.size w W → Calls Try.prog 20 #[.agg #[.int .i64 l.sq, .int .i64 l.tt, .slice A n c, .slice B m d]] W (Byt W l.bytes) := hbl
    have HCk := Lib.hid hck2
    have HRt := Lib.hid hrt
    have HSm := Lib.hid hsm
    have HRs := Lib.hid hrs
    have HBl := Lib.hid hbl2
    have HBk := Lib.hid hbk
    have HPa := Lib.hid hpa
    have HR6 := Lib.hid hr6
    have HRb := Lib.hid hrb
    have hsame2 : ((ba xk).toList == (ba l.bytes).toList) = sb := by rw [ba_list, ba_list]; exact hsame
    clear h h' hfl hfk hf1 hf2 hll hlk hnl hnk hl1 hk1 hck hck2 hrt hsm hrs hbl hbl2 hbk hr hsb hpa hr6 hrb hxk
    go_enter Try.func4, Try.ntmps4
    go_wp2_with (first
      | (go_at_call 7; (with_reducible refine (fixed_any _).mono ?_); rintro e wa ⟨rfl, hba⟩; have HXa : Hid (Below w.heap.size w wa) := Lib.hid (below_step HX0.out hba); have K1a := Lib.hid (K10.out.through hba); have K2a := Lib.hid (K20.out.through hba); clear hba)
      | (refine wpList_load_blk rfl 25 (.tmp 2) rfl (w.heap.size) rfl 25 [.int .i64 l.sq, .int .i64 l.tt, .slice A n c, .slice B m d] _ K1a.out Try.underlying25 rfl (by kernel_rfl) ?_)
      | (go_at_call 8; (with_reducible refine (HF1.out _ HXa.out).mono ?_); rintro e wb ⟨rfl, hbb⟩; have HXb : Hid (Below w.heap.size w wb) := Lib.hid (below_step HXa.out hbb); have K1b := Lib.hid (K1a.out.through hbb); have K2b := Lib.hid (K2a.out.through hbb); clear hbb)
      | (refine wpList_load_blk_g 25 (.tmp 3) rfl (by kernel_rfl) (w.heap.size + 1) rfl 25 [.int .i64 k.sq, .int .i64 k.tt, .slice A' n' c', .slice B' m' d'] _ K2b.out Try.underlying25 rfl (by kernel_rfl) ?_)
      | (go_at_call 8; (with_reducible refine (HF2.out _ HXb.out).mono ?_); rintro e wc ⟨rfl, hbc⟩; have HXc : Hid (Below w.heap.size w wc) := Lib.hid (below_step HXb.out hbc); have K1c := Lib.hid (K1b.out.through hbc); have K2c := Lib.hid (K2b.out.through hbc); clear hbc)
      | (refine wpList_load_blk rfl 25 (.tmp 2) rfl (w.heap.size) rfl 25 [.int .i64 l.sq, .int .i64 l.tt, .slice A n c, .slice B m d] _ K1c.out Try.underlying25 rfl (by kernel_rfl) ?_)
      | (go_at_call 20; (with_reducible refine (HBl.out _ HXc.out).mono ?_); rintro e wd ⟨Ad, nd, cd, rfl, hyd, _, _, hbd⟩; have HXd : Hid (Below w.heap.size w wd) := Lib.hid (below_step HXc.out hbd); have K1d := Lib.hid (K1c.out.through hbd); have K2d := Lib.hid (K2c.out.through hbd); have HYd := Lib.hid hyd; clear hbd hyd))
    refine wp_region_held_drew (S := fun W => Below wd.heap.size wd W) (by kernel_rfl) (Below.refl _ _).drew (fun hHeld => ?_)
    change wpAnyH _ _ _ _ _ _ #[false, false, false, false, false, false, false, false, false, false, false, false, false, false, false] _ _
    refine wpAnyH_take (i := 0) (v := (.agg #[.int .i64 l.sq, .int .i64 l.tt, .slice A n c, .slice B m d])) rfl (by kernel_rfl) (by kernel_rfl) (by kernel_rfl) (fun _ _ _ h => h) (yields_load_at (by kernel_rfl) 25 (.tmp 2) rfl (.pointer (some ⟨w.heap.size, 0, none⟩)) rfl (.agg #[.int .i64 l.sq, .int .i64 l.tt, .slice A n c, .slice B m d]) (fun W hW => (K1d.out.through hW).loadAt 25 _ Try.underlying25 rfl (by kernel_rfl))) (by assumption) ?_
    change wpAnyH _ _ _ _ _ _ _ (Act.put _ (some (21 : Nat)) (.agg #[.int .i64 l.sq, .int .i64 l.tt, .slice A n c, .slice B m d])) _
    simp only [Act.put, List.setIfInBounds_toArray, List.set_cons_zero, List.set_cons_succ]
    refine wpAnyH_take (i := 3) (v := (.agg #[.int .i64 l.sq, .int .i64 l.tt, .slice A n c, .slice B m d])) rfl (by kernel_rfl) (by kernel_rfl) (by kernel_rfl) (fun _ _ _ h => h) (yields_load_at (by kernel_rfl) 25 (.tmp 2) rfl (.pointer (some ⟨w.heap.size, 0, none⟩)) rfl (.agg #[.int .i64 l.sq, .int .i64 l.tt, .slice A n c, .slice B m d]) (fun W hW => (K1d.out.through hW).loadAt 25 _ Try.underlying25 rfl (by kernel_rfl))) (by assumption) ?_
    change wpAnyH _ _ _ _ _ _ _ (Act.put _ (some (24 : Nat)) (.agg #[.int .i64 l.sq, .int .i64 l.tt, .slice A n c, .slice B m d])) _
    simp only [Act.put, List.setIfInBounds_toArray, List.set_cons_zero, List.set_cons_succ]
    refine wpAnyH_ready (rs := [1]) (by kernel_rfl) (by simp) ?_
    refine AllReadyH.cons rfl (fun K hK => ?_) AllReadyH.nil
    go_simp
    refine ((HCk.out _ (below_step HXd.out hHeld))).mono ?_
    rintro e wp ⟨rfl, hbp⟩; have HKp := Lib.hid hbp; clear hbp
    go_wp2_with fail
    refine hK.out _ _ (below_step hHeld HKp.out) (fun hHeld1 => ?_)
    clear hHeld hK K
    have hHeld := hHeld1
    clear hHeld1
    refine wpAnyH_take (i := 2) (v := (.bool true)) rfl (by kernel_rfl) (by kernel_rfl) (by kernel_rfl) (fun _ _ _ h => h) (Or.inl ⟨by kernel_rfl, fun w hSw => ?_⟩) (by assumption) ?_
    · (try dsimp only at hSw); go_simp <;> (try rfl)
    change wpAnyH _ _ _ _ _ _ _ (Act.put _ (some (23 : Nat)) (.bool true)) _
    simp only [Act.put, List.setIfInBounds_toArray, List.set_cons_zero, List.set_cons_succ]
    refine wpAnyH_ready (rs := [4]) (by kernel_rfl) (by simp) ?_
    refine AllReadyH.cons rfl (fun K hK => ?_) AllReadyH.nil
    go_simp
    refine ((HRt.out _ (below_step HXd.out hHeld))).mono ?_
    rintro e wq ⟨rfl, hbq⟩; have HKq := Lib.hid hbq; clear hbq
    go_wp2_with fail
    refine hK.out _ _ (below_step hHeld HKq.out) (fun hHeld1 => ?_)
    clear hHeld hK K
    have hHeld := hHeld1
    clear hHeld1
    refine wpAnyH_take (i := 5) (v := (.bool false)) rfl (by kernel_rfl) (by kernel_rfl) (by kernel_rfl) (fun _ _ _ h => h) (Or.inl ⟨by kernel_rfl, fun w hSw => ?_⟩) (by assumption) ?_
    · (try dsimp only at hSw); go_simp <;> (try rfl)
    change wpAnyH _ _ _ _ _ _ _ (Act.put _ (some (26 : Nat)) (.bool false)) _
    simp only [Act.put, List.setIfInBounds_toArray, List.set_cons_zero, List.set_cons_succ]
    refine wpAnyH_take (i := 6) (v := (.bool false)) rfl (by kernel_rfl) (by kernel_rfl) (by kernel_rfl) (fun _ _ _ h => h) (Or.inl ⟨by kernel_rfl, fun w hSw => ?_⟩) (by assumption) ?_
    · (try dsimp only at hSw); go_simp <;> (try rfl)
    change wpAnyH _ _ _ _ _ _ _ (Act.put _ (some (27 : Nat)) (.bool false)) _
    simp only [Act.put, List.setIfInBounds_toArray, List.set_cons_zero, List.set_cons_succ]
    refine wpAnyH_take (i := 7) (v := (.agg #[.int .i64 l.sq, .int .i64 l.tt, .slice A n c, .slice B m d])) rfl (by kernel_rfl) (by kernel_rfl) (by kernel_rfl) (fun _ _ _ h => h) (yields_load_at (by kernel_rfl) 25 (.tmp 2) rfl (.pointer (some ⟨w.heap.size, 0, none⟩)) rfl (.agg #[.int .i64 l.sq, .int .i64 l.tt, .slice A n c, .slice B m d]) (fun W hW => (K1d.out.through hW).loadAt 25 _ Try.underlying25 rfl (by kernel_rfl))) (by assumption) ?_
    change wpAnyH _ _ _ _ _ _ _ (Act.put _ (some (28 : Nat)) (.agg #[.int .i64 l.sq, .int .i64 l.tt, .slice A n c, .slice B m d])) _
    simp only [Act.put, List.setIfInBounds_toArray, List.set_cons_zero, List.set_cons_succ]
    refine wpAnyH_take (i := 8) (v := (.agg #[.int .i64 k.sq, .int .i64 k.tt, .slice A' n' c', .slice B' m' d'])) rfl (by kernel_rfl) (by kernel_rfl) (by kernel_rfl) (fun _ _ _ h => h) (yields_load_at (by kernel_rfl) 25 (.tmp 3) rfl (.pointer (some ⟨w.heap.size + 1, 0, none⟩)) rfl (.agg #[.int .i64 k.sq, .int .i64 k.tt, .slice A' n' c', .slice B' m' d']) (fun W hW => (K2d.out.through hW).loadAt 25 _ Try.underlying25 rfl (by kernel_rfl))) (by assumption) ?_
    change wpAnyH _ _ _ _ _ _ _ (Act.put _ (some (29 : Nat)) (.agg #[.int .i64 k.sq, .int .i64 k.tt, .slice A' n' c', .slice B' m' d'])) _
    simp only [Act.put, List.setIfInBounds_toArray, List.set_cons_zero, List.set_cons_succ]
    refine wpAnyH_take (i := 10) (v := (.agg #[.int .i64 l.sq, .int .i64 l.tt, .slice A n c, .slice B m d])) rfl (by kernel_rfl) (by kernel_rfl) (by kernel_rfl) (fun _ _ _ h => h) (yields_load_at (by kernel_rfl) 25 (.tmp 2) rfl (.pointer (some ⟨w.heap.size, 0, none⟩)) rfl (.agg #[.int .i64 l.sq, .int .i64 l.tt, .slice A n c, .slice B m d]) (fun W hW => (K1d.out.through hW).loadAt 25 _ Try.underlying25 rfl (by kernel_rfl))) (by assumption) ?_
    change wpAnyH _ _ _ _ _ _ _ (Act.put _ (some (31 : Nat)) (.agg #[.int .i64 l.sq, .int .i64 l.tt, .slice A n c, .slice B m d])) _
    simp only [Act.put, List.setIfInBounds_toArray, List.set_cons_zero, List.set_cons_succ]
    refine wpAnyH_take (i := 11) (v := (.agg #[.int .i64 k.sq, .int .i64 k.tt, .slice A' n' c', .slice B' m' d'])) rfl (by kernel_rfl) (by kernel_rfl) (by kernel_rfl) (fun _ _ _ h => h) (yields_load_at (by kernel_rfl) 25 (.tmp 3) rfl (.pointer (some ⟨w.heap.size + 1, 0, none⟩)) rfl (.agg #[.int .i64 k.sq, .int .i64 k.tt, .slice A' n' c', .slice B' m' d']) (fun W hW => (K2d.out.through hW).loadAt 25 _ Try.underlying25 rfl (by kernel_rfl))) (by assumption) ?_
    change wpAnyH _ _ _ _ _ _ _ (Act.put _ (some (32 : Nat)) (.agg #[.int .i64 k.sq, .int .i64 k.tt, .slice A' n' c', .slice B' m' d'])) _
    simp only [Act.put, List.setIfInBounds_toArray, List.set_cons_zero, List.set_cons_succ]
    refine wpAnyH_ready (rs := [9]) (by kernel_rfl) (by simp) ?_
    refine AllReadyH.cons rfl (fun K hK => ?_) AllReadyH.nil
    go_simp
    refine ((HSm.out _ (below_step HXd.out hHeld))).mono ?_
    rintro e wr ⟨rfl, hbr⟩; have HKr := Lib.hid hbr; clear hbr
    go_wp2_with fail
    refine hK.out _ _ (below_step hHeld HKr.out) (fun hHeld1 => ?_)
    clear hHeld hK K
    have hHeld := hHeld1
    clear hHeld1
    refine wpAnyH_ready (rs := [12]) (by kernel_rfl) (by simp) ?_
    refine AllReadyH.cons rfl (fun K hK => ?_) AllReadyH.nil
    go_simp
    refine ((HRs.out _ (below_step HXd.out hHeld))).mono ?_
    rintro e ws ⟨rfl, hbs⟩; have HKs := Lib.hid hbs; clear hbs
    go_wp2_with fail
    refine hK.out _ _ (below_step hHeld HKs.out) (fun hHeld1 => ?_)
    clear hHeld hK K
    have hHeld := hHeld1
    clear hHeld1
    refine wpAnyH_take (i := 13) (v := (.bool false)) rfl (by kernel_rfl) (by kernel_rfl) (by kernel_rfl) (fun _ _ _ h => h) (Or.inl ⟨by kernel_rfl, fun w hSw => ?_⟩) (by assumption) ?_
    · (try dsimp only at hSw); go_simp <;> (try rfl)
    change wpAnyH _ _ _ _ _ _ _ (Act.put _ (some (34 : Nat)) (.bool false)) _
    simp only [Act.put, List.setIfInBounds_toArray, List.set_cons_zero, List.set_cons_succ]
    refine wpAnyH_take (i := 14) (v := (.bool false)) rfl (by kernel_rfl) (by kernel_rfl) (by kernel_rfl) (fun _ _ _ h => h) (Or.inl ⟨by kernel_rfl, fun w hSw => ?_⟩) (by assumption) ?_
    · (try dsimp only at hSw); go_simp <;> (try rfl)
    change wpAnyH _ _ _ _ _ _ _ (Act.put _ (some (35 : Nat)) (.bool false)) _
    simp only [Act.put, List.setIfInBounds_toArray, List.set_cons_zero, List.set_cons_succ]
    refine wpAnyH_done (by kernel_rfl) ?_ _
    have hbe := Lib.hid hHeld
    clear hHeld
    have HXe : Hid (Below w.heap.size w ws) := Lib.hid (below_step HXd.out hbe.out)
    have K1e := Lib.hid (K1d.out.through hbe.out)
    have K2e := Lib.hid (K2d.out.through hbe.out)
    have HYe := Lib.hid (HYd.out.through hbe.out)
    go_wp2_with (first
  | (refine wpList_load_blk rfl 25 (.tmp 2) rfl (w.heap.size) rfl 25 [.int .i64 l.sq, .int .i64 l.tt, .slice A n c, .slice B m d] _ K1e.out Try.underlying25 rfl (by kernel_rfl) ?_)
  | (go_at_call 22; (with_reducible refine (HRt.out _ HXe.out).mono ?_); rintro e wf ⟨rfl, hbf⟩; have HXf : Hid (Below w.heap.size w wf) := Lib.hid (below_step HXe.out hbf); have K1f := Lib.hid (K1e.out.through hbf); have K2f := Lib.hid (K2e.out.through hbf); have HYf := Lib.hid (HYe.out.through hbf); clear hbf)
  | (go_at_call 24; (with_reducible refine (HPa.out _ _ _ _ HYf.out).mono ?_); rintro e wg ⟨A6, n6, c6, B6, m6, d6, rfl, hi6, _, _, hbg⟩; have HXg : Hid (Below w.heap.size w (wg.alloc (.cells #[.int .i64 l.sq, .int .i64 l.tt, .slice A6 n6 c6, .slice B6 m6 d6] 25))) := Lib.hid ((below_step HXf.out hbg).alloc (below_step HXf.out hbg).size (.cells #[.int .i64 l.sq, .int .i64 l.tt, .slice A6 n6 c6, .slice B6 m6 d6] 25)); have K1g := Lib.hid ((K1f.out.through hbg).alloc (.cells #[.int .i64 l.sq, .int .i64 l.tt, .slice A6 n6 c6, .slice B6 m6 d6] 25)); have K2g := Lib.hid ((K2f.out.through hbg).alloc (.cells #[.int .i64 l.sq, .int .i64 l.tt, .slice A6 n6 c6, .slice B6 m6 d6] 25)); have HYg := Lib.hid ((HYf.out.through hbg).alloc (.cells #[.int .i64 l.sq, .int .i64 l.tt, .slice A6 n6 c6, .slice B6 m6 d6] 25)); have HIg := Lib.hid (hi6.alloc (.cells #[.int .i64 l.sq, .int .i64 l.tt, .slice A6 n6 c6, .slice B6 m6 d6] 25)); have K6g : Hid (Blk (wg.alloc (.cells #[.int .i64 l.sq, .int .i64 l.tt, .slice A6 n6 c6, .slice B6 m6 d6] 25)) wg.heap.size 25 [.int .i64 l.sq, .int .i64 l.tt, .slice A6 n6 c6, .slice B6 m6 d6]) := Lib.hid (Blk.fresh rfl rfl); clear hi6 hbg))
    generalize hwz : wg.alloc (.cells #[.int .i64 l.sq, .int .i64 l.tt, .slice A6 n6 c6, .slice B6 m6 d6] 25) = wz at *
    refine wp_region_held_drew (S := fun W => Below wz.heap.size wz W) (by kernel_rfl) (Below.refl _ _).drew (fun hHeld => ?_)
    change wpAnyH _ _ _ _ _ _ #[false, false, false, false, false, false, false] _ _
    refine wpAnyH_take (i := 0) (v := (.agg #[.int .i64 k.sq, .int .i64 k.tt, .slice A' n' c', .slice B' m' d'])) rfl (by kernel_rfl) (by kernel_rfl) (by kernel_rfl) (fun _ _ _ h => h) (yields_load_at (by kernel_rfl) 25 (.tmp 3) rfl (.pointer (some ⟨w.heap.size + 1, 0, none⟩)) rfl (.agg #[.int .i64 k.sq, .int .i64 k.tt, .slice A' n' c', .slice B' m' d']) (fun W hW => (K2g.out.through hW).loadAt 25 _ Try.underlying25 rfl (by kernel_rfl))) (by assumption) ?_
    change wpAnyH _ _ _ _ _ _ _ (Act.put _ (some (47 : Nat)) (.agg #[.int .i64 k.sq, .int .i64 k.tt, .slice A' n' c', .slice B' m' d'])) _
    simp only [Act.put, List.setIfInBounds_toArray, List.set_cons_zero, List.set_cons_succ]
    refine wpAnyH_take (i := 3) (v := (.slice Ad nd cd)) rfl (by kernel_rfl) (by kernel_rfl) (by kernel_rfl) (fun _ _ _ h => h) (Or.inl ⟨by kernel_rfl, fun w hSw => ?_⟩) (by assumption) ?_
    · (try dsimp only at hSw); go_simp <;> (try rfl)
    change wpAnyH _ _ _ _ _ _ _ (Act.put _ (some (50 : Nat)) (.slice Ad nd cd)) _
    simp only [Act.put, List.setIfInBounds_toArray, List.set_cons_zero, List.set_cons_succ]
    refine wpAnyH_take (i := 4) (v := (.string (ba l.bytes))) rfl (by kernel_rfl) (by kernel_rfl) (by kernel_rfl) (fun _ _ _ h => h) (yields_conv (by kernel_rfl) 43 9 (.tmp 50) rfl (.slice Ad nd cd) (by simp [Act.eval]) (.string (ba l.bytes)) (fun W hW => run_string_by W 43 9 5 Try.underlying43 Try.underlying5 Try.underlying9 _ _ _ _ _ (HYg.out.through hW))) (by assumption) ?_
    change wpAnyH _ _ _ _ _ _ _ (Act.put _ (some (51 : Nat)) (.string (ba l.bytes))) _
    simp only [Act.put, List.setIfInBounds_toArray, List.set_cons_zero, List.set_cons_succ]
    refine wpAnyH_ready (rs := [1]) (by kernel_rfl) (by simp) ?_
    refine AllReadyH.cons rfl (fun K hK => ?_) AllReadyH.nil
    go_simp
    refine ((HBk.out _ (below_step HXg.out hHeld))).mono ?_
    rintro e wh ⟨Ah, nh, ch, rfl, hyh, _, _, hbh⟩; have HKh := Lib.hid hbh; have HYh := Lib.hid hyh; clear hbh hyh
    go_wp2_with fail
    refine hK.out _ _ (below_step hHeld HKh.out) (fun hHeld1 => ?_)
    clear hHeld hK K
    have hHeld := hHeld1
    clear hHeld1
    refine wpAnyH_weaken (S' := fun W => (Below wz.heap.size wz W) ∧ By W (fun _ => True) Ah nh xk) (fun W h => h.1) _ _ _ _ ?_
    have hHeld2 := And.intro hHeld HYh.out
    clear hHeld
    have hHeld := hHeld2
    clear hHeld2
    refine wpAnyH_take (i := 2) (v := (.string (ba xk))) rfl (by kernel_rfl) (by kernel_rfl) (by kernel_rfl) (fun _ _ _ h => h) (yields_conv (by kernel_rfl) 43 9 (.tmp 48) rfl (.slice Ah nh ch) (by simp [Act.eval]) (.string (ba xk)) (fun W hW => run_string_by W 43 9 5 Try.underlying43 Try.underlying5 Try.underlying9 _ _ _ _ _ (hW.2))) (by assumption) ?_
    change wpAnyH _ _ _ _ _ _ _ (Act.put _ (some (49 : Nat)) (.string (ba xk))) _
    simp only [Act.put, List.setIfInBounds_toArray, List.set_cons_zero, List.set_cons_succ]
    refine wpAnyH_take (i := 5) (v := (.bool sb)) rfl (by kernel_rfl) (by kernel_rfl) (by kernel_rfl) (fun _ _ _ h => h) (Or.inl ⟨by kernel_rfl, fun w hSw => ?_⟩) (by assumption) ?_
    · (try dsimp only at hSw); go_simp <;> (try rfl)
    change wpAnyH _ _ _ _ _ _ _ (Act.put _ (some (52 : Nat)) (.bool sb)) _
    simp only [Act.put, List.setIfInBounds_toArray, List.set_cons_zero, List.set_cons_succ]
    refine wpAnyH_take (i := 6) (v := (.bool sb)) rfl (by kernel_rfl) (by kernel_rfl) (by kernel_rfl) (fun _ _ _ h => h) (Or.inl ⟨by kernel_rfl, fun w hSw => ?_⟩) (by assumption) ?_
    · (try dsimp only at hSw); go_simp <;> (try rfl)
    change wpAnyH _ _ _ _ _ _ _ (Act.put _ (some (8 : Nat)) (.bool sb)) _
    simp only [Act.put, List.setIfInBounds_toArray, List.set_cons_zero, List.set_cons_succ]
    refine wpAnyH_done (by kernel_rfl) ?_ _
    have hbi := Lib.hid hHeld.1
    clear hHeld
    have HXi : Hid (Below w.heap.size w wh) := Lib.hid (below_step HXg.out hbi.out)
    have K1i := Lib.hid (K1g.out.through hbi.out)
    have K2i := Lib.hid (K2g.out.through hbi.out)
    have K6i := Lib.hid (K6g.out.through hbi.out)
    have HYi := Lib.hid (HYg.out.through hbi.out)
    have HIi := Lib.hid (HIg.out.through hbi.out)
    go_wp2
    try dsimp only [Act.put]
    refine wp_region_held_drew (S := fun W => Below wh.heap.size wh W) (by kernel_rfl) (Below.refl _ _).drew (fun hHeld => ?_)
    change wpAnyH _ _ _ _ _ _ #[false, false, false, false, false, false, false, false, false, false, false, false, false, false, false, false, false, false, false, false, false, false, false] _ _
    refine wpAnyH_take (i := 0) (v := (.slice Ad nd cd)) rfl (by kernel_rfl) (by kernel_rfl) (by kernel_rfl) (fun _ _ _ h => h) (Or.inl ⟨by kernel_rfl, fun w hSw => ?_⟩) (by assumption) ?_
    · (try dsimp only at hSw); go_simp <;> (try rfl)
    change wpAnyH _ _ _ _ _ _ _ (Act.put _ (some (53 : Nat)) (.slice Ad nd cd)) _
    simp only [Act.put, List.setIfInBounds_toArray, List.set_cons_zero, List.set_cons_succ]
    refine wpAnyH_take (i := 1) (v := (.string (ba l.bytes))) rfl (by kernel_rfl) (by kernel_rfl) (by kernel_rfl) (fun _ _ _ h => h) (yields_conv (by kernel_rfl) 43 9 (.tmp 53) rfl (.slice Ad nd cd) (by simp [Act.eval]) (.string (ba l.bytes)) (fun W hW => run_string_by W 43 9 5 Try.underlying43 Try.underlying5 Try.underlying9 _ _ _ _ _ (HYi.out.through hW))) (by assumption) ?_
    change wpAnyH _ _ _ _ _ _ _ (Act.put _ (some (54 : Nat)) (.string (ba l.bytes))) _
    simp only [Act.put, List.setIfInBounds_toArray, List.set_cons_zero, List.set_cons_succ]
    refine wpAnyH_take (i := 2) (v := (.agg #[.int .i64 l.sq, .int .i64 l.tt, .slice A n c, .slice B m d])) rfl (by kernel_rfl) (by kernel_rfl) (by kernel_rfl) (fun _ _ _ h => h) (yields_load_at (by kernel_rfl) 25 (.tmp 2) rfl (.pointer (some ⟨w.heap.size, 0, none⟩)) rfl (.agg #[.int .i64 l.sq, .int .i64 l.tt, .slice A n c, .slice B m d]) (fun W hW => (K1i.out.through hW).loadAt 25 _ Try.underlying25 rfl (by kernel_rfl))) (by assumption) ?_
    change wpAnyH _ _ _ _ _ _ _ (Act.put _ (some (55 : Nat)) (.agg #[.int .i64 l.sq, .int .i64 l.tt, .slice A n c, .slice B m d])) _
    simp only [Act.put, List.setIfInBounds_toArray, List.set_cons_zero, List.set_cons_succ]
    refine wpAnyH_ready (rs := [3]) (by kernel_rfl) (by simp) ?_
    refine AllReadyH.cons rfl (fun K hK => ?_) AllReadyH.nil
    go_simp
    refine ((HRb.out _ (below_step HXi.out hHeld))).mono ?_
    rintro e wj ⟨Aj, nj, cj, rfl, hyj, _, _, hbj⟩; have HKj := Lib.hid hbj; have HYj := Lib.hid hyj; clear hbj hyj
    go_wp2_with fail
    refine hK.out _ _ (below_step hHeld HKj.out) (fun hHeld1 => ?_)
    clear hHeld hK K
    have hHeld := hHeld1
    clear hHeld1
    refine wpAnyH_weaken (S' := fun W => (Below wh.heap.size wh W) ∧ By W (fun _ => True) Aj nj l.bytes) (fun W h => h.1) _ _ _ _ ?_
    have hHeld2 := And.intro hHeld HYj.out
    clear hHeld
    have hHeld := hHeld2
    clear hHeld2
    refine wpAnyH_take (i := 4) (v := (.string (ba l.bytes))) rfl (by kernel_rfl) (by kernel_rfl) (by kernel_rfl) (fun _ _ _ h => h) (yields_conv (by kernel_rfl) 43 9 (.tmp 56) rfl (.slice Aj nj cj) (by simp [Act.eval]) (.string (ba l.bytes)) (fun W hW => run_string_by W 43 9 5 Try.underlying43 Try.underlying5 Try.underlying9 _ _ _ _ _ (hW.2))) (by assumption) ?_
    change wpAnyH _ _ _ _ _ _ _ (Act.put _ (some (57 : Nat)) (.string (ba l.bytes))) _
    simp only [Act.put, List.setIfInBounds_toArray, List.set_cons_zero, List.set_cons_succ]
    refine wpAnyH_take (i := 5) (v := (.bool true)) rfl (by kernel_rfl) (by kernel_rfl) (by kernel_rfl) (fun _ _ _ h => h) (Or.inl ⟨by kernel_rfl, fun w hSw => ?_⟩) (by assumption) ?_
    · (try dsimp only at hSw); go_simp <;> (try rfl)
    change wpAnyH _ _ _ _ _ _ _ (Act.put _ (some (58 : Nat)) (.bool true)) _
    simp only [Act.put, List.setIfInBounds_toArray, List.set_cons_zero, List.set_cons_succ]
    refine wpAnyH_take (i := 6) (v := (.bool true)) rfl (by kernel_rfl) (by kernel_rfl) (by kernel_rfl) (fun _ _ _ h => h) (Or.inl ⟨by kernel_rfl, fun w hSw => ?_⟩) (by assumption) ?_
    · (try dsimp only at hSw); go_simp <;> (try rfl)
    change wpAnyH _ _ _ _ _ _ _ (Act.put _ (some (59 : Nat)) (.bool true)) _
    simp only [Act.put, List.setIfInBounds_toArray, List.set_cons_zero, List.set_cons_succ]
    refine wpAnyH_take (i := 7) (v := (.int .i64 0)) rfl (by kernel_rfl) (by kernel_rfl) (by kernel_rfl) (fun _ _ _ h => h) (Or.inl ⟨by kernel_rfl, fun w hSw => ?_⟩) (by assumption) ?_
    · (try dsimp only at hSw); go_simp <;> (try rfl)
    change wpAnyH _ _ _ _ _ _ _ (Act.put _ (some (60 : Nat)) (.int .i64 0)) _
    simp only [Act.put, List.setIfInBounds_toArray, List.set_cons_zero, List.set_cons_succ]
    refine wpAnyH_take (i := 8) (v := (.bool true)) rfl (by kernel_rfl) (by kernel_rfl) (by kernel_rfl) (fun _ _ _ h => h) (Or.inl ⟨by kernel_rfl, fun w hSw => ?_⟩) (by assumption) ?_
    · (try dsimp only at hSw); go_simp <;> (try rfl)
    change wpAnyH _ _ _ _ _ _ _ (Act.put _ (some (61 : Nat)) (.bool true)) _
    simp only [Act.put, List.setIfInBounds_toArray, List.set_cons_zero, List.set_cons_succ]
    refine wpAnyH_take (i := 9) (v := (.bool true)) rfl (by kernel_rfl) (by kernel_rfl) (by kernel_rfl) (fun _ _ _ h => h) (Or.inl ⟨by kernel_rfl, fun w hSw => ?_⟩) (by assumption) ?_
    · (try dsimp only at hSw); go_simp <;> (try rfl)
    change wpAnyH _ _ _ _ _ _ _ (Act.put _ (some (62 : Nat)) (.bool true)) _
    simp only [Act.put, List.setIfInBounds_toArray, List.set_cons_zero, List.set_cons_succ]
    refine wpAnyH_take (i := 10) (v := (.bool true)) rfl (by kernel_rfl) (by kernel_rfl) (by kernel_rfl) (fun _ _ _ h => h) (Or.inl ⟨by kernel_rfl, fun w hSw => ?_⟩) (by assumption) ?_
    · (try dsimp only at hSw); go_simp <;> (try rfl)
    change wpAnyH _ _ _ _ _ _ _ (Act.put _ (some (63 : Nat)) (.bool true)) _
    simp only [Act.put, List.setIfInBounds_toArray, List.set_cons_zero, List.set_cons_succ]
    refine wpAnyH_take (i := 11) (v := (.agg #[.int .i64 l.sq, .int .i64 l.tt, .slice A6 n6 c6, .slice B6 m6 d6])) rfl (by kernel_rfl) (by kernel_rfl) (by kernel_rfl) (fun _ _ _ h => h) (yields_load_at (by kernel_rfl) 25 (.tmp 6) rfl (.pointer (some ⟨wg.heap.size, 0, none⟩)) rfl (.agg #[.int .i64 l.sq, .int .i64 l.tt, .slice A6 n6 c6, .slice B6 m6 d6]) (fun W hW => (K6i.out.through hW.1).loadAt 25 _ Try.underlying25 rfl (by kernel_rfl))) (by assumption) ?_
    change wpAnyH _ _ _ _ _ _ _ (Act.put _ (some (64 : Nat)) (.agg #[.int .i64 l.sq, .int .i64 l.tt, .slice A6 n6 c6, .slice B6 m6 d6])) _
    simp only [Act.put, List.setIfInBounds_toArray, List.set_cons_zero, List.set_cons_succ]
    refine wpAnyH_take (i := 12) (v := (.agg #[.int .i64 l.sq, .int .i64 l.tt, .slice A n c, .slice B m d])) rfl (by kernel_rfl) (by kernel_rfl) (by kernel_rfl) (fun _ _ _ h => h) (yields_load_at (by kernel_rfl) 25 (.tmp 2) rfl (.pointer (some ⟨w.heap.size, 0, none⟩)) rfl (.agg #[.int .i64 l.sq, .int .i64 l.tt, .slice A n c, .slice B m d]) (fun W hW => (K1i.out.through hW.1).loadAt 25 _ Try.underlying25 rfl (by kernel_rfl))) (by assumption) ?_
    change wpAnyH _ _ _ _ _ _ _ (Act.put _ (some (65 : Nat)) (.agg #[.int .i64 l.sq, .int .i64 l.tt, .slice A n c, .slice B m d])) _
    simp only [Act.put, List.setIfInBounds_toArray, List.set_cons_zero, List.set_cons_succ]
    refine wpAnyH_ready (rs := [13]) (by kernel_rfl) (by simp) ?_
    refine AllReadyH.cons rfl (fun K hK => ?_) AllReadyH.nil
    go_simp
    refine ((HR6.out _ _ _ _ _ _ _ (below_step HXi.out hHeld.1) (HIi.out.through hHeld.1))).mono ?_
    rintro e wu ⟨rfl, hbu⟩; have HKu := Lib.hid hbu; clear hbu
    go_wp2_with fail
    refine hK.out _ _ ⟨below_step hHeld.1 HKu.out, hHeld.2.through HKu.out⟩ (fun hHeld1 => ?_)
    clear hHeld hK K
    have hHeld := hHeld1
    clear hHeld1
    refine wpAnyH_take (i := 14) (v := (.bool true)) rfl (by kernel_rfl) (by kernel_rfl) (by kernel_rfl) (fun _ _ _ h => h) (Or.inl ⟨by kernel_rfl, fun w hSw => ?_⟩) (by assumption) ?_
    · (try dsimp only at hSw); go_simp <;> (try rfl)
    change wpAnyH _ _ _ _ _ _ _ (Act.put _ (some (67 : Nat)) (.bool true)) _
    simp only [Act.put, List.setIfInBounds_toArray, List.set_cons_zero, List.set_cons_succ]
    refine wpAnyH_take (i := 15) (v := (.bool true)) rfl (by kernel_rfl) (by kernel_rfl) (by kernel_rfl) (fun _ _ _ h => h) (Or.inl ⟨by kernel_rfl, fun w hSw => ?_⟩) (by assumption) ?_
    · (try dsimp only at hSw); go_simp <;> (try rfl)
    change wpAnyH _ _ _ _ _ _ _ (Act.put _ (some (68 : Nat)) (.bool true)) _
    simp only [Act.put, List.setIfInBounds_toArray, List.set_cons_zero, List.set_cons_succ]
    refine wpAnyH_take (i := 16) (v := (.bool sb)) rfl (by kernel_rfl) (by kernel_rfl) (by kernel_rfl) (fun _ _ _ h => h) (Or.inl ⟨by kernel_rfl, fun w hSw => ?_⟩) (by assumption) ?_
    · (try dsimp only at hSw); go_simp <;> (try rfl)
    change wpAnyH _ _ _ _ _ _ _ (Act.put _ (some (69 : Nat)) (.bool sb)) _
    simp only [Act.put, List.setIfInBounds_toArray, List.set_cons_zero, List.set_cons_succ]
    refine wpAnyH_take (i := 17) (v := (.agg #[.int .i64 l.sq, .int .i64 l.tt, .slice A n c, .slice B m d])) rfl (by kernel_rfl) (by kernel_rfl) (by kernel_rfl) (fun _ _ _ h => h) (yields_load_at (by kernel_rfl) 25 (.tmp 2) rfl (.pointer (some ⟨w.heap.size, 0, none⟩)) rfl (.agg #[.int .i64 l.sq, .int .i64 l.tt, .slice A n c, .slice B m d]) (fun W hW => (K1i.out.through hW.1).loadAt 25 _ Try.underlying25 rfl (by kernel_rfl))) (by assumption) ?_
    change wpAnyH _ _ _ _ _ _ _ (Act.put _ (some (70 : Nat)) (.agg #[.int .i64 l.sq, .int .i64 l.tt, .slice A n c, .slice B m d])) _
    simp only [Act.put, List.setIfInBounds_toArray, List.set_cons_zero, List.set_cons_succ]
    refine wpAnyH_take (i := 18) (v := (.agg #[.int .i64 k.sq, .int .i64 k.tt, .slice A' n' c', .slice B' m' d'])) rfl (by kernel_rfl) (by kernel_rfl) (by kernel_rfl) (fun _ _ _ h => h) (yields_load_at (by kernel_rfl) 25 (.tmp 3) rfl (.pointer (some ⟨w.heap.size + 1, 0, none⟩)) rfl (.agg #[.int .i64 k.sq, .int .i64 k.tt, .slice A' n' c', .slice B' m' d']) (fun W hW => (K2i.out.through hW.1).loadAt 25 _ Try.underlying25 rfl (by kernel_rfl))) (by assumption) ?_
    change wpAnyH _ _ _ _ _ _ _ (Act.put _ (some (71 : Nat)) (.agg #[.int .i64 k.sq, .int .i64 k.tt, .slice A' n' c', .slice B' m' d'])) _
    simp only [Act.put, List.setIfInBounds_toArray, List.set_cons_zero, List.set_cons_succ]
    refine wpAnyH_ready (rs := [19]) (by kernel_rfl) (by simp) ?_
    refine AllReadyH.cons rfl (fun K hK => ?_) AllReadyH.nil
    go_simp
    refine ((HRs.out _ (below_step HXi.out hHeld.1))).mono ?_
    rintro e wv ⟨rfl, hbv⟩; have HKv := Lib.hid hbv; clear hbv
    go_wp2_with fail
    refine hK.out _ _ ⟨below_step hHeld.1 HKv.out, hHeld.2.through HKv.out⟩ (fun hHeld1 => ?_)
    clear hHeld hK K
    have hHeld := hHeld1
    clear hHeld1
    refine wpAnyH_take (i := 20) (v := (.bool true)) rfl (by kernel_rfl) (by kernel_rfl) (by kernel_rfl) (fun _ _ _ h => h) (Or.inl ⟨by kernel_rfl, fun w hSw => ?_⟩) (by assumption) ?_
    · (try dsimp only at hSw); go_simp <;> (try rfl)
    change wpAnyH _ _ _ _ _ _ _ (Act.put _ (some (73 : Nat)) (.bool true)) _
    simp only [Act.put, List.setIfInBounds_toArray, List.set_cons_zero, List.set_cons_succ]
    refine wpAnyH_take (i := 21) (v := (.bool true)) rfl (by kernel_rfl) (by kernel_rfl) (by kernel_rfl) (fun _ _ _ h => h) (Or.inl ⟨by kernel_rfl, fun w hSw => ?_⟩) (by assumption) ?_
    · (try dsimp only at hSw); go_simp <;> (try rfl)
    change wpAnyH _ _ _ _ _ _ _ (Act.put _ (some (74 : Nat)) (.bool true)) _
    simp only [Act.put, List.setIfInBounds_toArray, List.set_cons_zero, List.set_cons_succ]
    refine wpAnyH_take (i := 22) (v := (.bool true)) rfl (by kernel_rfl) (by kernel_rfl) (by kernel_rfl) (fun _ _ _ h => h) (Or.inl ⟨by kernel_rfl, fun w hSw => ?_⟩) (by assumption) ?_
    · (try dsimp only at hSw); go_simp <;> (try rfl)
    change wpAnyH _ _ _ _ _ _ _ (Act.put _ (some (4 : Nat)) (.bool true)) _
    simp only [Act.put, List.setIfInBounds_toArray, List.set_cons_zero, List.set_cons_succ]
    refine wpAnyH_done (by kernel_rfl) ?_ _
    have HXe2 := Lib.hid (below_step HXi.out hHeld.1)
    clear hHeld
    go_wp2
    go_ret
    exact ⟨rfl, HXe2.out⟩

end Go.Proofs.Ytkbeodlihmmdbaa
