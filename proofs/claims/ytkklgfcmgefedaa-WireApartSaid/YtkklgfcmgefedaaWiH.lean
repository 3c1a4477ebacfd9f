/-
  The program's readTags and Parse of a message, walked.
-/
import Derived.Test.YtkklgfcmgefedaaWiR
import Derived.Test.YtkklgfcmgefedaaWiF
namespace Go.Proofs.Ytkklgfcmgefedaa
open Go.RowKit

theorem rnext_stL (m : Nat) (st : Option (List UInt8)) : stL (rnext m st) ≤ stL st := by
  unfold rnext
  split
  · exact Nat.le_trans (nnext_stL _ _) (nnext_stL _ _)
  · exact Nat.zero_le _
theorem nnext_more {k : Nat} {st : Option (List UInt8)} (h : stL st < k) : nnext k st = none ∧ tval k st = [] := by
  cases st with
  | none => exact ⟨rfl, rfl⟩
  | some r =>
    have h' : ¬ k ≤ r.length := by simpa [stL] using h
    rw [nnext_some, tval_some, if_neg h', if_neg h']
    exact ⟨rfl, rfl⟩
theorem row_free {m m' : Nat} {st : Option (List UInt8)} (h : stL st ≤ m) (h' : stL st ≤ m') : rval m st = rval m' st ∧ rnext m st = rnext m' st := by
  have key : ∀ k : Nat, stL st ≤ k → rval k st = tval (nval 4 st) (nnext 4 st) ∧ rnext k st = nnext (nval 4 st) (nnext 4 st) := by
    intro k hk
    unfold rval rnext
    by_cases hl : nval 4 st ≤ k
    · rw [if_pos hl, if_pos hl]; exact ⟨rfl, rfl⟩
    · rw [if_neg hl, if_neg hl]
      obtain ⟨h1, h2⟩ := nnext_more (k := nval 4 st) (st := nnext 4 st) (Nat.lt_of_le_of_lt (nnext_stL _ _) (by omega))
      exact ⟨h2.symm, h1.symm⟩
  exact ⟨(key m h).1.trans (key m' h').1.symm, (key m h).2.trans (key m' h').2.symm⟩
theorem rdAll_length {α : Type} (rd : Option (List UInt8) → α × Option (List UInt8)) : ∀ (n : Nat) (st : Option (List UInt8)), (rdAll rd n st).1.length = n
  | 0, _ => rfl
  | n + 1, st => by simp [rdAll, rdAll_length rd n]
theorem rdAll_none {α : Type} {rd : Option (List UInt8) → α × Option (List UInt8)} (hn : (rd none).2 = none) : ∀ n : Nat, (rdAll rd n none).2 = none
  | 0 => rfl
  | n + 1 => by simp only [rdAll]; rw [hn]; exact rdAll_none hn n
theorem rd_same {α : Type} {rd : Option (List UInt8) → α × Option (List UInt8)} (hn : (rd none).2 = none) : ∀ (n : Nat) (st : Option (List UInt8)), (rdAll rd n st).2 ≠ none ∨ (rdMany rd n st).2 ≠ none → rdMany rd n st = rdAll rd n st
  | 0, _, _ => rfl
  | n + 1, none, h => by
    rcases h with h | h
    · exact absurd (rdAll_none hn (n + 1)) h
    · rw [rdMany_none] at h; exact absurd rfl h
  | n + 1, some xs, h => by
    rw [rdMany_some] at h ⊢
    simp only [rdAll] at h ⊢
    rw [rd_same hn n _ h]

theorem splice_all {α : Type} {xs ys : List α} (h : xs.length = ys.length) : splice xs 0 ys = ys := by
  unfold splice
  rw [List.take_zero, List.nil_append, List.drop_of_length_le (by omega), List.append_nil]
/-- which message bytes tell, read the program's way -/
theorem parseM_prog {xs : List UInt8} (h : xs.length ≤ 1048576) {kd fr : Nat} {bd : List UInt8} {s1 : Option (List UInt8)} {L : List (List UInt8) × Option (List UInt8)} (hkd : nval 1 (some xs) = kd) (hfr : nval 1 (nnext 1 (some xs)) = fr)
    (hbd : rval xs.length (nnext 1 (nnext 1 (some xs))) = bd) (hs1 : rnext xs.length (nnext 1 (nnext 1 (some xs))) = s1) (hL : rdAll rdTg (cval 7 s1) (cnext 7 s1) = L) :
    parseM xs = if L.2 = some [] ∧ chkM ⟨(kd : Int), (fr : Int), bd, L.1⟩ = 0 then (⟨(kd : Int), (fr : Int), bd, L.1⟩, 0) else (Ms.no, 2) := by
  have l1 : stL (nnext 1 (nnext 1 (some xs))) ≤ xs.length := Nat.le_trans (nnext_stL _ _) (Nat.le_trans (nnext_stL _ _) (Nat.le_refl _))
  obtain ⟨a1, a2⟩ := row_free (m := xs.length) (m' := 1048576) l1 (Nat.le_trans l1 h)
  have e1 : rval 1048576 (nnext 1 (nnext 1 (some xs))) = bd := a1.symm.trans hbd
  have e2 : rnext 1048576 (nnext 1 (nnext 1 (some xs))) = s1 := a2.symm.trans hs1
  unfold parseM rdM
  rw [if_neg (by omega), hkd, hfr, e1, e2]
  by_cases hg : (rdAll rdTg (cval 7 s1) (cnext 7 s1)).2 ≠ none ∨ (rdMany rdTg (cval 7 s1) (cnext 7 s1)).2 ≠ none
  · rw [rd_same rfl _ _ hg, hL]
  · rw [not_or, Decidable.not_not, Decidable.not_not] at hg
    obtain ⟨g1, g2⟩ := hg
    rw [hL] at g1
    rw [g2, g1]
    simp

set_option maxHeartbeats 8000000 in
set_option maxRecDepth 100000 in
theorem readtags_any {Q : Nat → Prop} (g : Nat) (st : Option (List UInt8)) (w : World) (h : Rs Q w g tR st) (hQ : ∀ b, Q b → b < w.heap.size) :
    Calls Try.prog 26 #[.pointer (some ⟨g, 0, none⟩)] w fun e w' => ∃ s : Pl, e = .returned (.slice s.1 s.2.1 s.2.2) ∧ OTs w' w.heap.size s (rdAll rdTg (cval 7 st) (cnext 7 st)).1 ∧ Rs Q w' g tR (rdAll rdTg (cval 7 st) (cnext 7 st)).2 ∧ w.grownBy w' (some g) := by
  have HCo : Hid (Calls Try.prog 39 #[.pointer (some ⟨g, 0, none⟩), .int .i64 7] w fun e w' => e = .returned (.int .i64 (cval 7 st)) ∧ Rs Q w' g tR (cnext 7 st) ∧ w.grownBy w' (some g)) := Lib.hid (count_rs h 7)
  have HLT := Lib.hid h.lt
  have HQ := Lib.hid hQ
  have hle := cval_le_ 7 st
  have HFx : Hid (∀ (W : World) {s : Option (List UInt8)}, Rs Q W g tR s → Calls Try.prog 40 #[.pointer (some ⟨g, 0, none⟩), .int .i64 32] W fun e w' => ∃ B m c, e = .returned (.slice B m c) ∧ By w' (fun _ => True) B m (tval 32 s) ∧ Rs Q w' g tR (nnext 32 s) ∧ W.grownBy w' (some g)) := Lib.hid (fun W s hR => fixed_rs hR 32)
  generalize cval 7 st = k at *
  generalize cnext 7 st = s0 at *
  obtain ⟨L, hL⟩ : ∃ L, rdAll rdTg k s0 = L := ⟨_, rfl⟩
  rw [hL]
  have HL := Lib.hid hL
  have HKb : Hid (k ≤ 7) := Lib.hid hle
  clear h hQ hL
  go_enter Try.func26, Try.ntmps26
  go_wp2_with (first
    | (go_at_call 39; (with_reducible refine HCo.out.mono ?_); rintro e w1 ⟨rfl, hr1, hg1⟩; have HR1 := Lib.hid hr1; have HG1 := Lib.hid hg1; clear hr1 hg1))
  go_loopw [3, 7] (fun lv iv wr => ∃ (i : Nat) (pre : List (List UInt8)) (Av : Option Addr) (nv cv : Nat) (s : Option (List UInt8)), i ≤ k ∧ pre.length = i ∧ lv = .slice Av nv cv ∧ iv = .int .i64 i ∧ (pre ++ (rdAll rdTg (k - i) s).1, (rdAll rdTg (k - i) s).2) = L ∧ OTs wr w.heap.size (Av, nv, cv) pre ∧ Rs Q wr g tR s ∧ w.grownBy wr (some g)) (fun _ iv _ => k - (intOf iv).toNat)
  case atStart => exact ⟨0, [], none, 0, 0, s0, Nat.zero_le _, rfl, rfl, rfl, by simpa using HL.out, ⟨Os.nil _ _ _ _, fun t h => by cases h⟩, HR1.out, HG1.out⟩
  case round =>
    obtain ⟨i, pre, Av, nv, cv, s, hi, hpi, rfl, rfl, hL2, ho, hr, hg⟩ := hrel
    have HPi := Lib.hid hpi
    have HL2 := Lib.hid hL2
    have HRi := Lib.hid hr
    have HGi := Lib.hid hg
    have HOi := Lib.hid ho
    clear hpi hL2 hr hg ho
    by_cases hlt : i < k
    · obtain ⟨gs, hgs⟩ : ∃ gs, wr.heap.size = gs := ⟨_, rfl⟩
      have HGZ : Hid (w.heap.size ≤ gs) := Lib.hid (by have := HGi.out.size; omega)
      have HGY : Hid (wr.heap.size ≤ gs) := Lib.hid (Nat.le_of_eq hgs)
      have HNE : Hid (gs ≠ g) := Lib.hid (by have := HLT.out; have := HGZ.out; omega)
      have HBz : Hid (Blk (wr.alloc (.cells #[.int .u8 0, .int .u8 0, .int .u8 0, .int .u8 0, .int .u8 0, .int .u8 0, .int .u8 0, .int .u8 0, .int .u8 0, .int .u8 0, .int .u8 0, .int .u8 0, .int .u8 0, .int .u8 0, .int .u8 0, .int .u8 0, .int .u8 0, .int .u8 0, .int .u8 0, .int .u8 0, .int .u8 0, .int .u8 0, .int .u8 0, .int .u8 0, .int .u8 0, .int .u8 0, .int .u8 0, .int .u8 0, .int .u8 0, .int .u8 0, .int .u8 0, .int .u8 0] 40)) gs 40 (vs (List.replicate 32 0))) := Lib.hid (Blk.fresh hgs.symm rfl)
      have HRz := Lib.hid (HRi.out.alloc (.cells #[.int .u8 0, .int .u8 0, .int .u8 0, .int .u8 0, .int .u8 0, .int .u8 0, .int .u8 0, .int .u8 0, .int .u8 0, .int .u8 0, .int .u8 0, .int .u8 0, .int .u8 0, .int .u8 0, .int .u8 0, .int .u8 0, .int .u8 0, .int .u8 0, .int .u8 0, .int .u8 0, .int .u8 0, .int .u8 0, .int .u8 0, .int .u8 0, .int .u8 0, .int .u8 0, .int .u8 0, .int .u8 0, .int .u8 0, .int .u8 0, .int .u8 0, .int .u8 0] 40))
      have hsl := fun W => Try.sl_tag gs 0 W
      rcases tval_32 s with hT | hT
      · have HT := Lib.hid hT
        clear hT
        go_wp2
        refine wp_region_held_drew (S := fun W => wr.grownBy W (some g)) (by kernel_rfl) (grown_drew (only_below (below1_ wr (.cells #[.int .u8 0, .int .u8 0, .int .u8 0, .int .u8 0, .int .u8 0, .int .u8 0, .int .u8 0, .int .u8 0, .int .u8 0, .int .u8 0, .int .u8 0, .int .u8 0, .int .u8 0, .int .u8 0, .int .u8 0, .int .u8 0, .int .u8 0, .int .u8 0, .int .u8 0, .int .u8 0, .int .u8 0, .int .u8 0, .int .u8 0, .int .u8 0, .int .u8 0, .int .u8 0, .int .u8 0, .int .u8 0, .int .u8 0, .int .u8 0, .int .u8 0, .int .u8 0] 40)))) (fun hHeld => ?_)
        change wpAnyH _ _ _ _ _ _ #[false, false, false, false] _ _
        refine wpAnyH_take (i := 0) (v := (.slice (some ⟨gs, 0, none⟩) 32 32)) rfl (by kernel_rfl) (by kernel_rfl) (by kernel_rfl) (fun _ _ _ h => h) (Or.inl ⟨by kernel_rfl, fun w hSw => ?_⟩) (by assumption) ?_
        · (try dsimp only at hSw); go_simp <;> (try rfl)
        change wpAnyH _ _ _ _ _ _ _ (Act.put _ (some (9 : Nat)) (.slice (some ⟨gs, 0, none⟩) 32 32)) _
        simp only [Act.put, List.setIfInBounds_toArray, List.set_cons_zero, List.set_cons_succ]
        refine wpAnyH_take (i := 1) (v := (.pointer (some ⟨g, 0, none⟩))) rfl (by kernel_rfl) (by kernel_rfl) (by kernel_rfl) (fun _ _ _ h => h) (Or.inl ⟨by kernel_rfl, fun w hSw => ?_⟩) (by assumption) ?_
        · (try dsimp only at hSw); go_simp <;> (try rfl)
        change wpAnyH _ _ _ _ _ _ _ (Act.put _ (some (10 : Nat)) (.pointer (some ⟨g, 0, none⟩))) _
        simp only [Act.put, List.setIfInBounds_toArray, List.set_cons_zero, List.set_cons_succ]
        refine wpAnyH_ready (rs := [2]) (by kernel_rfl) (by simp) ?_
        refine AllReadyH.cons rfl (fun K hK => ?_) AllReadyH.nil
        go_simp
        refine (HFx.out _ HRz.out.drew).mono ?_
        rintro e w5 ⟨B, m, c, rfl, hy, hr5, hg5⟩; have HY5 := Lib.hid hy; have HR5 := Lib.hid hr5; have HG5 := Lib.hid hg5; have HB5 := Lib.hid (HBz.out.drew.grown hg5 (fun e => HNE.out (Option.some.inj e))); clear hy hr5 hg5
        go_wp2_with fail
        refine hK.out _ _ (only_trans hHeld HG5.out) (fun hHeld1 => ?_)
        clear hHeld hK K
        have hHeld := hHeld1
        clear hHeld1
        refine wpAnyH_ready (rs := [3]) (by kernel_rfl) (by simp) ?_
        refine AllReadyH.cons (o := ⟨some 12, .call { callee := .builtin .copy, args := #[.tmp 9, .tmp 11], argTypes := #[22, 22] }, _, _, _, none⟩) rfl (fun K hK => ?_) AllReadyH.nil
        refine step_copy_blk rfl (.tmp 9) (.tmp 11) 22 22 rfl 5 Try.underlying22 (by kernel_rfl) gs 0 32 32 B m c (by simp [Act.eval]) (by simp [Act.eval]) (vs (List.replicate 32 0)) 40 HB5.out (vs (tval 32 s)) 32 (by rw [vs_length]; exact HT.out) (by have := HY5.out.len; have := HT.out; have h9 : m = 32 := (by omega); rw [h9]; rfl) (by decide) (by_src HY5.out HT.out) (by rw [vs_length, List.length_replicate]; omega) vs_one ?_; intro w6 hb6 hg6; rw [splice_all (xs := vs (List.replicate 32 0)) (ys := vs (tval 32 s)) (by rw [vs_length, vs_length, HT.out, List.length_replicate])] at hb6; have HB6 := Lib.hid hb6; have HG6 := Lib.hid hg6; have HR6 := Lib.hid (HR5.out.other hg6 (fun b hb => ⟨fun e => HNE.out (by rw [Option.some.inj hb]; exact e), fun h9 => by have := HQ.out b h9; have := Option.some.inj hb; have := HGZ.out; omega⟩)); clear hb6 hg6
        refine hK.out _ _ (only_new_ hHeld HG6.out HGY.out) (fun hHeld1 => ?_)
        clear hHeld hK K
        have hHeld := hHeld1
        clear hHeld1
        change wpAnyH _ _ _ _ _ _ _ (Act.put _ (some (12 : Nat)) (.int .i64 ((32 : Nat) : Int))) _
        simp only [Act.put, List.setIfInBounds_toArray, List.set_cons_zero, List.set_cons_succ]
        refine wpAnyH_done (by kernel_rfl) ?_ _
        have HTV : Hid ((rdTg s).1 = tval 32 s) := Lib.hid (by unfold rdTg; rw [tagOf_32 HT.out])
        have HGe := Lib.hid hHeld
        clear hHeld
        obtain ⟨tg, htg⟩ : ∃ tg, (rdTg s).1 = tg := ⟨_, rfl⟩
        have HTL : Hid (tg.length = 32) := Lib.hid (by rw [← htg]; exact tagOf_len _)
        have HT6 : Hid (Blk _ gs 40 (vs tg)) := Lib.hid (by rw [← htg, HTV.out]; exact HB6.out)
        have HL3 : Hid ((pre ++ [tg] ++ (rdAll rdTg (k - (i + 1)) (nnext 32 s)).1, (rdAll rdTg (k - (i + 1)) (nnext 32 s)).2) = L) := Lib.hid (by rw [← HL2.out, rdAll_step' rdTg (j := k - (i + 1)) (by omega) s pre, htg]; rfl)
        have HOw := Lib.hid (HOi.out.1.far HGe.out HLT.out)
        clear htg
        go_wp2_with (first
          | (refine wpList_load_mid rfl 40 (.tmp 4) rfl gs 0 rfl (vs tg) _ HT6.out.whole Try.underlying40 rfl (by rw [vs_length, HTL.out]; kernel_rfl) ?_)
          | (refine wpList_build_el rfl Try.el_tg (.tmp 14) rfl (vs tg) rfl (by rw [vs_length, HTL.out]) ?_)
          | (at_builtin; refine wpList_append_el rfl Try.el_tg (.tmp 13) (.tmp 15) rfl w.heap.size (.slice Av nv cv) (pre.map vs) rfl (HOw.out.alloc (.cells (vs tg).toArray 40)) _ (vs tg) rfl (Blk.fresh rfl rfl) (by rw [vs_length, HTL.out]) vs_one (by rw [List.length_map, HPi.out]; have := HKb.out; omega) (by (try simp); have := HGe.out.size; have := HGi.out.size; omega) ?_; intro v4 w9 ho4 hg4; have HW := Lib.hid (fun b hb => (HOw.out.lt b hb).1); obtain ⟨A7, c7, rfl, _, _, _⟩ := ho4.out; have HO9 : Hid (OTs w9 w.heap.size (A7, pre.length + 1, c7) (pre ++ [tg])) := Lib.hid ⟨by (rw [show (pre.map vs ++ [vs tg]).length = pre.length + 1 by simp] at ho4; rw [List.map_append]; exact ho4), fun t ht => (List.mem_append.1 ht).elim (HOi.out.2 t) (fun h => by rw [List.mem_singleton.1 h]; exact HTL.out)⟩; have HR9 := Lib.hid ((HR6.out.alloc (.cells (vs tg).toArray 40)).other hg4 (fun b hb => ⟨fun e => by have := HW.out b hb; have := HLT.out; omega, fun h9 => by have := HW.out b hb; have := HQ.out b h9; omega⟩)); have HG9 : Hid (w.grownBy w9 (some g)) := Lib.hid (only_own_ (only_trans (only_trans HGi.out HGe.out) (only_below (below1_ _ (.cells (vs tg).toArray 40)))) hg4 (fun h e => HW.out h e)); clear ho4 hg4))
        go_roundw
        case rel => exact ⟨i + 1, pre ++ [tg], A7, pre.length + 1, c7, nnext 32 s, by omega, by simp [HPi.out], rfl, by go_num, HL3.out, HO9.out, HR9.out, HG9.out⟩
        case measure => simp [intOf]; omega
      · have HT := Lib.hid hT
        clear hT
        go_wp2
        refine wp_region_held_drew (S := fun W => wr.grownBy W (some g)) (by kernel_rfl) (grown_drew (only_below (below1_ wr (.cells #[.int .u8 0, .int .u8 0, .int .u8 0, .int .u8 0, .int .u8 0, .int .u8 0, .int .u8 0, .int .u8 0, .int .u8 0, .int .u8 0, .int .u8 0, .int .u8 0, .int .u8 0, .int .u8 0, .int .u8 0, .int .u8 0, .int .u8 0, .int .u8 0, .int .u8 0, .int .u8 0, .int .u8 0, .int .u8 0, .int .u8 0, .int .u8 0, .int .u8 0, .int .u8 0, .int .u8 0, .int .u8 0, .int .u8 0, .int .u8 0, .int .u8 0, .int .u8 0] 40)))) (fun hHeld => ?_)
        change wpAnyH _ _ _ _ _ _ #[false, false, false, false] _ _
        refine wpAnyH_take (i := 0) (v := (.slice (some ⟨gs, 0, none⟩) 32 32)) rfl (by kernel_rfl) (by kernel_rfl) (by kernel_rfl) (fun _ _ _ h => h) (Or.inl ⟨by kernel_rfl, fun w hSw => ?_⟩) (by assumption) ?_
        · (try dsimp only at hSw); go_simp <;> (try rfl)
        change wpAnyH _ _ _ _ _ _ _ (Act.put _ (some (9 : Nat)) (.slice (some ⟨gs, 0, none⟩) 32 32)) _
        simp only [Act.put, List.setIfInBounds_toArray, List.set_cons_zero, List.set_cons_succ]
        refine wpAnyH_take (i := 1) (v := (.pointer (some ⟨g, 0, none⟩))) rfl (by kernel_rfl) (by kernel_rfl) (by kernel_rfl) (fun _ _ _ h => h) (Or.inl ⟨by kernel_rfl, fun w hSw => ?_⟩) (by assumption) ?_
        · (try dsimp only at hSw); go_simp <;> (try rfl)
        change wpAnyH _ _ _ _ _ _ _ (Act.put _ (some (10 : Nat)) (.pointer (some ⟨g, 0, none⟩))) _
        simp only [Act.put, List.setIfInBounds_toArray, List.set_cons_zero, List.set_cons_succ]
        refine wpAnyH_ready (rs := [2]) (by kernel_rfl) (by simp) ?_
        refine AllReadyH.cons rfl (fun K hK => ?_) AllReadyH.nil
        go_simp
        refine (HFx.out _ HRz.out.drew).mono ?_
        rintro e w5 ⟨B, m, c, rfl, hy, hr5, hg5⟩; have HY5 := Lib.hid hy; have HR5 := Lib.hid hr5; have HG5 := Lib.hid hg5; have HB5 := Lib.hid (HBz.out.drew.grown hg5 (fun e => HNE.out (Option.some.inj e))); clear hy hr5 hg5
        go_wp2_with fail
        refine hK.out _ _ (only_trans hHeld HG5.out) (fun hHeld1 => ?_)
        clear hHeld hK K
        have hHeld := hHeld1
        clear hHeld1
        refine wpAnyH_ready (rs := [3]) (by kernel_rfl) (by simp) ?_
        refine AllReadyH.cons (o := ⟨some 12, .call { callee := .builtin .copy, args := #[.tmp 9, .tmp 11], argTypes := #[22, 22] }, _, _, _, none⟩) rfl (fun K hK => ?_) AllReadyH.nil
        refine step_copy_none rfl (.tmp 9) (.tmp 11) 22 22 rfl 5 Try.underlying22 (by kernel_rfl) (some ⟨gs, 0, none⟩) 32 32 B m c (by simp [Act.eval]) (by simp [Act.eval]) (by have := HY5.out.len; rw [HT.out] at this; have h9 : m = 0 := (by simpa using this.symm); rw [h9]; rfl) ?_
        refine hK.out _ _ hHeld (fun hHeld1 => ?_)
        clear hHeld hK K
        have hHeld := hHeld1
        clear hHeld1
        change wpAnyH _ _ _ _ _ _ _ (Act.put _ (some (12 : Nat)) (.int .i64 0)) _
        simp only [Act.put, List.setIfInBounds_toArray, List.set_cons_zero, List.set_cons_succ]
        refine wpAnyH_done (by kernel_rfl) ?_ _
        have HTV : Hid ((rdTg s).1 = List.replicate 32 0) := Lib.hid (by unfold rdTg; rw [HT.out, tagOf_nil])
        have HB6 := Lib.hid HB5.out
        have HR6 := Lib.hid HR5.out
        have HGe := Lib.hid hHeld
        clear hHeld
        obtain ⟨tg, htg⟩ : ∃ tg, (rdTg s).1 = tg := ⟨_, rfl⟩
        have HTL : Hid (tg.length = 32) := Lib.hid (by rw [← htg]; exact tagOf_len _)
        have HT6 : Hid (Blk _ gs 40 (vs tg)) := Lib.hid (by rw [← htg, HTV.out]; exact HB6.out)
        have HL3 : Hid ((pre ++ [tg] ++ (rdAll rdTg (k - (i + 1)) (nnext 32 s)).1, (rdAll rdTg (k - (i + 1)) (nnext 32 s)).2) = L) := Lib.hid (by rw [← HL2.out, rdAll_step' rdTg (j := k - (i + 1)) (by omega) s pre, htg]; rfl)
        have HOw := Lib.hid (HOi.out.1.far HGe.out HLT.out)
        clear htg
        go_wp2_with (first
          | (refine wpList_load_mid rfl 40 (.tmp 4) rfl gs 0 rfl (vs tg) _ HT6.out.whole Try.underlying40 rfl (by rw [vs_length, HTL.out]; kernel_rfl) ?_)
          | (refine wpList_build_el rfl Try.el_tg (.tmp 14) rfl (vs tg) rfl (by rw [vs_length, HTL.out]) ?_)
          | (at_builtin; refine wpList_append_el rfl Try.el_tg (.tmp 13) (.tmp 15) rfl w.heap.size (.slice Av nv cv) (pre.map vs) rfl (HOw.out.alloc (.cells (vs tg).toArray 40)) _ (vs tg) rfl (Blk.fresh rfl rfl) (by rw [vs_length, HTL.out]) vs_one (by rw [List.length_map, HPi.out]; have := HKb.out; omega) (by (try simp); have := HGe.out.size; have := HGi.out.size; omega) ?_; intro v4 w9 ho4 hg4; have HW := Lib.hid (fun b hb => (HOw.out.lt b hb).1); obtain ⟨A7, c7, rfl, _, _, _⟩ := ho4.out; have HO9 : Hid (OTs w9 w.heap.size (A7, pre.length + 1, c7) (pre ++ [tg])) := Lib.hid ⟨by (rw [show (pre.map vs ++ [vs tg]).length = pre.length + 1 by simp] at ho4; rw [List.map_append]; exact ho4), fun t ht => (List.mem_append.1 ht).elim (HOi.out.2 t) (fun h => by rw [List.mem_singleton.1 h]; exact HTL.out)⟩; have HR9 := Lib.hid ((HR6.out.alloc (.cells (vs tg).toArray 40)).other hg4 (fun b hb => ⟨fun e => by have := HW.out b hb; have := HLT.out; omega, fun h9 => by have := HW.out b hb; have := HQ.out b h9; omega⟩)); have HG9 : Hid (w.grownBy w9 (some g)) := Lib.hid (only_own_ (only_trans (only_trans HGi.out HGe.out) (only_below (below1_ _ (.cells (vs tg).toArray 40)))) hg4 (fun h e => HW.out h e)); clear ho4 hg4))
        go_roundw
        case rel => exact ⟨i + 1, pre ++ [tg], A7, pre.length + 1, c7, nnext 32 s, by omega, by simp [HPi.out], rfl, by go_num, HL3.out, HO9.out, HR9.out, HG9.out⟩
        case measure => simp [intOf]; omega
    · have hik : i = k := by omega
      subst hik
      have hz : i - i = 0 := Nat.sub_self i
      have HLe : Hid ((pre, s) = L) := Lib.hid (by have h9 := HL2.out; rw [hz] at h9; simpa [rdAll] using h9)
      go_wp2
      go_ret
      exact ⟨(Av, nv, cv), rfl, by rw [← HLe.out]; exact HOi.out, by rw [← HLe.out]; exact HRi.out, HGi.out⟩

theorem Try.build_ms4 (a b : Int) (A : Option Addr) (n c : Nat) (B : Option Addr) (m d : Nat) (w : World) : (Instr.build 25 #[(0, .int .i64 a), (1, .int .i64 b), (2, .slice A n c), (3, .slice B m d)]).run Try.prog w = .ok (.agg #[.int .i64 a, .int .i64 b, .slice A n c, .slice B m d]) w := by kernel_rfl

set_option maxHeartbeats 32000000 in
set_option maxRecDepth 100000 in
theorem parse_any (xs : List UInt8) (A : Option Addr) (n c : Nat) (w : World) (h : By w (fun _ => True) A n xs) :
    Calls Try.prog 14 #[.slice A n c] w (MsOut w (parseM xs).1 (parseM xs).2) := by
  have hz := Try.zero_ms
  have hb0 := Try.build_ms0
  have hbm := Try.build_ms4
  have HZ0 : Hid (Blk (w.alloc (.cells #[.int .i64 0, .int .i64 0, .slice none 0 0, .slice none 0 0] 25)) w.heap.size 25 [.int .i64 0, .int .i64 0, .slice none 0 0, .slice none 0 0]) := Lib.hid (Blk.fresh rfl rfl)
  have HX0 : Hid (Below w.heap.size w (w.alloc (.cells #[.int .i64 0, .int .i64 0, .slice none 0 0, .slice none 0 0] 25))) := Lib.hid (below1_ w _)
  have hlen := h.len
  by_cases hN : 1048576 < n
  · have hP : parseM xs = (Ms.no, 3) := by unfold parseM; rw [if_pos (by omega)]
    rw [hP]
    have d1 : decide ((1048576 : Int) < (n : Int)) = true := by simp; omega
    clear hP hN hlen h
    go_enter Try.func14, Try.ntmps14
    go_wp2_with (first
      | (refine wpList_store_blk rfl 25 (.tmp 2) (.tmp 9) rfl w.heap.size [.int .i64 0, .int .i64 0, .slice none 0 0, .slice none 0 0] rfl rfl 25 [.int .i64 0, .int .i64 0, .slice none 0 0, .slice none 0 0] HZ0.out (by kernel_rfl) rfl (one4m _ _ _ _ _ _ _ _) ?_; intro wy hby hgy; have HGy := Lib.hid hgy; have HBy := Lib.hid hby; have HXy : Hid (Below w.heap.size w wy) := Lib.hid (HX0.out.grown hgy HX0.out.size (fun k hk => by have := Option.some.inj hk; omega)); clear hby hgy))
    (try simp only [Exit.inBlock, Exit.then]); refine bodyPost_ret (results_cell_row_tmp1 rfl _ _ w.heap.size 25 _ (0, 0) _ rfl HBy.out Try.underlying25 rfl (by kernel_rfl)) rfl ?_
    exact ⟨none, 0, 0, none, 0, 0, rfl, MsIn.no_ _, HXy.out⟩
  have d1 : decide ((1048576 : Int) < (n : Int)) = false := by simp; omega
  obtain ⟨kd, hkd⟩ : ∃ kd, nval 1 (some xs) = kd := ⟨_, rfl⟩
  obtain ⟨fr, hfr⟩ : ∃ fr, nval 1 (nnext 1 (some xs)) = fr := ⟨_, rfl⟩
  obtain ⟨bd, hbd⟩ : ∃ bd, rval n (nnext 1 (nnext 1 (some xs))) = bd := ⟨_, rfl⟩
  obtain ⟨s1, hs1⟩ : ∃ s1, rnext n (nnext 1 (nnext 1 (some xs))) = s1 := ⟨_, rfl⟩
  obtain ⟨L, hL⟩ : ∃ L, rdAll rdTg (cval 7 s1) (cnext 7 s1) = L := ⟨_, rfl⟩
  have hP := parseM_prog (xs := xs) (bd := bd) (s1 := s1) (by omega) hkd hfr (by rw [hlen]; exact hbd) (by rw [hlen]; exact hs1) hL
  obtain ⟨P, hPP⟩ : ∃ P, parseM xs = P := ⟨_, rfl⟩
  rw [hPP] at hP ⊢
  have HRd : Hid (∀ W : World, Below w.heap.size w W → Calls Try.prog 23 #[.slice A n c] W fun e w' => ∃ g, e = .returned (.pointer (some ⟨g, 0, none⟩)) ∧ Rs (fun b => W.heap.size ≤ b) w' g tR (some xs) ∧ Below W.heap.size W w' ∧ W.heap.size ≤ g) := Lib.hid (fun W hW => read_rs (h.through hW) (by omega))
  have HNum1 : Hid (∀ (Q : Nat → Prop) (g : Nat) (W : World), Rs Q W g tR (some xs) → Calls Try.prog 24 #[.pointer (some ⟨g, 0, none⟩), .int .i64 1] W fun e w' => e = .returned (.int .u64 (kd : Int)) ∧ Rs Q w' g tR (nnext 1 (some xs)) ∧ W.grownBy w' (some g)) := Lib.hid (fun Q g W hR => hkd ▸ number_rs hR 1 rfl)
  have HNum2 : Hid (∀ (Q : Nat → Prop) (g : Nat) (W : World), Rs Q W g tR (nnext 1 (some xs)) → Calls Try.prog 24 #[.pointer (some ⟨g, 0, none⟩), .int .i64 1] W fun e w' => e = .returned (.int .u64 (fr : Int)) ∧ Rs Q w' g tR (nnext 1 (nnext 1 (some xs))) ∧ W.grownBy w' (some g)) := Lib.hid (fun Q g W hR => hfr ▸ number_rs hR 1 rfl)
  have HRow : Hid (∀ (Q : Nat → Prop) (g : Nat) (W : World), Rs Q W g tR (nnext 1 (nnext 1 (some xs))) → Calls Try.prog 25 #[.pointer (some ⟨g, 0, none⟩), .int .i64 (n : Int)] W fun e w' => ∃ B m c, e = .returned (.slice B m c) ∧ By w' (fun _ => True) B m bd ∧ Rs Q w' g tR s1 ∧ W.grownBy w' (some g)) := Lib.hid (fun Q g W hR => by
    have h9 := row_rs hR n
    rw [hbd, hs1] at h9
    exact h9)
  have HRt : Hid (∀ (Q : Nat → Prop) (g : Nat) (W : World), Rs Q W g tR s1 → (∀ b, Q b → b < W.heap.size) → Calls Try.prog 26 #[.pointer (some ⟨g, 0, none⟩)] W fun e w' => ∃ s : Pl, e = .returned (.slice s.1 s.2.1 s.2.2) ∧ OTs w' W.heap.size s L.1 ∧ Rs Q w' g tR L.2 ∧ W.grownBy w' (some g)) := Lib.hid (fun Q g W hR hQ => hL ▸ readtags_any g s1 W hR hQ)
  obtain ⟨er, hE⟩ : ∃ er, chkM ⟨(kd : Int), (fr : Int), bd, L.1⟩ = er := ⟨_, rfl⟩
  have HCk : Hid (∀ (B : Option Addr) (nb cb : Nat) (A : Option Addr) (nt ct : Nat) (W : World), MsIn W B nb A nt ct ⟨(kd : Int), (fr : Int), bd, L.1⟩ → Calls Try.prog 9 #[.agg #[.int .i64 (kd : Int), .int .i64 (fr : Int), .slice B nb cb, .slice A nt ct]] W fun e w' => e = .returned (.int .i64 er) ∧ Below W.heap.size W w') := Lib.hid (fun B nb cb A nt ct W hM => hE ▸ check_any ⟨(kd : Int), (fr : Int), bd, L.1⟩ B nb cb A nt ct W hM)
  have hcv1 := fun (W : World) => conv_small 37 3 Try.underlying37 Try.underlying3 (nval 1 (some xs)) (by have := nval_lt 1 (some xs); simp only [e1] at this; omega) W
  have hcv2 := fun (W : World) => conv_small 37 3 Try.underlying37 Try.underlying3 (nval 1 (nnext 1 (some xs))) (by have := nval_lt 1 (nnext 1 (some xs)); simp only [e1] at this; omega) W
  rw [hkd] at hcv1
  rw [hfr] at hcv2
  rw [hE] at hP
  have HPP := Lib.hid hP
  clear h hN hkd hfr hbd hs1 hP hPP hL hlen hE
  by_cases hst : L.2 = some []
  case neg =>
    have HST := Lib.hid hst
    have hpe : P = (Ms.no, 2) := by rw [HPP.out, if_neg (fun h => hst h.1)]
    subst hpe
    clear hst
    go_enter Try.func14, Try.ntmps14
    go_wp2_with (first
      | go_skip
      | (go_at_call 23; (with_reducible refine (HRd.out _ HX0.out).mono ?_); rintro e w1 ⟨g, rfl, hr1, hb1, hg1⟩; have HR1 := Lib.hid hr1; have HGq : Hid (w.heap.size + 1 ≤ g) := Lib.hid (by simpa using hg1); have HX1 : Hid (Below w.heap.size w w1) := Lib.hid (below_step HX0.out hb1); have HZ1 := Lib.hid (HZ0.out.through hb1); have HGn : Hid (some w.heap.size ≠ some g) := Lib.hid (fun e => by have := Option.some.inj e; have := HGq.out; omega); clear hr1 hb1 hg1)
      | (go_at_call 24; (with_reducible refine (HNum1.out _ _ _ HR1.out).mono ?_); rintro e w2 ⟨rfl, hr2, hg2⟩; have HR2 := Lib.hid hr2; have HX2 : Hid (Below w.heap.size w w2) := Lib.hid (HX1.out.grown hg2 HX1.out.size (fun k hk => by have := Option.some.inj hk; have := HGq.out; omega)); have HZ2 := Lib.hid (HZ1.out.grown hg2 HGn.out); clear hr2 hg2)
      | (go_at_call 24; (with_reducible refine (HNum2.out _ _ _ HR2.out).mono ?_); rintro e w3 ⟨rfl, hr3, hg3⟩; have HR3 := Lib.hid hr3; have HX3 : Hid (Below w.heap.size w w3) := Lib.hid (HX2.out.grown hg3 HX2.out.size (fun k hk => by have := Option.some.inj hk; have := HGq.out; omega)); have HZ3 := Lib.hid (HZ2.out.grown hg3 HGn.out); clear hr3 hg3)
      | (go_at_call 25; (with_reducible refine (HRow.out _ _ _ HR3.out).mono ?_); rintro e w4 ⟨Bc, mc, cc, rfl, hyc, hr4, hg4⟩; have HR4 := Lib.hid hr4.lt_; have HY4 := Lib.hid hyc; have HX4 : Hid (Below w.heap.size w w4) := Lib.hid (HX3.out.grown hg4 HX3.out.size (fun k hk => by have := Option.some.inj hk; have := HGq.out; omega)); have HZ4 := Lib.hid (HZ3.out.grown hg4 HGn.out); clear hr4 hg4 hyc)
      | (go_at_call 26; (with_reducible refine (HRt.out _ _ _ HR4.out (fun _ h => h)).mono ?_); rintro e w5 ⟨⟨S1, S2, S3⟩, rfl, ht5, hr5, hg5⟩; have HR5 := Lib.hid hr5; have HT5 := Lib.hid ht5.out; have HY5 := Lib.hid (HR4.out.by_keep HY4.out hg5); have HX5 : Hid (Below w.heap.size w w5) := Lib.hid (HX4.out.grown hg5 HX4.out.size (fun k hk => by have := Option.some.inj hk; have := HGq.out; omega)); have HZ5 := Lib.hid (HZ4.out.grown hg5 HGn.out); have HX6 : Hid (Below w.heap.size w (w5.alloc (.cells #[.int .i64 (kd : Int), .int .i64 (fr : Int), .slice Bc mc cc, .slice S1 S2 S3] 25))) := Lib.hid (HX5.out.alloc HX5.out.size (.cells #[.int .i64 (kd : Int), .int .i64 (fr : Int), .slice Bc mc cc, .slice S1 S2 S3] 25)); have HR6 := Lib.hid (HR5.out.alloc (.cells #[.int .i64 (kd : Int), .int .i64 (fr : Int), .slice Bc mc cc, .slice S1 S2 S3] 25)); have HZ6 := Lib.hid (HZ5.out.alloc (.cells #[.int .i64 (kd : Int), .int .i64 (fr : Int), .slice Bc mc cc, .slice S1 S2 S3] 25)); have HB6 : Hid (Blk (w5.alloc (.cells #[.int .i64 (kd : Int), .int .i64 (fr : Int), .slice Bc mc cc, .slice S1 S2 S3] 25)) w5.heap.size 25 [.int .i64 (kd : Int), .int .i64 (fr : Int), .slice Bc mc cc, .slice S1 S2 S3]) := Lib.hid (Blk.fresh rfl rfl); have HM6 : Hid (MsIn (w5.alloc (.cells #[.int .i64 (kd : Int), .int .i64 (fr : Int), .slice Bc mc cc, .slice S1 S2 S3] 25)) Bc mc S1 S2 S3 ⟨(kd : Int), (fr : Int), bd, L.1⟩) := Lib.hid ⟨HY5.out.through (below1_ w5 (.cells #[.int .i64 (kd : Int), .int .i64 (fr : Int), .slice Bc mc cc, .slice S1 S2 S3] 25)), HT5.out.through (below1_ w5 (.cells #[.int .i64 (kd : Int), .int .i64 (fr : Int), .slice Bc mc cc, .slice S1 S2 S3] 25))⟩; clear ht5 hr5 hg5)
      | (go_at_call 27; (refine (end_rs HR6.out).mono ?_); rintro e wE ⟨x, rfl, hx, rfl⟩; have hx0 : ¬ x = 0 := (fun h9 => HST.out (hx.1 h9)); have hxb : (x == 0) = false := (by simpa using hx0); have hxd : (x != 0) = true := (by simpa using hx0); clear hx hx0)
      | (refine wpList_store_blk rfl 25 (.tmp 2) (.tmp 33) rfl w.heap.size [.int .i64 0, .int .i64 0, .slice none 0 0, .slice none 0 0] rfl rfl 25 [.int .i64 0, .int .i64 0, .slice none 0 0, .slice none 0 0] HZ6.out (by kernel_rfl) rfl (one4m _ _ _ _ _ _ _ _) ?_; intro wy hby hgy; have HGy := Lib.hid hgy; have HBy := Lib.hid hby; have HXy : Hid (Below w.heap.size w wy) := Lib.hid (HX6.out.grown hgy HX6.out.size (fun k hk => by have := Option.some.inj hk; omega)); clear hby hgy))
    (try simp only [Exit.inBlock, Exit.then]); refine bodyPost_ret (results_cell_row_tmp1 rfl _ _ w.heap.size 25 _ (0, 0) _ rfl HBy.out Try.underlying25 rfl (by kernel_rfl)) rfl ?_
    exact ⟨none, 0, 0, none, 0, 0, rfl, MsIn.no_ _, HXy.out⟩
  have HST := Lib.hid hst
  by_cases her : er = 0
  case neg =>
    have hpe : P = (Ms.no, 2) := by rw [HPP.out, if_neg (fun h => her h.2)]
    subst hpe
    have hkb : (er == 0) = false := by simpa using her
    have hkd : (er != 0) = true := by simpa using her
    clear hst her
    go_enter Try.func14, Try.ntmps14
    go_wp2_with (first
      | go_skip
      | (go_at_call 23; (with_reducible refine (HRd.out _ HX0.out).mono ?_); rintro e w1 ⟨g, rfl, hr1, hb1, hg1⟩; have HR1 := Lib.hid hr1; have HGq : Hid (w.heap.size + 1 ≤ g) := Lib.hid (by simpa using hg1); have HX1 : Hid (Below w.heap.size w w1) := Lib.hid (below_step HX0.out hb1); have HZ1 := Lib.hid (HZ0.out.through hb1); have HGn : Hid (some w.heap.size ≠ some g) := Lib.hid (fun e => by have := Option.some.inj e; have := HGq.out; omega); clear hr1 hb1 hg1)
      | (go_at_call 24; (with_reducible refine (HNum1.out _ _ _ HR1.out).mono ?_); rintro e w2 ⟨rfl, hr2, hg2⟩; have HR2 := Lib.hid hr2; have HX2 : Hid (Below w.heap.size w w2) := Lib.hid (HX1.out.grown hg2 HX1.out.size (fun k hk => by have := Option.some.inj hk; have := HGq.out; omega)); have HZ2 := Lib.hid (HZ1.out.grown hg2 HGn.out); clear hr2 hg2)
      | (go_at_call 24; (with_reducible refine (HNum2.out _ _ _ HR2.out).mono ?_); rintro e w3 ⟨rfl, hr3, hg3⟩; have HR3 := Lib.hid hr3; have HX3 : Hid (Below w.heap.size w w3) := Lib.hid (HX2.out.grown hg3 HX2.out.size (fun k hk => by have := Option.some.inj hk; have := HGq.out; omega)); have HZ3 := Lib.hid (HZ2.out.grown hg3 HGn.out); clear hr3 hg3)
      | (go_at_call 25; (with_reducible refine (HRow.out _ _ _ HR3.out).mono ?_); rintro e w4 ⟨Bc, mc, cc, rfl, hyc, hr4, hg4⟩; have HR4 := Lib.hid hr4.lt_; have HY4 := Lib.hid hyc; have HX4 : Hid (Below w.heap.size w w4) := Lib.hid (HX3.out.grown hg4 HX3.out.size (fun k hk => by have := Option.some.inj hk; have := HGq.out; omega)); have HZ4 := Lib.hid (HZ3.out.grown hg4 HGn.out); clear hr4 hg4 hyc)
      | (go_at_call 26; (with_reducible refine (HRt.out _ _ _ HR4.out (fun _ h => h)).mono ?_); rintro e w5 ⟨⟨S1, S2, S3⟩, rfl, ht5, hr5, hg5⟩; have HR5 := Lib.hid hr5; have HT5 := Lib.hid ht5.out; have HY5 := Lib.hid (HR4.out.by_keep HY4.out hg5); have HX5 : Hid (Below w.heap.size w w5) := Lib.hid (HX4.out.grown hg5 HX4.out.size (fun k hk => by have := Option.some.inj hk; have := HGq.out; omega)); have HZ5 := Lib.hid (HZ4.out.grown hg5 HGn.out); have HX6 : Hid (Below w.heap.size w (w5.alloc (.cells #[.int .i64 (kd : Int), .int .i64 (fr : Int), .slice Bc mc cc, .slice S1 S2 S3] 25))) := Lib.hid (HX5.out.alloc HX5.out.size (.cells #[.int .i64 (kd : Int), .int .i64 (fr : Int), .slice Bc mc cc, .slice S1 S2 S3] 25)); have HR6 := Lib.hid (HR5.out.alloc (.cells #[.int .i64 (kd : Int), .int .i64 (fr : Int), .slice Bc mc cc, .slice S1 S2 S3] 25)); have HZ6 := Lib.hid (HZ5.out.alloc (.cells #[.int .i64 (kd : Int), .int .i64 (fr : Int), .slice Bc mc cc, .slice S1 S2 S3] 25)); have HB6 : Hid (Blk (w5.alloc (.cells #[.int .i64 (kd : Int), .int .i64 (fr : Int), .slice Bc mc cc, .slice S1 S2 S3] 25)) w5.heap.size 25 [.int .i64 (kd : Int), .int .i64 (fr : Int), .slice Bc mc cc, .slice S1 S2 S3]) := Lib.hid (Blk.fresh rfl rfl); have HM6 : Hid (MsIn (w5.alloc (.cells #[.int .i64 (kd : Int), .int .i64 (fr : Int), .slice Bc mc cc, .slice S1 S2 S3] 25)) Bc mc S1 S2 S3 ⟨(kd : Int), (fr : Int), bd, L.1⟩) := Lib.hid ⟨HY5.out.through (below1_ w5 (.cells #[.int .i64 (kd : Int), .int .i64 (fr : Int), .slice Bc mc cc, .slice S1 S2 S3] 25)), HT5.out.through (below1_ w5 (.cells #[.int .i64 (kd : Int), .int .i64 (fr : Int), .slice Bc mc cc, .slice S1 S2 S3] 25))⟩; clear ht5 hr5 hg5)
      | (go_at_call 27; (refine (end_rs HR6.out).mono ?_); rintro e wE ⟨x, rfl, hx, rfl⟩; have hx0 : x = 0 := hx.2 HST.out; subst hx0; clear hx)
      | (refine wpList_load_blk_g 25 (.tmp 5) rfl (by kernel_rfl) w5.heap.size rfl 25 [.int .i64 (kd : Int), .int .i64 (fr : Int), .slice Bc mc cc, .slice S1 S2 S3] _ HB6.out Try.underlying25 rfl (by kernel_rfl) ?_)
      | (go_at_call 9; (with_reducible refine (HCk.out _ _ _ _ _ _ _ HM6.out).mono ?_); rintro e w7 ⟨rfl, hb7⟩; have HX7 := Lib.hid (below_step HX6.out hb7); have HZ7 := Lib.hid (HZ6.out.through hb7); have HB7 := Lib.hid (HB6.out.through hb7); have HM7 := Lib.hid (HM6.out.through hb7); clear hb7)
      | (refine wpList_store_blk rfl 25 (.tmp 2) (.tmp 33) rfl w.heap.size [.int .i64 0, .int .i64 0, .slice none 0 0, .slice none 0 0] rfl rfl 25 [.int .i64 0, .int .i64 0, .slice none 0 0, .slice none 0 0] HZ7.out (by kernel_rfl) rfl (one4m _ _ _ _ _ _ _ _) ?_; intro wy hby hgy; have HGy := Lib.hid hgy; have HBy := Lib.hid hby; have HXy : Hid (Below w.heap.size w wy) := Lib.hid (HX7.out.grown hgy HX7.out.size (fun k hk => by have := Option.some.inj hk; omega)); clear hby hgy))
    (try simp only [Exit.inBlock, Exit.then]); refine bodyPost_ret (results_cell_row_tmp1 rfl _ _ w.heap.size 25 _ (0, 0) _ rfl HBy.out Try.underlying25 rfl (by kernel_rfl)) rfl ?_
    exact ⟨none, 0, 0, none, 0, 0, rfl, MsIn.no_ _, HXy.out⟩
  have hpe : P = (⟨(kd : Int), (fr : Int), bd, L.1⟩, 0) := by rw [HPP.out, if_pos ⟨hst, her⟩]
  subst hpe
  subst her
  clear hst
  go_enter Try.func14, Try.ntmps14
  go_wp2_with (first
    | go_skip
    | (go_at_call 23; (with_reducible refine (HRd.out _ HX0.out).mono ?_); rintro e w1 ⟨g, rfl, hr1, hb1, hg1⟩; have HR1 := Lib.hid hr1; have HGq : Hid (w.heap.size + 1 ≤ g) := Lib.hid (by simpa using hg1); have HX1 : Hid (Below w.heap.size w w1) := Lib.hid (below_step HX0.out hb1); have HZ1 := Lib.hid (HZ0.out.through hb1); have HGn : Hid (some w.heap.size ≠ some g) := Lib.hid (fun e => by have := Option.some.inj e; have := HGq.out; omega); clear hr1 hb1 hg1)
    | (go_at_call 24; (with_reducible refine (HNum1.out _ _ _ HR1.out).mono ?_); rintro e w2 ⟨rfl, hr2, hg2⟩; have HR2 := Lib.hid hr2; have HX2 : Hid (Below w.heap.size w w2) := Lib.hid (HX1.out.grown hg2 HX1.out.size (fun k hk => by have := Option.some.inj hk; have := HGq.out; omega)); have HZ2 := Lib.hid (HZ1.out.grown hg2 HGn.out); clear hr2 hg2)
    | (go_at_call 24; (with_reducible refine (HNum2.out _ _ _ HR2.out).mono ?_); rintro e w3 ⟨rfl, hr3, hg3⟩; have HR3 := Lib.hid hr3; have HX3 : Hid (Below w.heap.size w w3) := Lib.hid (HX2.out.grown hg3 HX2.out.size (fun k hk => by have := Option.some.inj hk; have := HGq.out; omega)); have HZ3 := Lib.hid (HZ2.out.grown hg3 HGn.out); clear hr3 hg3)
    | (go_at_call 25; (with_reducible refine (HRow.out _ _ _ HR3.out).mono ?_); rintro e w4 ⟨Bc, mc, cc, rfl, hyc, hr4, hg4⟩; have HR4 := Lib.hid hr4.lt_; have HY4 := Lib.hid hyc; have HX4 : Hid (Below w.heap.size w w4) := Lib.hid (HX3.out.grown hg4 HX3.out.size (fun k hk => by have := Option.some.inj hk; have := HGq.out; omega)); have HZ4 := Lib.hid (HZ3.out.grown hg4 HGn.out); clear hr4 hg4 hyc)
    | (go_at_call 26; (with_reducible refine (HRt.out _ _ _ HR4.out (fun _ h => h)).mono ?_); rintro e w5 ⟨⟨S1, S2, S3⟩, rfl, ht5, hr5, hg5⟩; have HR5 := Lib.hid hr5; have HT5 := Lib.hid ht5.out; have HY5 := Lib.hid (HR4.out.by_keep HY4.out hg5); have HX5 : Hid (Below w.heap.size w w5) := Lib.hid (HX4.out.grown hg5 HX4.out.size (fun k hk => by have := Option.some.inj hk; have := HGq.out; omega)); have HZ5 := Lib.hid (HZ4.out.grown hg5 HGn.out); have HX6 : Hid (Below w.heap.size w (w5.alloc (.cells #[.int .i64 (kd : Int), .int .i64 (fr : Int), .slice Bc mc cc, .slice S1 S2 S3] 25))) := Lib.hid (HX5.out.alloc HX5.out.size (.cells #[.int .i64 (kd : Int), .int .i64 (fr : Int), .slice Bc mc cc, .slice S1 S2 S3] 25)); have HR6 := Lib.hid (HR5.out.alloc (.cells #[.int .i64 (kd : Int), .int .i64 (fr : Int), .slice Bc mc cc, .slice S1 S2 S3] 25)); have HZ6 := Lib.hid (HZ5.out.alloc (.cells #[.int .i64 (kd : Int), .int .i64 (fr : Int), .slice Bc mc cc, .slice S1 S2 S3] 25)); have HB6 : Hid (Blk (w5.alloc (.cells #[.int .i64 (kd : Int), .int .i64 (fr : Int), .slice Bc mc cc, .slice S1 S2 S3] 25)) w5.heap.size 25 [.int .i64 (kd : Int), .int .i64 (fr : Int), .slice Bc mc cc, .slice S1 S2 S3]) := Lib.hid (Blk.fresh rfl rfl); have HM6 : Hid (MsIn (w5.alloc (.cells #[.int .i64 (kd : Int), .int .i64 (fr : Int), .slice Bc mc cc, .slice S1 S2 S3] 25)) Bc mc S1 S2 S3 ⟨(kd : Int), (fr : Int), bd, L.1⟩) := Lib.hid ⟨HY5.out.through (below1_ w5 (.cells #[.int .i64 (kd : Int), .int .i64 (fr : Int), .slice Bc mc cc, .slice S1 S2 S3] 25)), HT5.out.through (below1_ w5 (.cells #[.int .i64 (kd : Int), .int .i64 (fr : Int), .slice Bc mc cc, .slice S1 S2 S3] 25))⟩; clear ht5 hr5 hg5)
    | (go_at_call 27; (refine (end_rs HR6.out).mono ?_); rintro e wE ⟨x, rfl, hx, rfl⟩; have hx0 : x = 0 := hx.2 HST.out; subst hx0; clear hx)
    | (refine wpList_load_blk_g 25 (.tmp 5) rfl (by kernel_rfl) w5.heap.size rfl 25 [.int .i64 (kd : Int), .int .i64 (fr : Int), .slice Bc mc cc, .slice S1 S2 S3] _ HB6.out Try.underlying25 rfl (by kernel_rfl) ?_)
    | (go_at_call 9; (with_reducible refine (HCk.out _ _ _ _ _ _ _ HM6.out).mono ?_); rintro e w7 ⟨rfl, hb7⟩; have HX7 := Lib.hid (below_step HX6.out hb7); have HZ7 := Lib.hid (HZ6.out.through hb7); have HB7 := Lib.hid (HB6.out.through hb7); have HM7 := Lib.hid (HM6.out.through hb7); clear hb7)
    | (refine wpList_load_blk rfl 25 (.tmp 5) rfl w5.heap.size rfl 25 [.int .i64 (kd : Int), .int .i64 (fr : Int), .slice Bc mc cc, .slice S1 S2 S3] _ HB7.out Try.underlying25 rfl (by kernel_rfl) ?_)
    | (refine wpList_store_blk rfl 25 (.tmp 2) (.tmp 34) rfl w.heap.size [.int .i64 (kd : Int), .int .i64 (fr : Int), .slice Bc mc cc, .slice S1 S2 S3] rfl rfl 25 [.int .i64 0, .int .i64 0, .slice none 0 0, .slice none 0 0] HZ7.out (by kernel_rfl) rfl (one4m _ _ _ _ _ _ _ _) ?_; intro wy hby hgy; have HGy := Lib.hid hgy; have HBy := Lib.hid hby; have HXy : Hid (Below w.heap.size w wy) := Lib.hid (HX7.out.grown hgy HX7.out.size (fun k hk => by have := Option.some.inj hk; omega)); clear hby hgy))
  (try simp only [Exit.inBlock, Exit.then]); refine bodyPost_ret (results_cell_row_tmp1 rfl _ _ w.heap.size 25 _ (0, 0) _ rfl HBy.out Try.underlying25 rfl (by kernel_rfl)) rfl ?_
  exact ⟨Bc, mc, cc, S1, S2, S3, rfl, ⟨HM7.out.1.far HGy.out HZ7.out (no8 _ _ _ _ _ _ _ _), HM7.out.2.far_ HGy.out HZ7.out (no8 _ _ _ _ _ _ _ _)⟩, HXy.out⟩

end Go.Proofs.Ytkklgfcmgefedaa
