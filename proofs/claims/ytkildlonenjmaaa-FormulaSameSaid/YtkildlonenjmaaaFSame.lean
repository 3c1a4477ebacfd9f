/-
  FormulaSame, walked.
-/
import Derived.Test.YtkildlonenjmaaaF15b
namespace Go.Proofs.Ytkildlonenjmaaa
open Go.RowKit

mutual
theorem Fm.same_refl : ∀ f : Fm, f.same f = true
  | .mk o a ks => by rw [Fm.same_eq, Fm.sames_refl ks]; simp
theorem Fm.sames_refl : ∀ ks : List Fm, Fm.sames ks ks = true
  | [] => rfl
  | k :: ks => by rw [Fm.sames_cons, Fm.same_refl k, Fm.sames_refl ks]; rfl
end

set_option maxHeartbeats 16000000 in
set_option maxRecDepth 100000 in
theorem lsame_any (f g : Fm) (A B : Option Addr) (n c m e : Nat) (w : World) (h : f.In w (fun _ => True) A n) (h' : g.In w (fun _ => True) B m) :
    Calls Try.prog 7 #[f.val A n c, g.val B m e] w fun e w' => e = .returned (.bool true) ∧ Below w.heap.size w w' := by
  have hfw : ∀ W, f.In W (fun _ => True) A n → Calls Try.prog 21 #[f.val A n c, .int .i64 1] W fun e w' => e = .returned (.tuple #[.int .i64 (fewP 1 f).1, .bool (fewP 1 f).2]) ∧ Below W.heap.size W w' := fun W h => few_walk f 1 A n c W h
  have hgw : ∀ W, g.In W (fun _ => True) B m → Calls Try.prog 21 #[g.val B m e, .int .i64 1] W fun e w' => e = .returned (.tuple #[.int .i64 (fewP 1 g).1, .bool (fewP 1 g).2]) ∧ Below W.heap.size W w' := fun W h => few_walk g 1 B m e W h
  have HF := Lib.hid h
  have HGI := Lib.hid h'
  cases hok : (fewP 1 f).2
  case' true =>
    have hfz := few_ok hok
    have hs : ∀ W, f.In W (fun _ => True) A n → g.In W (fun _ => True) B m → Calls Try.prog 34 #[f.val A n c, g.val B m e] W fun e w' => e = .returned (.bool (f.same g)) ∧ Below W.heap.size W w' := fun W h1 h2 => same_any f g A B n c m e W hfz.1 h1 h2
    have hr : ∀ W, f.In W (fun _ => True) A n → g.In W (fun _ => True) B m → Calls Try.prog 35 #[f.val A n c, g.val B m e] W fun e w' => e = .returned (.bool (f.same g)) ∧ Below W.heap.size W w' := fun W h1 h2 => rsame_any f g A B n c m e W h1 h2
    have ht : ∀ W, f.In W (fun _ => True) A n → Calls Try.prog 34 #[f.val A n c, f.val A n c] W fun e w' => e = .returned (.bool true) ∧ Below W.heap.size W w' := fun W h1 => by
      have := same_any f f A A n c n c W hfz.1 h1 h1
      rw [f.same_refl] at this
      exact this
    generalize f.same g = v at *
    cases hok2 : (fewP 1 g).2
  case false =>
    rw [hok] at hfw
    generalize (fewP 1 f).1 = fm at *
    generalize (fewP 1 g).1 = gm at *
    generalize (fewP 1 g).2 = gk at *
    unfold Fm.val at hfw hgw
    unfold Fm.val
    generalize f.org = fo at *
    generalize f.nd = fa at *
    generalize g.org = go at *
    generalize g.nd = ga at *
    have HW := Lib.hid hfw
    have HV := Lib.hid hgw
    clear hfw hgw h h' hok
    have hB0 : Blk ((w.alloc (.cells #[.int .i64 fo, .int .i64 fa, .slice A n c] 33)).alloc (.cells #[.int .i64 go, .int .i64 ga, .slice B m e] 33)) w.heap.size 33 [.int .i64 fo, .int .i64 fa, .slice A n c] := (Blk.fresh rfl rfl).alloc _
    have hG0 : Blk ((w.alloc (.cells #[.int .i64 fo, .int .i64 fa, .slice A n c] 33)).alloc (.cells #[.int .i64 go, .int .i64 ga, .slice B m e] 33)) (w.heap.size + 1) 33 [.int .i64 go, .int .i64 ga, .slice B m e] := Blk.fresh (by simp) rfl
    have hX0 : Below w.heap.size w ((w.alloc (.cells #[.int .i64 fo, .int .i64 fa, .slice A n c] 33)).alloc (.cells #[.int .i64 go, .int .i64 ga, .slice B m e] 33)) := ((Below.refl _ w).alloc (Nat.le_refl _) _).alloc (by simp) _
    have HB0 := Lib.hid hB0
    have HG0 := Lib.hid hG0
    have HX0 := Lib.hid hX0
    clear hB0 hG0 hX0
    go_enter Try.func7, Try.ntmps7
    go_wp2_with (first
    | (go_at_call 20; (with_reducible refine (ffixed_any _).mono ?_); rintro ee w1 ⟨rfl, hb⟩; have HXw1 : Hid (Below w.heap.size w w1) := Lib.hid (HX0.out.trans (hb.mono (by simp; omega))); have HBw1 := Lib.hid (HB0.out.through hb); have HGw1 := Lib.hid (HG0.out.through hb); clear hb)
    | (refine wpList_load_blk rfl 33 (.tmp 2) rfl w.heap.size rfl 33 [.int .i64 fo, .int .i64 fa, .slice A n c] _ HBw1.out Try.underlying33 rfl (by kernel_rfl) ?_)
    | (go_at_call 21; (with_reducible refine (HW.out _ (HF.out.through HXw1.out)).mono ?_); rintro ee w2 ⟨rfl, hb⟩; have HXw2 := Lib.hid (HXw1.out.trans (hb.mono HXw1.out.size)); have HBw2 := Lib.hid (HBw1.out.through hb); have HGw2 := Lib.hid (HGw1.out.through hb); clear hb)
    | (refine wpList_load_blk rfl 33 (.tmp 3) rfl (w.heap.size + 1) rfl 33 [.int .i64 go, .int .i64 ga, .slice B m e] _ HGw2.out Try.underlying33 rfl (by kernel_rfl) ?_)
    | (go_at_call 21; (with_reducible refine (HV.out _ (HGI.out.through HXw2.out)).mono ?_); rintro ee w3 ⟨rfl, hb⟩; have HXw3 := Lib.hid (HXw2.out.trans (hb.mono HXw2.out.size)); have HBw3 := Lib.hid (HBw2.out.through hb); have HGw3 := Lib.hid (HGw2.out.through hb); clear hb))
    obtain ⟨bf, hbf⟩ : ∃ bf, bf = w.heap.size := ⟨_, rfl⟩
    obtain ⟨bg, hbg⟩ : ∃ bg, bg = w.heap.size + 1 := ⟨_, rfl⟩
    rw [← hbf] at HBw3
    rw [← hbg] at HGw3
    rw [← hbg, ← hbf]
    try dsimp only [Act.put]
    refine wp_region_held_drew (S := fun W => Blk W bf 33 [.int .i64 fo, .int .i64 fa, .slice A n c] ∧ Blk W bg 33 [.int .i64 go, .int .i64 ga, .slice B m e]) (by kernel_rfl) ⟨HBw3.out.drew, HGw3.out.drew⟩ (fun hHeld => ?_)
    change wpAnyH _ _ _ _ _ _ #[false, false, false, false, false, false, false, false, false, false, false, false, false, false, false, false, false, false, false, false, false] _ _
    refine wpAnyH_take (i := 0) (v := (.bool false)) rfl (by kernel_rfl) (by kernel_rfl) (by kernel_rfl) (fun _ _ _ h => h) (Or.inl ⟨by kernel_rfl, fun w hSw => ?_⟩) (by assumption) ?_
    · (try dsimp only at hSw); go_simp <;> (try rfl)
    change wpAnyH _ _ _ _ _ _ _ (Act.put _ (some (21 : Nat)) (.bool false)) _
    simp only [Act.put, List.setIfInBounds_toArray, List.set_cons_zero, List.set_cons_succ]
    refine wpAnyH_take (i := 1) (v := (.bool true)) rfl (by kernel_rfl) (by kernel_rfl) (by kernel_rfl) (fun _ _ _ h => h) (Or.inl ⟨by kernel_rfl, fun w hSw => ?_⟩) (by assumption) ?_
    · (try dsimp only at hSw); go_simp <;> (try rfl)
    change wpAnyH _ _ _ _ _ _ _ (Act.put _ (some (22 : Nat)) (.bool true)) _
    simp only [Act.put, List.setIfInBounds_toArray, List.set_cons_zero, List.set_cons_succ]
    refine wpAnyH_take (i := 2) (v := (.bool true)) rfl (by kernel_rfl) (by kernel_rfl) (by kernel_rfl) (fun _ _ _ h => h) (Or.inl ⟨by kernel_rfl, fun w hSw => ?_⟩) (by assumption) ?_
    · (try dsimp only at hSw); go_simp <;> (try rfl)
    change wpAnyH _ _ _ _ _ _ _ (Act.put _ (some (23 : Nat)) (.bool true)) _
    simp only [Act.put, List.setIfInBounds_toArray, List.set_cons_zero, List.set_cons_succ]
    refine wpAnyH_take (i := 3) (v := undef) rfl (by kernel_rfl) (by kernel_rfl) (by kernel_rfl) (fun _ _ _ h => h) (Or.inr ⟨by kernel_rfl, rfl⟩) (by assumption) ?_
    change wpAnyH _ _ _ _ _ _ _ (Act.put _ (some (24 : Nat)) undef) _
    simp only [Act.put, List.setIfInBounds_toArray, List.set_cons_zero, List.set_cons_succ]
    refine wpAnyH_take (i := 4) (v := undef) rfl (by kernel_rfl) (by kernel_rfl) (by kernel_rfl) (fun _ _ _ h => h) (Or.inr ⟨by kernel_rfl, rfl⟩) (by assumption) ?_
    change wpAnyH _ _ _ _ _ _ _ (Act.put _ (some (25 : Nat)) undef) _
    simp only [Act.put, List.setIfInBounds_toArray, List.set_cons_zero, List.set_cons_succ]
    refine wpAnyH_take (i := 5) (v := (.bool true)) rfl (by kernel_rfl) (by kernel_rfl) (by kernel_rfl) (fun _ _ _ h => h) (Or.inl ⟨by kernel_rfl, fun w hSw => ?_⟩) (by assumption) ?_
    · (try dsimp only at hSw); go_simp <;> (try rfl)
    change wpAnyH _ _ _ _ _ _ _ (Act.put _ (some (26 : Nat)) (.bool true)) _
    simp only [Act.put, List.setIfInBounds_toArray, List.set_cons_zero, List.set_cons_succ]
    refine wpAnyH_take (i := 6) (v := (.bool true)) rfl (by kernel_rfl) (by kernel_rfl) (by kernel_rfl) (fun _ _ _ h => h) (Or.inl ⟨by kernel_rfl, fun w hSw => ?_⟩) (by assumption) ?_
    · (try dsimp only at hSw); go_simp <;> (try rfl)
    change wpAnyH _ _ _ _ _ _ _ (Act.put _ (some (27 : Nat)) (.bool true)) _
    simp only [Act.put, List.setIfInBounds_toArray, List.set_cons_zero, List.set_cons_succ]
    refine wpAnyH_take (i := 7) (v := undef) rfl (by kernel_rfl) (by kernel_rfl) (by kernel_rfl) (fun _ _ _ h => h) (Or.inr ⟨by kernel_rfl, rfl⟩) (by assumption) ?_
    change wpAnyH _ _ _ _ _ _ _ (Act.put _ (some (28 : Nat)) undef) _
    simp only [Act.put, List.setIfInBounds_toArray, List.set_cons_zero, List.set_cons_succ]
    refine wpAnyH_take (i := 8) (v := undef) rfl (by kernel_rfl) (by kernel_rfl) (by kernel_rfl) (fun _ _ _ h => h) (Or.inr ⟨by kernel_rfl, rfl⟩) (by assumption) ?_
    change wpAnyH _ _ _ _ _ _ _ (Act.put _ (some (29 : Nat)) undef) _
    simp only [Act.put, List.setIfInBounds_toArray, List.set_cons_zero, List.set_cons_succ]
    refine wpAnyH_take (i := 9) (v := undef) rfl (by kernel_rfl) (by kernel_rfl) (by kernel_rfl) (fun _ _ _ h => h) (Or.inr ⟨by kernel_rfl, rfl⟩) (by assumption) ?_
    change wpAnyH _ _ _ _ _ _ _ (Act.put _ (some (30 : Nat)) undef) _
    simp only [Act.put, List.setIfInBounds_toArray, List.set_cons_zero, List.set_cons_succ]
    refine wpAnyH_take (i := 10) (v := undef) rfl (by kernel_rfl) (by kernel_rfl) (by kernel_rfl) (fun _ _ _ h => h) (Or.inr ⟨by kernel_rfl, rfl⟩) (by assumption) ?_
    change wpAnyH _ _ _ _ _ _ _ (Act.put _ (some (31 : Nat)) undef) _
    simp only [Act.put, List.setIfInBounds_toArray, List.set_cons_zero, List.set_cons_succ]
    refine wpAnyH_take (i := 11) (v := undef) rfl (by kernel_rfl) (by kernel_rfl) (by kernel_rfl) (fun _ _ _ h => h) (Or.inr ⟨by kernel_rfl, rfl⟩) (by assumption) ?_
    change wpAnyH _ _ _ _ _ _ _ (Act.put _ (some (32 : Nat)) undef) _
    simp only [Act.put, List.setIfInBounds_toArray, List.set_cons_zero, List.set_cons_succ]
    refine wpAnyH_take (i := 12) (v := undef) rfl (by kernel_rfl) (by kernel_rfl) (by kernel_rfl) (fun _ _ _ h => h) (Or.inr ⟨by kernel_rfl, rfl⟩) (by assumption) ?_
    change wpAnyH _ _ _ _ _ _ _ (Act.put _ (some (33 : Nat)) undef) _
    simp only [Act.put, List.setIfInBounds_toArray, List.set_cons_zero, List.set_cons_succ]
    refine wpAnyH_take (i := 13) (v := undef) rfl (by kernel_rfl) (by kernel_rfl) (by kernel_rfl) (fun _ _ _ h => h) (Or.inr ⟨by kernel_rfl, rfl⟩) (by assumption) ?_
    change wpAnyH _ _ _ _ _ _ _ (Act.put _ (some (34 : Nat)) undef) _
    simp only [Act.put, List.setIfInBounds_toArray, List.set_cons_zero, List.set_cons_succ]
    refine wpAnyH_take (i := 14) (v := undef) rfl (by kernel_rfl) (by kernel_rfl) (by kernel_rfl) (fun _ _ _ h => h) (Or.inr ⟨by kernel_rfl, rfl⟩) (by assumption) ?_
    change wpAnyH _ _ _ _ _ _ _ (Act.put _ (some (35 : Nat)) undef) _
    simp only [Act.put, List.setIfInBounds_toArray, List.set_cons_zero, List.set_cons_succ]
    refine wpAnyH_take (i := 15) (v := undef) rfl (by kernel_rfl) (by kernel_rfl) (by kernel_rfl) (fun _ _ _ h => h) (Or.inr ⟨by kernel_rfl, rfl⟩) (by assumption) ?_
    change wpAnyH _ _ _ _ _ _ _ (Act.put _ (some (36 : Nat)) undef) _
    simp only [Act.put, List.setIfInBounds_toArray, List.set_cons_zero, List.set_cons_succ]
    refine wpAnyH_take (i := 16) (v := undef) rfl (by kernel_rfl) (by kernel_rfl) (by kernel_rfl) (fun _ _ _ h => h) (Or.inr ⟨by kernel_rfl, rfl⟩) (by assumption) ?_
    change wpAnyH _ _ _ _ _ _ _ (Act.put _ (some (37 : Nat)) undef) _
    simp only [Act.put, List.setIfInBounds_toArray, List.set_cons_zero, List.set_cons_succ]
    refine wpAnyH_take (i := 17) (v := undef) rfl (by kernel_rfl) (by kernel_rfl) (by kernel_rfl) (fun _ _ _ h => h) (Or.inr ⟨by kernel_rfl, rfl⟩) (by assumption) ?_
    change wpAnyH _ _ _ _ _ _ _ (Act.put _ (some (38 : Nat)) undef) _
    simp only [Act.put, List.setIfInBounds_toArray, List.set_cons_zero, List.set_cons_succ]
    refine wpAnyH_take (i := 18) (v := undef) rfl (by kernel_rfl) (by kernel_rfl) (by kernel_rfl) (fun _ _ _ h => h) (Or.inr ⟨by kernel_rfl, rfl⟩) (by assumption) ?_
    change wpAnyH _ _ _ _ _ _ _ (Act.put _ (some (39 : Nat)) undef) _
    simp only [Act.put, List.setIfInBounds_toArray, List.set_cons_zero, List.set_cons_succ]
    refine wpAnyH_take (i := 19) (v := (.bool true)) rfl (by kernel_rfl) (by kernel_rfl) (by kernel_rfl) (fun _ _ _ h => h) (Or.inl ⟨by kernel_rfl, fun w hSw => ?_⟩) (by assumption) ?_
    · (try dsimp only at hSw); go_simp <;> (try rfl)
    change wpAnyH _ _ _ _ _ _ _ (Act.put _ (some (40 : Nat)) (.bool true)) _
    simp only [Act.put, List.setIfInBounds_toArray, List.set_cons_zero, List.set_cons_succ]
    refine wpAnyH_take (i := 20) (v := (.bool true)) rfl (by kernel_rfl) (by kernel_rfl) (by kernel_rfl) (fun _ _ _ h => h) (Or.inl ⟨by kernel_rfl, fun w hSw => ?_⟩) (by assumption) ?_
    · (try dsimp only at hSw); go_simp <;> (try rfl)
    change wpAnyH _ _ _ _ _ _ _ (Act.put _ (some (4 : Nat)) (.bool true)) _
    simp only [Act.put, List.setIfInBounds_toArray, List.set_cons_zero, List.set_cons_succ]
    refine wpAnyH_done (by kernel_rfl) ?_ _
    go_wp2
    go_ret
    exact ⟨rfl, HXw3.out.drew⟩
  case true.false =>
    rw [hok] at hfw
    rw [hok2] at hgw
    generalize (fewP 1 f).1 = fm at *
    generalize (fewP 1 g).1 = gm at *
    unfold Fm.val at hfw hgw hs hr ht
    unfold Fm.val
    generalize f.org = fo at *
    generalize f.nd = fa at *
    generalize g.org = go at *
    generalize g.nd = ga at *
    have HW := Lib.hid hfw
    have HV := Lib.hid hgw
    clear hfw hgw h h' hok hok2 hs hr ht hfz
    have hB0 : Blk ((w.alloc (.cells #[.int .i64 fo, .int .i64 fa, .slice A n c] 33)).alloc (.cells #[.int .i64 go, .int .i64 ga, .slice B m e] 33)) w.heap.size 33 [.int .i64 fo, .int .i64 fa, .slice A n c] := (Blk.fresh rfl rfl).alloc _
    have hG0 : Blk ((w.alloc (.cells #[.int .i64 fo, .int .i64 fa, .slice A n c] 33)).alloc (.cells #[.int .i64 go, .int .i64 ga, .slice B m e] 33)) (w.heap.size + 1) 33 [.int .i64 go, .int .i64 ga, .slice B m e] := Blk.fresh (by simp) rfl
    have hX0 : Below w.heap.size w ((w.alloc (.cells #[.int .i64 fo, .int .i64 fa, .slice A n c] 33)).alloc (.cells #[.int .i64 go, .int .i64 ga, .slice B m e] 33)) := ((Below.refl _ w).alloc (Nat.le_refl _) _).alloc (by simp) _
    have HB0 := Lib.hid hB0
    have HG0 := Lib.hid hG0
    have HX0 := Lib.hid hX0
    clear hB0 hG0 hX0
    go_enter Try.func7, Try.ntmps7
    go_wp2_with (first
    | (go_at_call 20; (with_reducible refine (ffixed_any _).mono ?_); rintro ee w1 ⟨rfl, hb⟩; have HXw1 : Hid (Below w.heap.size w w1) := Lib.hid (HX0.out.trans (hb.mono (by simp; omega))); have HBw1 := Lib.hid (HB0.out.through hb); have HGw1 := Lib.hid (HG0.out.through hb); clear hb)
    | (refine wpList_load_blk rfl 33 (.tmp 2) rfl w.heap.size rfl 33 [.int .i64 fo, .int .i64 fa, .slice A n c] _ HBw1.out Try.underlying33 rfl (by kernel_rfl) ?_)
    | (go_at_call 21; (with_reducible refine (HW.out _ (HF.out.through HXw1.out)).mono ?_); rintro ee w2 ⟨rfl, hb⟩; have HXw2 := Lib.hid (HXw1.out.trans (hb.mono HXw1.out.size)); have HBw2 := Lib.hid (HBw1.out.through hb); have HGw2 := Lib.hid (HGw1.out.through hb); clear hb)
    | (refine wpList_load_blk rfl 33 (.tmp 3) rfl (w.heap.size + 1) rfl 33 [.int .i64 go, .int .i64 ga, .slice B m e] _ HGw2.out Try.underlying33 rfl (by kernel_rfl) ?_)
    | (go_at_call 21; (with_reducible refine (HV.out _ (HGI.out.through HXw2.out)).mono ?_); rintro ee w3 ⟨rfl, hb⟩; have HXw3 := Lib.hid (HXw2.out.trans (hb.mono HXw2.out.size)); have HBw3 := Lib.hid (HBw2.out.through hb); have HGw3 := Lib.hid (HGw2.out.through hb); clear hb))
    obtain ⟨bf, hbf⟩ : ∃ bf, bf = w.heap.size := ⟨_, rfl⟩
    obtain ⟨bg, hbg⟩ : ∃ bg, bg = w.heap.size + 1 := ⟨_, rfl⟩
    rw [← hbf] at HBw3
    rw [← hbg] at HGw3
    rw [← hbg, ← hbf]
    try dsimp only [Act.put]
    refine wp_region_held_drew (S := fun W => Blk W bf 33 [.int .i64 fo, .int .i64 fa, .slice A n c] ∧ Blk W bg 33 [.int .i64 go, .int .i64 ga, .slice B m e]) (by kernel_rfl) ⟨HBw3.out.drew, HGw3.out.drew⟩ (fun hHeld => ?_)
    change wpAnyH _ _ _ _ _ _ #[false, false, false, false, false, false, false, false, false, false, false, false, false, false, false, false, false, false, false, false, false] _ _
    refine wpAnyH_take (i := 0) (v := (.bool true)) rfl (by kernel_rfl) (by kernel_rfl) (by kernel_rfl) (fun _ _ _ h => h) (Or.inl ⟨by kernel_rfl, fun w hSw => ?_⟩) (by assumption) ?_
    · (try dsimp only at hSw); go_simp <;> (try rfl)
    change wpAnyH _ _ _ _ _ _ _ (Act.put _ (some (21 : Nat)) (.bool true)) _
    simp only [Act.put, List.setIfInBounds_toArray, List.set_cons_zero, List.set_cons_succ]
    refine wpAnyH_take (i := 1) (v := (.bool false)) rfl (by kernel_rfl) (by kernel_rfl) (by kernel_rfl) (fun _ _ _ h => h) (Or.inl ⟨by kernel_rfl, fun w hSw => ?_⟩) (by assumption) ?_
    · (try dsimp only at hSw); go_simp <;> (try rfl)
    change wpAnyH _ _ _ _ _ _ _ (Act.put _ (some (22 : Nat)) (.bool false)) _
    simp only [Act.put, List.setIfInBounds_toArray, List.set_cons_zero, List.set_cons_succ]
    refine wpAnyH_take (i := 2) (v := (.bool false)) rfl (by kernel_rfl) (by kernel_rfl) (by kernel_rfl) (fun _ _ _ h => h) (Or.inl ⟨by kernel_rfl, fun w hSw => ?_⟩) (by assumption) ?_
    · (try dsimp only at hSw); go_simp <;> (try rfl)
    change wpAnyH _ _ _ _ _ _ _ (Act.put _ (some (23 : Nat)) (.bool false)) _
    simp only [Act.put, List.setIfInBounds_toArray, List.set_cons_zero, List.set_cons_succ]
    refine wpAnyH_take (i := 3) (v := (.bool false)) rfl (by kernel_rfl) (by kernel_rfl) (by kernel_rfl) (fun _ _ _ h => h) (Or.inl ⟨by kernel_rfl, fun w hSw => ?_⟩) (by assumption) ?_
    · (try dsimp only at hSw); go_simp <;> (try rfl)
    change wpAnyH _ _ _ _ _ _ _ (Act.put _ (some (24 : Nat)) (.bool false)) _
    simp only [Act.put, List.setIfInBounds_toArray, List.set_cons_zero, List.set_cons_succ]
    refine wpAnyH_take (i := 4) (v := (.bool true)) rfl (by kernel_rfl) (by kernel_rfl) (by kernel_rfl) (fun _ _ _ h => h) (Or.inl ⟨by kernel_rfl, fun w hSw => ?_⟩) (by assumption) ?_
    · (try dsimp only at hSw); go_simp <;> (try rfl)
    change wpAnyH _ _ _ _ _ _ _ (Act.put _ (some (25 : Nat)) (.bool true)) _
    simp only [Act.put, List.setIfInBounds_toArray, List.set_cons_zero, List.set_cons_succ]
    refine wpAnyH_take (i := 5) (v := (.bool true)) rfl (by kernel_rfl) (by kernel_rfl) (by kernel_rfl) (fun _ _ _ h => h) (Or.inl ⟨by kernel_rfl, fun w hSw => ?_⟩) (by assumption) ?_
    · (try dsimp only at hSw); go_simp <;> (try rfl)
    change wpAnyH _ _ _ _ _ _ _ (Act.put _ (some (26 : Nat)) (.bool true)) _
    simp only [Act.put, List.setIfInBounds_toArray, List.set_cons_zero, List.set_cons_succ]
    refine wpAnyH_take (i := 6) (v := (.bool true)) rfl (by kernel_rfl) (by kernel_rfl) (by kernel_rfl) (fun _ _ _ h => h) (Or.inl ⟨by kernel_rfl, fun w hSw => ?_⟩) (by assumption) ?_
    · (try dsimp only at hSw); go_simp <;> (try rfl)
    change wpAnyH _ _ _ _ _ _ _ (Act.put _ (some (27 : Nat)) (.bool true)) _
    simp only [Act.put, List.setIfInBounds_toArray, List.set_cons_zero, List.set_cons_succ]
    refine wpAnyH_take (i := 7) (v := undef) rfl (by kernel_rfl) (by kernel_rfl) (by kernel_rfl) (fun _ _ _ h => h) (Or.inr ⟨by kernel_rfl, rfl⟩) (by assumption) ?_
    change wpAnyH _ _ _ _ _ _ _ (Act.put _ (some (28 : Nat)) undef) _
    simp only [Act.put, List.setIfInBounds_toArray, List.set_cons_zero, List.set_cons_succ]
    refine wpAnyH_take (i := 8) (v := undef) rfl (by kernel_rfl) (by kernel_rfl) (by kernel_rfl) (fun _ _ _ h => h) (Or.inr ⟨by kernel_rfl, rfl⟩) (by assumption) ?_
    change wpAnyH _ _ _ _ _ _ _ (Act.put _ (some (29 : Nat)) undef) _
    simp only [Act.put, List.setIfInBounds_toArray, List.set_cons_zero, List.set_cons_succ]
    refine wpAnyH_take (i := 9) (v := undef) rfl (by kernel_rfl) (by kernel_rfl) (by kernel_rfl) (fun _ _ _ h => h) (Or.inr ⟨by kernel_rfl, rfl⟩) (by assumption) ?_
    change wpAnyH _ _ _ _ _ _ _ (Act.put _ (some (30 : Nat)) undef) _
    simp only [Act.put, List.setIfInBounds_toArray, List.set_cons_zero, List.set_cons_succ]
    refine wpAnyH_take (i := 10) (v := undef) rfl (by kernel_rfl) (by kernel_rfl) (by kernel_rfl) (fun _ _ _ h => h) (Or.inr ⟨by kernel_rfl, rfl⟩) (by assumption) ?_
    change wpAnyH _ _ _ _ _ _ _ (Act.put _ (some (31 : Nat)) undef) _
    simp only [Act.put, List.setIfInBounds_toArray, List.set_cons_zero, List.set_cons_succ]
    refine wpAnyH_take (i := 11) (v := undef) rfl (by kernel_rfl) (by kernel_rfl) (by kernel_rfl) (fun _ _ _ h => h) (Or.inr ⟨by kernel_rfl, rfl⟩) (by assumption) ?_
    change wpAnyH _ _ _ _ _ _ _ (Act.put _ (some (32 : Nat)) undef) _
    simp only [Act.put, List.setIfInBounds_toArray, List.set_cons_zero, List.set_cons_succ]
    refine wpAnyH_take (i := 12) (v := undef) rfl (by kernel_rfl) (by kernel_rfl) (by kernel_rfl) (fun _ _ _ h => h) (Or.inr ⟨by kernel_rfl, rfl⟩) (by assumption) ?_
    change wpAnyH _ _ _ _ _ _ _ (Act.put _ (some (33 : Nat)) undef) _
    simp only [Act.put, List.setIfInBounds_toArray, List.set_cons_zero, List.set_cons_succ]
    refine wpAnyH_take (i := 13) (v := undef) rfl (by kernel_rfl) (by kernel_rfl) (by kernel_rfl) (fun _ _ _ h => h) (Or.inr ⟨by kernel_rfl, rfl⟩) (by assumption) ?_
    change wpAnyH _ _ _ _ _ _ _ (Act.put _ (some (34 : Nat)) undef) _
    simp only [Act.put, List.setIfInBounds_toArray, List.set_cons_zero, List.set_cons_succ]
    refine wpAnyH_take (i := 14) (v := undef) rfl (by kernel_rfl) (by kernel_rfl) (by kernel_rfl) (fun _ _ _ h => h) (Or.inr ⟨by kernel_rfl, rfl⟩) (by assumption) ?_
    change wpAnyH _ _ _ _ _ _ _ (Act.put _ (some (35 : Nat)) undef) _
    simp only [Act.put, List.setIfInBounds_toArray, List.set_cons_zero, List.set_cons_succ]
    refine wpAnyH_take (i := 15) (v := undef) rfl (by kernel_rfl) (by kernel_rfl) (by kernel_rfl) (fun _ _ _ h => h) (Or.inr ⟨by kernel_rfl, rfl⟩) (by assumption) ?_
    change wpAnyH _ _ _ _ _ _ _ (Act.put _ (some (36 : Nat)) undef) _
    simp only [Act.put, List.setIfInBounds_toArray, List.set_cons_zero, List.set_cons_succ]
    refine wpAnyH_take (i := 16) (v := undef) rfl (by kernel_rfl) (by kernel_rfl) (by kernel_rfl) (fun _ _ _ h => h) (Or.inr ⟨by kernel_rfl, rfl⟩) (by assumption) ?_
    change wpAnyH _ _ _ _ _ _ _ (Act.put _ (some (37 : Nat)) undef) _
    simp only [Act.put, List.setIfInBounds_toArray, List.set_cons_zero, List.set_cons_succ]
    refine wpAnyH_take (i := 17) (v := undef) rfl (by kernel_rfl) (by kernel_rfl) (by kernel_rfl) (fun _ _ _ h => h) (Or.inr ⟨by kernel_rfl, rfl⟩) (by assumption) ?_
    change wpAnyH _ _ _ _ _ _ _ (Act.put _ (some (38 : Nat)) undef) _
    simp only [Act.put, List.setIfInBounds_toArray, List.set_cons_zero, List.set_cons_succ]
    refine wpAnyH_take (i := 18) (v := undef) rfl (by kernel_rfl) (by kernel_rfl) (by kernel_rfl) (fun _ _ _ h => h) (Or.inr ⟨by kernel_rfl, rfl⟩) (by assumption) ?_
    change wpAnyH _ _ _ _ _ _ _ (Act.put _ (some (39 : Nat)) undef) _
    simp only [Act.put, List.setIfInBounds_toArray, List.set_cons_zero, List.set_cons_succ]
    refine wpAnyH_take (i := 19) (v := (.bool true)) rfl (by kernel_rfl) (by kernel_rfl) (by kernel_rfl) (fun _ _ _ h => h) (Or.inl ⟨by kernel_rfl, fun w hSw => ?_⟩) (by assumption) ?_
    · (try dsimp only at hSw); go_simp <;> (try rfl)
    change wpAnyH _ _ _ _ _ _ _ (Act.put _ (some (40 : Nat)) (.bool true)) _
    simp only [Act.put, List.setIfInBounds_toArray, List.set_cons_zero, List.set_cons_succ]
    refine wpAnyH_take (i := 20) (v := (.bool true)) rfl (by kernel_rfl) (by kernel_rfl) (by kernel_rfl) (fun _ _ _ h => h) (Or.inl ⟨by kernel_rfl, fun w hSw => ?_⟩) (by assumption) ?_
    · (try dsimp only at hSw); go_simp <;> (try rfl)
    change wpAnyH _ _ _ _ _ _ _ (Act.put _ (some (4 : Nat)) (.bool true)) _
    simp only [Act.put, List.setIfInBounds_toArray, List.set_cons_zero, List.set_cons_succ]
    refine wpAnyH_done (by kernel_rfl) ?_ _
    go_wp2
    go_ret
    exact ⟨rfl, HXw3.out.drew⟩
  case true.true =>
    rw [hok] at hfw
    rw [hok2] at hgw
    generalize (fewP 1 f).1 = fm at *
    generalize (fewP 1 g).1 = gm at *
    unfold Fm.val at hfw hgw hs hr ht
    unfold Fm.val
    generalize f.org = fo at *
    generalize f.nd = fa at *
    generalize g.org = go at *
    generalize g.nd = ga at *
    have HW := Lib.hid hfw
    have HV := Lib.hid hgw
    have HS := Lib.hid hs
    have HR := Lib.hid hr
    have HT := Lib.hid ht
    clear hfw hgw h h' hok hok2 hs hr ht hfz
    have hB0 : Blk ((w.alloc (.cells #[.int .i64 fo, .int .i64 fa, .slice A n c] 33)).alloc (.cells #[.int .i64 go, .int .i64 ga, .slice B m e] 33)) w.heap.size 33 [.int .i64 fo, .int .i64 fa, .slice A n c] := (Blk.fresh rfl rfl).alloc _
    have hG0 : Blk ((w.alloc (.cells #[.int .i64 fo, .int .i64 fa, .slice A n c] 33)).alloc (.cells #[.int .i64 go, .int .i64 ga, .slice B m e] 33)) (w.heap.size + 1) 33 [.int .i64 go, .int .i64 ga, .slice B m e] := Blk.fresh (by simp) rfl
    have hX0 : Below w.heap.size w ((w.alloc (.cells #[.int .i64 fo, .int .i64 fa, .slice A n c] 33)).alloc (.cells #[.int .i64 go, .int .i64 ga, .slice B m e] 33)) := ((Below.refl _ w).alloc (Nat.le_refl _) _).alloc (by simp) _
    have HB0 := Lib.hid hB0
    have HG0 := Lib.hid hG0
    have HX0 := Lib.hid hX0
    clear hB0 hG0 hX0
    go_enter Try.func7, Try.ntmps7
    go_wp2_with (first
    | (go_at_call 20; (with_reducible refine (ffixed_any _).mono ?_); rintro ee w1 ⟨rfl, hb⟩; have HXw1 : Hid (Below w.heap.size w w1) := Lib.hid (HX0.out.trans (hb.mono (by simp; omega))); have HBw1 := Lib.hid (HB0.out.through hb); have HGw1 := Lib.hid (HG0.out.through hb); clear hb)
    | (refine wpList_load_blk rfl 33 (.tmp 2) rfl w.heap.size rfl 33 [.int .i64 fo, .int .i64 fa, .slice A n c] _ HBw1.out Try.underlying33 rfl (by kernel_rfl) ?_)
    | (go_at_call 21; (with_reducible refine (HW.out _ (HF.out.through HXw1.out)).mono ?_); rintro ee w2 ⟨rfl, hb⟩; have HXw2 := Lib.hid (HXw1.out.trans (hb.mono HXw1.out.size)); have HBw2 := Lib.hid (HBw1.out.through hb); have HGw2 := Lib.hid (HGw1.out.through hb); clear hb)
    | (refine wpList_load_blk rfl 33 (.tmp 3) rfl (w.heap.size + 1) rfl 33 [.int .i64 go, .int .i64 ga, .slice B m e] _ HGw2.out Try.underlying33 rfl (by kernel_rfl) ?_)
    | (go_at_call 21; (with_reducible refine (HV.out _ (HGI.out.through HXw2.out)).mono ?_); rintro ee w3 ⟨rfl, hb⟩; have HXw3 := Lib.hid (HXw2.out.trans (hb.mono HXw2.out.size)); have HBw3 := Lib.hid (HBw2.out.through hb); have HGw3 := Lib.hid (HGw2.out.through hb); clear hb))
    obtain ⟨bf, hbf⟩ : ∃ bf, bf = w.heap.size := ⟨_, rfl⟩
    obtain ⟨bg, hbg⟩ : ∃ bg, bg = w.heap.size + 1 := ⟨_, rfl⟩
    rw [← hbf] at HBw3
    rw [← hbg] at HGw3
    rw [← hbg, ← hbf]
    try dsimp only [Act.put]
    refine wp_region_held_drew (S := fun W => Blk W bf 33 [.int .i64 fo, .int .i64 fa, .slice A n c] ∧ Blk W bg 33 [.int .i64 go, .int .i64 ga, .slice B m e]) (by kernel_rfl) ⟨HBw3.out.drew, HGw3.out.drew⟩ (fun hHeld => ?_)
    change wpAnyH _ _ _ _ _ _ #[false, false, false, false, false, false, false, false, false, false, false, false, false, false, false, false, false, false, false, false, false] _ _
    refine wpAnyH_take (i := 0) (v := (.bool true)) rfl (by kernel_rfl) (by kernel_rfl) (by kernel_rfl) (fun _ _ _ h => h) (Or.inl ⟨by kernel_rfl, fun w hSw => ?_⟩) (by assumption) ?_
    · (try dsimp only at hSw); go_simp <;> (try rfl)
    change wpAnyH _ _ _ _ _ _ _ (Act.put _ (some (21 : Nat)) (.bool true)) _
    simp only [Act.put, List.setIfInBounds_toArray, List.set_cons_zero, List.set_cons_succ]
    refine wpAnyH_take (i := 1) (v := (.bool false)) rfl (by kernel_rfl) (by kernel_rfl) (by kernel_rfl) (fun _ _ _ h => h) (Or.inl ⟨by kernel_rfl, fun w hSw => ?_⟩) (by assumption) ?_
    · (try dsimp only at hSw); go_simp <;> (try rfl)
    change wpAnyH _ _ _ _ _ _ _ (Act.put _ (some (22 : Nat)) (.bool false)) _
    simp only [Act.put, List.setIfInBounds_toArray, List.set_cons_zero, List.set_cons_succ]
    refine wpAnyH_take (i := 2) (v := (.bool false)) rfl (by kernel_rfl) (by kernel_rfl) (by kernel_rfl) (fun _ _ _ h => h) (Or.inl ⟨by kernel_rfl, fun w hSw => ?_⟩) (by assumption) ?_
    · (try dsimp only at hSw); go_simp <;> (try rfl)
    change wpAnyH _ _ _ _ _ _ _ (Act.put _ (some (23 : Nat)) (.bool false)) _
    simp only [Act.put, List.setIfInBounds_toArray, List.set_cons_zero, List.set_cons_succ]
    refine wpAnyH_take (i := 3) (v := (.bool true)) rfl (by kernel_rfl) (by kernel_rfl) (by kernel_rfl) (fun _ _ _ h => h) (Or.inl ⟨by kernel_rfl, fun w hSw => ?_⟩) (by assumption) ?_
    · (try dsimp only at hSw); go_simp <;> (try rfl)
    change wpAnyH _ _ _ _ _ _ _ (Act.put _ (some (24 : Nat)) (.bool true)) _
    simp only [Act.put, List.setIfInBounds_toArray, List.set_cons_zero, List.set_cons_succ]
    refine wpAnyH_take (i := 4) (v := (.bool false)) rfl (by kernel_rfl) (by kernel_rfl) (by kernel_rfl) (fun _ _ _ h => h) (Or.inl ⟨by kernel_rfl, fun w hSw => ?_⟩) (by assumption) ?_
    · (try dsimp only at hSw); go_simp <;> (try rfl)
    change wpAnyH _ _ _ _ _ _ _ (Act.put _ (some (25 : Nat)) (.bool false)) _
    simp only [Act.put, List.setIfInBounds_toArray, List.set_cons_zero, List.set_cons_succ]
    refine wpAnyH_take (i := 5) (v := (.bool false)) rfl (by kernel_rfl) (by kernel_rfl) (by kernel_rfl) (fun _ _ _ h => h) (Or.inl ⟨by kernel_rfl, fun w hSw => ?_⟩) (by assumption) ?_
    · (try dsimp only at hSw); go_simp <;> (try rfl)
    change wpAnyH _ _ _ _ _ _ _ (Act.put _ (some (26 : Nat)) (.bool false)) _
    simp only [Act.put, List.setIfInBounds_toArray, List.set_cons_zero, List.set_cons_succ]
    refine wpAnyH_take (i := 6) (v := (.bool false)) rfl (by kernel_rfl) (by kernel_rfl) (by kernel_rfl) (fun _ _ _ h => h) (Or.inl ⟨by kernel_rfl, fun w hSw => ?_⟩) (by assumption) ?_
    · (try dsimp only at hSw); go_simp <;> (try rfl)
    change wpAnyH _ _ _ _ _ _ _ (Act.put _ (some (27 : Nat)) (.bool false)) _
    simp only [Act.put, List.setIfInBounds_toArray, List.set_cons_zero, List.set_cons_succ]
    refine wpAnyH_take (i := 7) (v := (.agg [.int .i64 fo, .int .i64 fa, .slice A n c].toArray)) rfl (by kernel_rfl) (by kernel_rfl) (by kernel_rfl) (fun _ _ _ h => h) (yields_load_at (by kernel_rfl) 33 (.tmp 2) rfl (.pointer (some ⟨bf, 0, none⟩)) (by simp [Act.eval]) (.agg [.int .i64 fo, .int .i64 fa, .slice A n c].toArray) (fun W hW => hW.1.loadAt 33 _ Try.underlying33 rfl (by kernel_rfl))) (by assumption) ?_
    change wpAnyH _ _ _ _ _ _ _ (Act.put _ (some (28 : Nat)) (.agg [.int .i64 fo, .int .i64 fa, .slice A n c].toArray)) _
    simp only [Act.put, List.setIfInBounds_toArray, List.set_cons_zero, List.set_cons_succ]
    refine wpAnyH_take (i := 8) (v := (.agg [.int .i64 go, .int .i64 ga, .slice B m e].toArray)) rfl (by kernel_rfl) (by kernel_rfl) (by kernel_rfl) (fun _ _ _ h => h) (yields_load_at (by kernel_rfl) 33 (.tmp 3) rfl (.pointer (some ⟨bg, 0, none⟩)) (by simp [Act.eval]) (.agg [.int .i64 go, .int .i64 ga, .slice B m e].toArray) (fun W hW => hW.2.loadAt 33 _ Try.underlying33 rfl (by kernel_rfl))) (by assumption) ?_
    change wpAnyH _ _ _ _ _ _ _ (Act.put _ (some (29 : Nat)) (.agg [.int .i64 go, .int .i64 ga, .slice B m e].toArray)) _
    simp only [Act.put, List.setIfInBounds_toArray, List.set_cons_zero, List.set_cons_succ]
    refine wpAnyH_take (i := 10) (v := (.agg [.int .i64 fo, .int .i64 fa, .slice A n c].toArray)) rfl (by kernel_rfl) (by kernel_rfl) (by kernel_rfl) (fun _ _ _ h => h) (yields_load_at (by kernel_rfl) 33 (.tmp 2) rfl (.pointer (some ⟨bf, 0, none⟩)) (by simp [Act.eval]) (.agg [.int .i64 fo, .int .i64 fa, .slice A n c].toArray) (fun W hW => hW.1.loadAt 33 _ Try.underlying33 rfl (by kernel_rfl))) (by assumption) ?_
    change wpAnyH _ _ _ _ _ _ _ (Act.put _ (some (31 : Nat)) (.agg [.int .i64 fo, .int .i64 fa, .slice A n c].toArray)) _
    simp only [Act.put, List.setIfInBounds_toArray, List.set_cons_zero, List.set_cons_succ]
    refine wpAnyH_take (i := 11) (v := (.agg [.int .i64 go, .int .i64 ga, .slice B m e].toArray)) rfl (by kernel_rfl) (by kernel_rfl) (by kernel_rfl) (fun _ _ _ h => h) (yields_load_at (by kernel_rfl) 33 (.tmp 3) rfl (.pointer (some ⟨bg, 0, none⟩)) (by simp [Act.eval]) (.agg [.int .i64 go, .int .i64 ga, .slice B m e].toArray) (fun W hW => hW.2.loadAt 33 _ Try.underlying33 rfl (by kernel_rfl))) (by assumption) ?_
    change wpAnyH _ _ _ _ _ _ _ (Act.put _ (some (32 : Nat)) (.agg [.int .i64 go, .int .i64 ga, .slice B m e].toArray)) _
    simp only [Act.put, List.setIfInBounds_toArray, List.set_cons_zero, List.set_cons_succ]
    refine wpAnyH_ready (rs := [9]) (by kernel_rfl) (by simp) ?_
    refine AllReadyH.cons rfl (fun K hK => ?_) AllReadyH.nil
    go_simp
    refine (HS.out _ (HF.out.through HXw3.out).drew (HGI.out.through HXw3.out).drew).mono ?_
    rintro ee a1 ⟨rfl, hb⟩; have hb' : Below w3.heap.size w3 a1 := ⟨hb.os, hb.tape, hb.output, hb.size, hb.block⟩; have HXa1 := Lib.hid (HXw3.out.trans (hb'.mono HXw3.out.size)); have HBa1 := Lib.hid (HBw3.out.through hb'); have HGa1 := Lib.hid (HGw3.out.through hb'); clear hb hb'
    go_wp2_with fail
    refine hK.out _ _ ⟨HBa1.out, HGa1.out⟩ (fun hHeld1 => ?_)
    clear hHeld hK K
    have hHeld := hHeld1
    clear hHeld1
    refine wpAnyH_ready (rs := [12]) (by kernel_rfl) (by simp) ?_
    refine AllReadyH.cons rfl (fun K hK => ?_) AllReadyH.nil
    go_simp
    refine (HR.out _ (HF.out.through HXa1.out) (HGI.out.through HXa1.out)).mono ?_
    rintro ee a2 ⟨rfl, hb⟩; have hb' : Below a1.heap.size a1 a2 := ⟨hb.os, hb.tape, hb.output, hb.size, hb.block⟩; have HXa2 := Lib.hid (HXa1.out.trans (hb'.mono HXa1.out.size)); have HBa2 := Lib.hid (HBa1.out.through hb'); have HGa2 := Lib.hid (HGa1.out.through hb'); clear hb hb'
    go_wp2_with fail
    refine hK.out _ _ ⟨HBa2.out, HGa2.out⟩ (fun hHeld1 => ?_)
    clear hHeld hK K
    have hHeld := hHeld1
    clear hHeld1
    refine wpAnyH_take (i := 13) (v := (.bool true)) rfl (by kernel_rfl) (by kernel_rfl) (by kernel_rfl) (fun _ _ _ h => h) (Or.inl ⟨by kernel_rfl, fun w hSw => ?_⟩) (by assumption) ?_
    · (try dsimp only at hSw); go_simp <;> (try rfl)
    change wpAnyH _ _ _ _ _ _ _ (Act.put _ (some (34 : Nat)) (.bool true)) _
    simp only [Act.put, List.setIfInBounds_toArray, List.set_cons_zero, List.set_cons_succ]
    refine wpAnyH_take (i := 14) (v := (.bool true)) rfl (by kernel_rfl) (by kernel_rfl) (by kernel_rfl) (fun _ _ _ h => h) (Or.inl ⟨by kernel_rfl, fun w hSw => ?_⟩) (by assumption) ?_
    · (try dsimp only at hSw); go_simp <;> (try rfl)
    change wpAnyH _ _ _ _ _ _ _ (Act.put _ (some (35 : Nat)) (.bool true)) _
    simp only [Act.put, List.setIfInBounds_toArray, List.set_cons_zero, List.set_cons_succ]
    refine wpAnyH_take (i := 15) (v := (.agg [.int .i64 fo, .int .i64 fa, .slice A n c].toArray)) rfl (by kernel_rfl) (by kernel_rfl) (by kernel_rfl) (fun _ _ _ h => h) (yields_load_at (by kernel_rfl) 33 (.tmp 2) rfl (.pointer (some ⟨bf, 0, none⟩)) (by simp [Act.eval]) (.agg [.int .i64 fo, .int .i64 fa, .slice A n c].toArray) (fun W hW => hW.1.loadAt 33 _ Try.underlying33 rfl (by kernel_rfl))) (by assumption) ?_
    change wpAnyH _ _ _ _ _ _ _ (Act.put _ (some (36 : Nat)) (.agg [.int .i64 fo, .int .i64 fa, .slice A n c].toArray)) _
    simp only [Act.put, List.setIfInBounds_toArray, List.set_cons_zero, List.set_cons_succ]
    refine wpAnyH_take (i := 16) (v := (.agg [.int .i64 fo, .int .i64 fa, .slice A n c].toArray)) rfl (by kernel_rfl) (by kernel_rfl) (by kernel_rfl) (fun _ _ _ h => h) (yields_load_at (by kernel_rfl) 33 (.tmp 2) rfl (.pointer (some ⟨bf, 0, none⟩)) (by simp [Act.eval]) (.agg [.int .i64 fo, .int .i64 fa, .slice A n c].toArray) (fun W hW => hW.1.loadAt 33 _ Try.underlying33 rfl (by kernel_rfl))) (by assumption) ?_
    change wpAnyH _ _ _ _ _ _ _ (Act.put _ (some (37 : Nat)) (.agg [.int .i64 fo, .int .i64 fa, .slice A n c].toArray)) _
    simp only [Act.put, List.setIfInBounds_toArray, List.set_cons_zero, List.set_cons_succ]
    refine wpAnyH_ready (rs := [17]) (by kernel_rfl) (by simp) ?_
    refine AllReadyH.cons rfl (fun K hK => ?_) AllReadyH.nil
    go_simp
    refine (HT.out _ (HF.out.through HXa2.out)).mono ?_
    rintro ee a3 ⟨rfl, hb⟩; have hb' : Below a2.heap.size a2 a3 := ⟨hb.os, hb.tape, hb.output, hb.size, hb.block⟩; have HXa3 := Lib.hid (HXa2.out.trans (hb'.mono HXa2.out.size)); have HBa3 := Lib.hid (HBa2.out.through hb'); have HGa3 := Lib.hid (HGa2.out.through hb'); clear hb hb'
    go_wp2_with fail
    refine hK.out _ _ ⟨HBa3.out, HGa3.out⟩ (fun hHeld1 => ?_)
    clear hHeld hK K
    have hHeld := hHeld1
    clear hHeld1
    refine wpAnyH_take (i := 18) (v := (.bool true)) rfl (by kernel_rfl) (by kernel_rfl) (by kernel_rfl) (fun _ _ _ h => h) (Or.inl ⟨by kernel_rfl, fun w hSw => ?_⟩) (by assumption) ?_
    · (try dsimp only at hSw); go_simp <;> (try rfl)
    change wpAnyH _ _ _ _ _ _ _ (Act.put _ (some (39 : Nat)) (.bool true)) _
    simp only [Act.put, List.setIfInBounds_toArray, List.set_cons_zero, List.set_cons_succ]
    refine wpAnyH_take (i := 19) (v := (.bool true)) rfl (by kernel_rfl) (by kernel_rfl) (by kernel_rfl) (fun _ _ _ h => h) (Or.inl ⟨by kernel_rfl, fun w hSw => ?_⟩) (by assumption) ?_
    · (try dsimp only at hSw); go_simp <;> (try rfl)
    change wpAnyH _ _ _ _ _ _ _ (Act.put _ (some (40 : Nat)) (.bool true)) _
    simp only [Act.put, List.setIfInBounds_toArray, List.set_cons_zero, List.set_cons_succ]
    refine wpAnyH_take (i := 20) (v := (.bool true)) rfl (by kernel_rfl) (by kernel_rfl) (by kernel_rfl) (fun _ _ _ h => h) (Or.inl ⟨by kernel_rfl, fun w hSw => ?_⟩) (by assumption) ?_
    · (try dsimp only at hSw); go_simp <;> (try rfl)
    change wpAnyH _ _ _ _ _ _ _ (Act.put _ (some (4 : Nat)) (.bool true)) _
    simp only [Act.put, List.setIfInBounds_toArray, List.set_cons_zero, List.set_cons_succ]
    refine wpAnyH_done (by kernel_rfl) ?_ _
    go_wp2
    go_ret
    exact ⟨rfl, HXa3.out⟩

end Go.Proofs.Ytkildlonenjmaaa
