/-
  The program's ParseProposal.
-/
import Derived.Test.YtpngcdafamkhcaaVpD
import Derived.Test.YtpngcdafamkhcaaVoK
import Derived.Test.YtpngcdafamkhcaaBaG
namespace Go.Proofs.Ytpngcdafamkhcaa
open Go.RowKit


/-- what of a proposal is told, by the batch's own reading -/
theorem parsePr_prog {xs : List UInt8} {N : Int} (h : xs.length ≤ 1000000) (hb : badN N = false) :
    parsePr 1048576 xs N = finPr (sx 8 (nval 8 (some xs))) (sx 8 (nval 8 (nnext 8 (some xs)))) (rnext xs.length (nnext 8 (nnext 8 (some xs)))) (parseG (rval xs.length (nnext 8 (nnext 8 (some xs)))) N) := by
  have hrl : (rval xs.length (nnext 8 (nnext 8 (some xs)))).length ≤ 1048576 := Nat.le_trans (rval_stL _ _) (Nat.le_trans (nnext_stL _ _) (Nat.le_trans (nnext_stL _ _) (by simp only [stL]; omega)))
  rw [parsePr_free (m := 1048576) (m' := xs.length) N (by omega) (Nat.le_refl _), parseG_eq N hrl]
  unfold parsePr rdPr
  rw [if_neg (by simp [hb])]
set_option maxHeartbeats 16000000 in
set_option maxRecDepth 100000 in
theorem vparse_pr (xs : List UInt8) (N : Int) (A : Option Addr) (n c : Nat) (w : World) (h : By w (fun _ => True) A n xs) (hn : n ≤ 1000000) :
    Calls Try.prog 6 #[.slice A n c, .int .i64 N] w (PrOut w (parsePr 1048576 xs N).1 (parsePr 1048576 xs N).2) := by
  have hb0 := Try.build_pr0
  have HZ0 : Hid (Blk (w.alloc (.cells #[.int .i64 0, .int .i64 0, .slice none 0 0] 24)) w.heap.size 24 [.int .i64 0, .int .i64 0, .slice none 0 0]) := Lib.hid (Blk.fresh rfl rfl)
  have HX0 : Hid (Below w.heap.size w (w.alloc (.cells #[.int .i64 0, .int .i64 0, .slice none 0 0] 24))) := Lib.hid (below1_ w _)
  obtain ⟨P, hPP⟩ : ∃ P, parsePr 1048576 xs N = P := ⟨_, rfl⟩
  rw [hPP]
  obtain ⟨bn, hbn⟩ : ∃ b, badN N = b := ⟨_, rfl⟩
  have HSz : Hid (∀ W : World, Calls Try.prog 20 #[.int .i64 N] W fun e w' => e = .returned (.bool (!bn)) ∧ w' = W) := Lib.hid (fun W => hbn ▸ vsize_any N W)
  cases bn with
  | true =>
    have hP : P = (Pr.no, 1) := by rw [← hPP]; unfold parsePr; rw [if_pos hbn]
    subst hP
    clear hPP h hn hbn
    go_enter Try.func6, Try.ntmps6
    go_wp2_with (first
      | (go_at_call 20; (with_reducible refine (HSz.out _).mono ?_); rintro e ws ⟨rfl, rfl⟩)
      | (refine wpList_store_blk rfl 24 (.tmp 4) (.tmp 13) rfl w.heap.size [.int .i64 0, .int .i64 0, .slice none 0 0] rfl rfl 24 [.int .i64 0, .int .i64 0, .slice none 0 0] HZ0.out (by kernel_rfl) rfl (one3p _ _ _ _ _) ?_; intro wy hby hgy; have HBy := Lib.hid hby; have HXy : Hid (Below w.heap.size w wy) := Lib.hid (HX0.out.grown hgy HX0.out.size (fun k hk => by have := Option.some.inj hk; omega)); clear hby hgy))
    (try simp only [Exit.inBlock, Exit.then]); refine bodyPost_ret (results_cell_row_tmp1 rfl _ _ w.heap.size 24 _ (0, 0) _ rfl HBy.out Try.underlying24 rfl (by kernel_rfl)) rfl ?_
    exact ⟨none, 0, 0, rfl, EysIn.none_, HXy.out⟩
  | false =>
  have hln : xs.length = n := h.len
  have HRd : Hid (Calls Try.prog 21 #[.slice A n c] (w.alloc (.cells #[.int .i64 0, .int .i64 0, .slice none 0 0] 24)) fun e w' => ∃ g, e = .returned (.pointer (some ⟨g, 0, none⟩)) ∧ Rs (fun b => (w.alloc (.cells #[.int .i64 0, .int .i64 0, .slice none 0 0] 24)).heap.size ≤ b) w' g tR (some xs) ∧ Below (w.alloc (.cells #[.int .i64 0, .int .i64 0, .slice none 0 0] 24)).heap.size (w.alloc (.cells #[.int .i64 0, .int .i64 0, .slice none 0 0] 24)) w' ∧ (w.alloc (.cells #[.int .i64 0, .int .i64 0, .slice none 0 0] 24)).heap.size ≤ g) := Lib.hid (read_rs (h.through HX0.out) (by omega))
  have hPf : P = finPr (sx 8 (nval 8 (some xs))) (sx 8 (nval 8 (nnext 8 (some xs)))) (rnext n (nnext 8 (nnext 8 (some xs)))) (parseG (rval n (nnext 8 (nnext 8 (some xs)))) N) := by rw [← hPP, ← hln]; exact parsePr_prog (by omega) hbn
  have hrl : (rval n (nnext 8 (nnext 8 (some xs)))).length ≤ 1000000 := Nat.le_trans (rval_stL _ _) (Nat.le_trans (nnext_stL _ _) (Nat.le_trans (nnext_stL _ _) (by simp only [stL]; omega)))
  have Hk1 : Hid (∀ (Q : Nat → Prop) (g : Nat) (W : World), Rs Q W g tR (some xs) → Calls Try.prog 22 #[.pointer (some ⟨g, 0, none⟩)] W fun e w' => e = .returned (.int .i64 (sx 8 (nval 8 (some xs)))) ∧ Rs Q w' g tR (nnext 8 (some xs)) ∧ W.grownBy w' (some g)) := Lib.hid (fun Q g W h9 => vnum_any h9)
  have Hk2 : Hid (∀ (Q : Nat → Prop) (g : Nat) (W : World), Rs Q W g tR (nnext 8 (some xs)) → Calls Try.prog 22 #[.pointer (some ⟨g, 0, none⟩)] W fun e w' => e = .returned (.int .i64 (sx 8 (nval 8 (nnext 8 (some xs))))) ∧ Rs Q w' g tR (nnext 8 (nnext 8 (some xs))) ∧ W.grownBy w' (some g)) := Lib.hid (fun Q g W h9 => vnum_any h9)
  have HRow : Hid (∀ (Q : Nat → Prop) (g : Nat) (W : World), Rs Q W g tR (nnext 8 (nnext 8 (some xs))) → Calls Try.prog 24 #[.pointer (some ⟨g, 0, none⟩), .int .i64 n] W fun e w' => ∃ B m c, e = .returned (.slice B m c) ∧ By w' (fun _ => True) B m (rval n (nnext 8 (nnext 8 (some xs)))) ∧ Rs Q w' g tR (rnext n (nnext 8 (nnext 8 (some xs)))) ∧ W.grownBy w' (some g)) := Lib.hid (fun Q g W h9 => row_rs h9 n)
  have HPa : Hid (∀ (B : Option Addr) (m d : Nat) (W : World), By W (fun _ => True) B m (rval n (nnext 8 (nnext 8 (some xs)))) → Calls Try.prog 23 #[.slice B m d, .int .i64 N] W (EyOut W (parseG (rval n (nnext 8 (nnext 8 (some xs)))) N).1 (parseG (rval n (nnext 8 (nnext 8 (some xs)))) N).2)) := Lib.hid (fun B m d W h1 => parseB_any _ N B m d W h1 (by rw [← h1.len]; exact hrl))
  clear hrl
  generalize sx 8 (nval 8 (some xs)) = v1 at hPf Hk1
  generalize nnext 8 (some xs) = s1 at hPf Hk1 Hk2 HRow HPa
  generalize sx 8 (nval 8 s1) = v2 at hPf Hk2
  generalize nnext 8 s1 = s2 at hPf Hk2 HRow HPa
  generalize rval n s2 = rw_ at hPf HRow HPa
  generalize rnext n s2 = s3 at hPf HRow
  generalize parseG rw_ N = G at hPf HPa
  obtain ⟨es, eb⟩ := G
  simp only at HPa
  obtain ⟨q0, hq0⟩ : ∃ b, isW v1 = b := ⟨_, rfl⟩
  have HQ0 : Hid (∀ W : World, Calls Try.prog 28 #[.int .i64 v1] W fun e w' => e = .returned (.bool q0) ∧ w' = W) := Lib.hid (fun W => hq0 ▸ vview_any v1 W)
  obtain ⟨q1, hq1⟩ : ∃ b, isW v2 = b := ⟨_, rfl⟩
  have HQ1 : Hid (∀ W : World, Calls Try.prog 29 #[.int .i64 v2] W fun e w' => e = .returned (.bool q1) ∧ w' = W) := Lib.hid (fun W => hq1 ▸ vseq_any v2 W)
  obtain ⟨fo, hfo_⟩ : ∃ f, formE s3 = f := ⟨_, rfl⟩
  obtain ⟨rg, hrg⟩ : ∃ r, vrngE [q0, q1] = r := ⟨_, rfl⟩
  have HFo : Hid (∀ (Q : Nat → Prop) (g : Nat) (W : World), Rs Q W g tR s3 → Calls Try.prog 26 #[.pointer (some ⟨g, 0, none⟩)] W fun e w' => e = .returned (.int .i64 fo) ∧ w' = W) := Lib.hid (fun Q g W h9 => hfo_ ▸ vform_any h9)
  have HRg : Hid (∀ (W : World) (g : Nat), Blk W g 4 [.bool q0, .bool q1] → Calls Try.prog 27 #[.slice (some ⟨g, 0, none⟩) 2 2] W fun e w' => e = .returned (.int .i64 rg) ∧ w' = W) := Lib.hid (fun W g h9 => hrg ▸ vranges_any [q0, q1] g 2 W rfl (by omega) h9)
  by_cases he2 : eb = 2
  · have hP : P = (Pr.no, 2) := by rw [hPf]; unfold finPr; rw [if_pos (.inr he2)]
    have heq : (eb == 2) = true := by simpa using he2
    subst hP
    clear hPP h hn hbn hPf hq0 hq1 hfo_ hrg he2 hln
    go_enter Try.func6, Try.ntmps6
    go_wp2_with (first
      | (go_at_call 20; (with_reducible refine (HSz.out _).mono ?_); rintro e ws ⟨rfl, rfl⟩)
      | (go_at_call 21; (with_reducible refine HRd.out.mono ?_); rintro e w1 ⟨g, rfl, hr1, hb1, hg1⟩; have HR1 := Lib.hid hr1.lt_; have HGq : Hid (w.heap.size + 1 ≤ g) := Lib.hid (by simpa using hg1); have HGn : Hid (some w.heap.size ≠ some g) := Lib.hid (fun e => by have := Option.some.inj e; have := HGq.out; omega); have HX1 : Hid (Below w.heap.size w w1) := Lib.hid (below_step HX0.out hb1); have HZ1 := Lib.hid (HZ0.out.through hb1); have HS1 : Hid (w1.heap.size ≤ w1.heap.size) := Lib.hid (Nat.le_refl _); clear hr1 hb1 hg1)
      | (go_at_call 22; (with_reducible refine (Hk1.out _ _ _ HR1.out).mono ?_); rintro e w2 ⟨rfl, hr2, hg2⟩; have HR2 := Lib.hid hr2; have HX2 : Hid (Below w.heap.size w w2) := Lib.hid (HX1.out.grown hg2 HX1.out.size (fun k hk => by have := Option.some.inj hk; have := HGq.out; omega)); have HZ2 := Lib.hid (HZ1.out.grown hg2 HGn.out); have HS2 : Hid (w1.heap.size ≤ w2.heap.size) := Lib.hid (Nat.le_trans HS1.out hg2.size); clear hr2 hg2)
      | (go_at_call 22; (with_reducible refine (Hk2.out _ _ _ HR2.out).mono ?_); rintro e w3 ⟨rfl, hr3, hg3⟩; have HR3 := Lib.hid hr3; have HX3 : Hid (Below w.heap.size w w3) := Lib.hid (HX2.out.grown hg3 HX2.out.size (fun k hk => by have := Option.some.inj hk; have := HGq.out; omega)); have HZ3 := Lib.hid (HZ2.out.grown hg3 HGn.out); have HS3 : Hid (w1.heap.size ≤ w3.heap.size) := Lib.hid (Nat.le_trans HS2.out hg3.size); clear hr3 hg3)
      | (refine wpList_store_blk rfl 24 (.tmp 7) (.tmp 20) rfl w3.heap.size [.int .i64 v1, .int .i64 v2, .slice none 0 0] rfl rfl 24 [.int .i64 0, .int .i64 0, .slice none 0 0] (Blk.fresh rfl rfl) (by kernel_rfl) rfl (one3p _ _ _ _ _) ?_; intro wb hbb hgb; have HVg : Hid (g < w3.heap.size) := Lib.hid HR3.out.lt; obtain ⟨gv, hgv⟩ : ∃ gv, w3.heap.size = gv := ⟨_, rfl⟩; rw [hgv] at hbb HVg; have HVs : Hid (w1.heap.size ≤ gv) := Lib.hid (by rw [← hgv]; exact HS3.out); have HBb := Lib.hid hbb; have HXb : Hid (Below w.heap.size w wb) := Lib.hid (below_step HX3.out (below_new hgb)); have HRb := Lib.hid (HR3.out.below (below_new hgb)); have HZb := Lib.hid (HZ3.out.through (below_new hgb)); have HSb : Hid (gv + 1 ≤ wb.heap.size) := Lib.hid (by have h9 := hbb.lt; omega); clear hbb hgb)
      | (go_at_call 24; (with_reducible refine (HRow.out _ _ _ HRb.out).mono ?_); rintro e w5 ⟨Br, mr, cr, rfl, hy5, hr5, hg5⟩; have HY5 := Lib.hid hy5; have HR5 := Lib.hid hr5; have HX5 : Hid (Below w.heap.size w w5) := Lib.hid (HXb.out.grown hg5 HXb.out.size (fun k hk => by have := Option.some.inj hk; have := HGq.out; omega)); have HZ5 := Lib.hid (HZb.out.grown hg5 HGn.out); have HB5 := Lib.hid (HBb.out.grown hg5 (fun e => by have := Option.some.inj e; have := HVg.out; omega)); have HS5 : Hid (gv + 1 ≤ w5.heap.size) := Lib.hid (Nat.le_trans HSb.out hg5.size); clear hy5 hr5 hg5)
      | (go_at_call 23; (with_reducible refine (HPa.out _ _ _ _ HY5.out).mono ?_); rintro e w6 ⟨Ae, ke, ce, rfl, hi6, _, _, hb6, hf6⟩; have HI6 := Lib.hid hi6; have HF6 : Hid (∀ a, Ae = some a → gv + 1 ≤ a.block) := Lib.hid (fun a ha => Nat.le_trans HS5.out (hf6 a ha)); have HR6 := Lib.hid (HR5.out.below hb6); have HX6 := Lib.hid (below_step HX5.out hb6); have HZ6 := Lib.hid (HZ5.out.through hb6); have HB6 := Lib.hid (HB5.out.through hb6); clear hi6 hb6 hf6)
      | (refine wpList_store_blk rfl 24 (.tmp 4) (.tmp 32) rfl w.heap.size [.int .i64 0, .int .i64 0, .slice none 0 0] rfl rfl 24 [.int .i64 0, .int .i64 0, .slice none 0 0] HZ6.out (by kernel_rfl) rfl (one3p _ _ _ _ _) ?_; intro wy hby hgy; have HBy := Lib.hid hby; have HXy : Hid (Below w.heap.size w wy) := Lib.hid (HX6.out.grown hgy HX6.out.size (fun k hk => by have := Option.some.inj hk; omega)); clear hby hgy))
    (try simp only [Exit.inBlock, Exit.then]); refine bodyPost_ret (results_cell_row_tmp1 rfl _ _ w.heap.size 24 _ (0, 0) _ rfl HBy.out Try.underlying24 rfl (by kernel_rfl)) rfl ?_
    exact ⟨none, 0, 0, rfl, EysIn.none_, HXy.out⟩
  have heq : (eb == 2) = false := by simpa using he2
  have hU : ∀ (W : World) (g : Nat) (Ae : Option Addr) (ke ce B : Nat), Blk W g 33 [.int .i64 fo, .int .i64 rg, .int .i64 eb] → EysIn W Ae ke es → (∀ a, Ae = some a → B ≤ a.block) → Calls Try.prog 25 #[.agg ([.int .i64 v1, .int .i64 v2, .slice Ae ke ce] : List Value).toArray, .slice (some ⟨g, 0, none⟩) 3 3] W fun e w' => ∃ A9 k9 c9, e = .returned (.tuple #[.agg #[.int .i64 P.1.vw, .int .i64 P.1.sq, .slice A9 k9 c9], .int .i64 P.2]) ∧ EysIn w' A9 k9 P.1.es ∧ (∀ a, A9 = some a → B ≤ a.block) ∧ Below W.heap.size W w' := fun W g Ae ke ce B h9 hI hF => by
    refine (vunless_pr [.int .i64 v1, .int .i64 v2, .slice Ae ke ce] rfl (one3p _ _ _ _ _) [fo, rg, eb] g 3 W rfl (by omega) h9).mono fun e w' h8 => ?_
    obtain ⟨he, hb⟩ := h8
    rw [hPf]
    unfold finPr
    rw [← hfo_, ← hrg] at he
    unfold formE vrngE at he
    by_cases hst : s3 = some []
    · rw [if_pos hst] at he
      rw [if_neg (show ¬ (s3 ≠ some [] ∨ (es, eb).2 = 2) from fun h => h.elim (fun h => h hst) he2)]
      simp only [hq0, hq1]
      cases q0 with
      | false =>
        refine ⟨none, 0, 0, ?_, EysIn.none_, (fun a h => by cases h), hb⟩
        cases q1 <;> exact he
      | true =>
      cases q1 with
      | false => exact ⟨none, 0, 0, he, EysIn.none_, (fun a h => by cases h), hb⟩
      | true =>
        rw [if_neg (show ¬ ((true && true) = false) by decide)]
        by_cases h0 : eb = 0
        · subst h0
          exact ⟨Ae, ke, ce, he, hI.through hb, hF, hb⟩
        · have e9 : firstE [0, (if [true, true].contains false = true then 5 else 0), eb] = eb := by
            show firstE [0, 0, eb] = eb
            simp [firstE, h0]
          rw [e9, if_neg h0] at he
          rw [if_pos h0]
          exact ⟨none, 0, 0, he, EysIn.none_, (fun a h => by cases h), hb⟩
    · rw [if_neg hst] at he
      rw [if_pos (.inl hst)]
      exact ⟨none, 0, 0, he, EysIn.none_, (fun a h => by cases h), hb⟩
  have HU := Lib.hid hU
  clear hPP h hn hbn hPf hq0 hq1 hfo_ hrg he2 hln hU
  go_enter Try.func6, Try.ntmps6
  go_wp2_with (first
    | (go_at_call 20; (with_reducible refine (HSz.out _).mono ?_); rintro e ws ⟨rfl, rfl⟩)
    | (go_at_call 21; (with_reducible refine HRd.out.mono ?_); rintro e w1 ⟨g, rfl, hr1, hb1, hg1⟩; have HR1 := Lib.hid hr1.lt_; have HGq : Hid (w.heap.size + 1 ≤ g) := Lib.hid (by simpa using hg1); have HGn : Hid (some w.heap.size ≠ some g) := Lib.hid (fun e => by have := Option.some.inj e; have := HGq.out; omega); have HX1 : Hid (Below w.heap.size w w1) := Lib.hid (below_step HX0.out hb1); have HZ1 := Lib.hid (HZ0.out.through hb1); have HS1 : Hid (w1.heap.size ≤ w1.heap.size) := Lib.hid (Nat.le_refl _); clear hr1 hb1 hg1)
    | (go_at_call 22; (with_reducible refine (Hk1.out _ _ _ HR1.out).mono ?_); rintro e w2 ⟨rfl, hr2, hg2⟩; have HR2 := Lib.hid hr2; have HX2 : Hid (Below w.heap.size w w2) := Lib.hid (HX1.out.grown hg2 HX1.out.size (fun k hk => by have := Option.some.inj hk; have := HGq.out; omega)); have HZ2 := Lib.hid (HZ1.out.grown hg2 HGn.out); have HS2 : Hid (w1.heap.size ≤ w2.heap.size) := Lib.hid (Nat.le_trans HS1.out hg2.size); clear hr2 hg2)
    | (go_at_call 22; (with_reducible refine (Hk2.out _ _ _ HR2.out).mono ?_); rintro e w3 ⟨rfl, hr3, hg3⟩; have HR3 := Lib.hid hr3; have HX3 : Hid (Below w.heap.size w w3) := Lib.hid (HX2.out.grown hg3 HX2.out.size (fun k hk => by have := Option.some.inj hk; have := HGq.out; omega)); have HZ3 := Lib.hid (HZ2.out.grown hg3 HGn.out); have HS3 : Hid (w1.heap.size ≤ w3.heap.size) := Lib.hid (Nat.le_trans HS2.out hg3.size); clear hr3 hg3)
    | (refine wpList_store_blk rfl 24 (.tmp 7) (.tmp 20) rfl w3.heap.size [.int .i64 v1, .int .i64 v2, .slice none 0 0] rfl rfl 24 [.int .i64 0, .int .i64 0, .slice none 0 0] (Blk.fresh rfl rfl) (by kernel_rfl) rfl (one3p _ _ _ _ _) ?_; intro wb hbb hgb; have HVg : Hid (g < w3.heap.size) := Lib.hid HR3.out.lt; obtain ⟨gv, hgv⟩ : ∃ gv, w3.heap.size = gv := ⟨_, rfl⟩; rw [hgv] at hbb HVg; have HVs : Hid (w1.heap.size ≤ gv) := Lib.hid (by rw [← hgv]; exact HS3.out); have HBb := Lib.hid hbb; have HXb : Hid (Below w.heap.size w wb) := Lib.hid (below_step HX3.out (below_new hgb)); have HRb := Lib.hid (HR3.out.below (below_new hgb)); have HZb := Lib.hid (HZ3.out.through (below_new hgb)); have HSb : Hid (gv + 1 ≤ wb.heap.size) := Lib.hid (by have h9 := hbb.lt; omega); clear hbb hgb)
    | (go_at_call 24; (with_reducible refine (HRow.out _ _ _ HRb.out).mono ?_); rintro e w5 ⟨Br, mr, cr, rfl, hy5, hr5, hg5⟩; have HY5 := Lib.hid hy5; have HR5 := Lib.hid hr5; have HX5 : Hid (Below w.heap.size w w5) := Lib.hid (HXb.out.grown hg5 HXb.out.size (fun k hk => by have := Option.some.inj hk; have := HGq.out; omega)); have HZ5 := Lib.hid (HZb.out.grown hg5 HGn.out); have HB5 := Lib.hid (HBb.out.grown hg5 (fun e => by have := Option.some.inj e; have := HVg.out; omega)); have HS5 : Hid (gv + 1 ≤ w5.heap.size) := Lib.hid (Nat.le_trans HSb.out hg5.size); clear hy5 hr5 hg5)
    | (go_at_call 23; (with_reducible refine (HPa.out _ _ _ _ HY5.out).mono ?_); rintro e w6 ⟨Ae, ke, ce, rfl, hi6, _, _, hb6, hf6⟩; have HI6 := Lib.hid hi6; have HF6 : Hid (∀ a, Ae = some a → gv + 1 ≤ a.block) := Lib.hid (fun a ha => Nat.le_trans HS5.out (hf6 a ha)); have HR6 := Lib.hid (HR5.out.below hb6); have HX6 := Lib.hid (below_step HX5.out hb6); have HZ6 := Lib.hid (HZ5.out.through hb6); have HB6 := Lib.hid (HB5.out.through hb6); clear hi6 hb6 hf6)
    | (refine wpList_store_cell rfl 22 (.tmp 34) (.tmp 33) rfl gv 2 (by simp [Act.eval]) (.slice Ae ke ce) (by simp [Act.eval]) rfl rfl (fun w => by kernel_rfl) 24 [.int .i64 v1, .int .i64 v2, .slice none 0 0] HB6.out (by simp) ?_; intro w8 hb8 hg8; have HB8 : Hid (Blk w8 gv 24 [.int .i64 v1, .int .i64 v2, .slice Ae ke ce]) := Lib.hid hb8; have HI8 := Lib.hid (HI6.out.off hg8 (fun a ha => by have := HF6.out a ha; omega)); have HR8 := Lib.hid (HR6.out.other hg8 (fun b hb => by have := Option.some.inj hb; exact ⟨fun e => by have := HVg.out; omega, fun h9 => by have := HVs.out; omega⟩)); have HX8 : Hid (Below w.heap.size w w8) := Lib.hid (HX6.out.grown hg8 HX6.out.size (fun k hk => by have := Option.some.inj hk; have := HVg.out; have := HGq.out; omega)); have HZ8 := Lib.hid (HZ6.out.grown hg8 (fun e => by have := Option.some.inj e; have := HVg.out; have := HGq.out; omega)); clear hb8 hg8))
  try dsimp only [Act.put]
  have HNv : Hid (some gv ≠ some w.heap.size) := Lib.hid (fun e => by have := Option.some.inj e; have := HGq.out; have := HVg.out; omega)
  clear hgv
  refine wp_region_held_drew (S := fun W => w8.grownBy W (some w.heap.size)) (by kernel_rfl) (grown_drew (only_refl _ _)) (fun hHeld => ?_)
  change wpAnyH _ _ _ _ _ _ #[false, false, false, false, false, false, false, false, false, false, false, false, false, false, false, false, false, false] _ _
  refine wpAnyH_take (i := 0) (v := (.agg ([.int .i64 v1, .int .i64 v2, .slice Ae ke ce] : List Value).toArray)) rfl (by kernel_rfl) (by kernel_rfl) (by kernel_rfl) (fun _ _ _ h => h) (yieldsIf_load_mid (by kernel_rfl) 24 (.tmp 7) rfl gv 0 (by simp [Act.eval]) [.int .i64 v1, .int .i64 v2, .slice Ae ke ce] _ (fun W hW => (HB8.out.grown hW HNv.out).whole_) Try.underlying24 rfl (by kernel_rfl)) (by assumption) ?_
  change wpAnyH _ _ _ _ _ _ _ (Act.put _ (some (35 : Nat)) (.agg ([.int .i64 v1, .int .i64 v2, .slice Ae ke ce] : List Value).toArray)) _
  simp only [Act.put, List.setIfInBounds_toArray, List.set_cons_zero, List.set_cons_succ]
  refine wpAnyH_take (i := 1) (v := (.pointer (some ⟨g, 0, none⟩))) rfl (by kernel_rfl) (by kernel_rfl) (by kernel_rfl) (fun _ _ _ h => h) (Or.inl ⟨by kernel_rfl, fun w hSw => ?_⟩) (by assumption) ?_
  · (try dsimp only at hSw); go_simp <;> (try rfl)
  change wpAnyH _ _ _ _ _ _ _ (Act.put _ (some (36 : Nat)) (.pointer (some ⟨g, 0, none⟩))) _
  simp only [Act.put, List.setIfInBounds_toArray, List.set_cons_zero, List.set_cons_succ]
  refine wpAnyH_take (i := 3) (v := (.pointer (some ⟨gv, 0, none⟩))) rfl (by kernel_rfl) (by kernel_rfl) (by kernel_rfl) (fun _ _ _ h => h) (Or.inl ⟨by kernel_rfl, fun w hSw => ?_⟩) (by assumption) ?_
  · (try dsimp only at hSw); go_simp <;> (try rfl)
  change wpAnyH _ _ _ _ _ _ _ (Act.put _ (some (38 : Nat)) (.pointer (some ⟨gv, 0, none⟩))) _
  simp only [Act.put, List.setIfInBounds_toArray, List.set_cons_zero, List.set_cons_succ]
  refine wpAnyH_take (i := 4) (v := (.int .i64 v1)) rfl (by kernel_rfl) (by kernel_rfl) (by kernel_rfl) (fun _ _ _ h => h) (yields_load_at (by kernel_rfl) 2 (.tmp 38) rfl (.pointer (some ⟨gv, 0, none⟩)) (by simp [Act.eval]) (.int .i64 v1) (fun W hW => load_one' (Try.agg_i64 W) ((HB8.out.grown hW HNv.out).cellAt (i := 0) rfl))) (by assumption) ?_
  change wpAnyH _ _ _ _ _ _ _ (Act.put _ (some (39 : Nat)) (.int .i64 v1)) _
  simp only [Act.put, List.setIfInBounds_toArray, List.set_cons_zero, List.set_cons_succ]
  refine wpAnyH_take (i := 6) (v := (.pointer (some ⟨gv, 1, none⟩))) rfl (by kernel_rfl) (by kernel_rfl) (by kernel_rfl) (fun _ _ _ h => h) (Or.inl ⟨by kernel_rfl, fun w hSw => ?_⟩) (by assumption) ?_
  · (try dsimp only at hSw); go_simp <;> (try rfl)
  change wpAnyH _ _ _ _ _ _ _ (Act.put _ (some (41 : Nat)) (.pointer (some ⟨gv, 1, none⟩))) _
  simp only [Act.put, List.setIfInBounds_toArray, List.set_cons_zero, List.set_cons_succ]
  refine wpAnyH_take (i := 7) (v := (.int .i64 v2)) rfl (by kernel_rfl) (by kernel_rfl) (by kernel_rfl) (fun _ _ _ h => h) (yields_load_at (by kernel_rfl) 2 (.tmp 41) rfl (.pointer (some ⟨gv, 1, none⟩)) (by simp [Act.eval]) (.int .i64 v2) (fun W hW => load_one' (Try.agg_i64 W) ((HB8.out.grown hW HNv.out).cellAt (i := 1) rfl))) (by assumption) ?_
  change wpAnyH _ _ _ _ _ _ _ (Act.put _ (some (42 : Nat)) (.int .i64 v2)) _
  simp only [Act.put, List.setIfInBounds_toArray, List.set_cons_zero, List.set_cons_succ]
  refine wpAnyH_take (i := 11) (v := (.int .i64 eb)) rfl (by kernel_rfl) (by kernel_rfl) (by kernel_rfl) (fun _ _ _ h => h) (Or.inl ⟨by kernel_rfl, fun w hSw => ?_⟩) (by assumption) ?_
  · (try dsimp only at hSw); go_simp <;> (try rfl)
  change wpAnyH _ _ _ _ _ _ _ (Act.put _ (some (46 : Nat)) (.int .i64 eb)) _
  simp only [Act.put, List.setIfInBounds_toArray, List.set_cons_zero, List.set_cons_succ]
  refine wpAnyH_ready (rs := [2]) (by kernel_rfl) (by simp) ?_
  refine AllReadyH.cons rfl (fun K hK => ?_) AllReadyH.nil
  go_simp
  refine (HFo.out _ _ _ HR8.out.drew).mono ?_
  rintro e wf ⟨rfl, rfl⟩
  go_wp2_with fail
  refine hK.out _ _ hHeld (fun hHeld1 => ?_)
  clear hHeld hK K
  have hHeld := hHeld1
  clear hHeld1
  refine wpAnyH_ready (rs := [5]) (by kernel_rfl) (by simp) ?_
  refine AllReadyH.cons rfl (fun K hK => ?_) AllReadyH.nil
  go_simp
  refine (HQ0.out _).mono ?_
  rintro e wq0 ⟨rfl, rfl⟩
  go_wp2_with fail
  refine hK.out _ _ hHeld (fun hHeld1 => ?_)
  clear hHeld hK K
  have hHeld := hHeld1
  clear hHeld1
  refine wpAnyH_ready (rs := [8]) (by kernel_rfl) (by simp) ?_
  refine AllReadyH.cons rfl (fun K hK => ?_) AllReadyH.nil
  go_simp
  refine (HQ1.out _).mono ?_
  rintro e wq1 ⟨rfl, rfl⟩
  go_wp2_with fail
  refine hK.out _ _ hHeld (fun hHeld1 => ?_)
  clear hHeld hK K
  have hHeld := hHeld1
  clear hHeld1
  refine wpAnyH_ready (rs := [9]) (by kernel_rfl) (by simp) ?_
  refine AllReadyH.cons (o := ⟨some 44, .buildSlice 89 2 #[(0, .tmp 40), (1, .tmp 43)], _, _, _, none⟩) rfl (fun K hK => ?_) AllReadyH.nil
  refine step_build2_w rfl 89 4 (.tmp 40) (.tmp 43) rfl (.bool q0) (.bool q1) (by simp [Act.eval]) (by simp [Act.eval]) (Try.run_bbo2 q0 q1 _) ?_; intro gx wx hbx hxx; have HBx := Lib.hid hbx; have HIx := Lib.hid (EysIn.through (HI8.out.drewN 1) hxx); have HZx := Lib.hid (HZ8.out.drew.through hxx); have HXx := Lib.hid (below_step HX8.out.drew hxx); have HGx := Lib.hid (only_trans hHeld (only_below hxx)); clear hbx hxx
  refine hK.out _ _ HGx.out (fun hHeld1 => ?_)
  clear hHeld hK K
  have hHeld := hHeld1
  clear hHeld1
  change wpAnyH _ _ _ _ _ _ _ (Act.put _ (some (44 : Nat)) (.slice (some ⟨gx, 0, none⟩) 2 2)) _
  simp only [Act.put, List.setIfInBounds_toArray, List.set_cons_zero, List.set_cons_succ]
  refine wpAnyH_ready (rs := [10]) (by kernel_rfl) (by simp) ?_
  refine AllReadyH.cons rfl (fun K hK => ?_) AllReadyH.nil
  go_simp
  refine (HRg.out _ _ HBx.out).mono ?_
  rintro e wr ⟨rfl, rfl⟩
  go_wp2_with fail
  refine hK.out _ _ hHeld (fun hHeld1 => ?_)
  clear hHeld hK K
  have hHeld := hHeld1
  clear hHeld1
  refine wpAnyH_ready (rs := [12]) (by kernel_rfl) (by simp) ?_
  refine AllReadyH.cons (o := ⟨some 47, .buildSlice 88 3 #[(0, .tmp 37), (1, .tmp 45), (2, .tmp 46)], _, _, _, none⟩) rfl (fun K hK => ?_) AllReadyH.nil
  refine step_build3_w rfl 88 33 (.tmp 37) (.tmp 45) (.tmp 46) rfl (.int .i64 fo) (.int .i64 rg) (.int .i64 eb) (by simp [Act.eval]) (by simp [Act.eval]) (by simp [Act.eval]) (Try.run_ber3 fo rg eb _) ?_; intro gy wy hby hxy; have HBy := Lib.hid hby; have HIy := Lib.hid (HIx.out.through hxy); have HZy := Lib.hid (HZx.out.through hxy); have HXy := Lib.hid (below_step HXx.out hxy); have HGy := Lib.hid (only_trans hHeld (only_below hxy)); clear hby hxy
  refine hK.out _ _ HGy.out (fun hHeld1 => ?_)
  clear hHeld hK K
  have hHeld := hHeld1
  clear hHeld1
  change wpAnyH _ _ _ _ _ _ _ (Act.put _ (some (47 : Nat)) (.slice (some ⟨gy, 0, none⟩) 3 3)) _
  simp only [Act.put, List.setIfInBounds_toArray, List.set_cons_zero, List.set_cons_succ]
  refine wpAnyH_ready (rs := [13]) (by kernel_rfl) (by simp) ?_
  refine AllReadyH.cons rfl (fun K hK => ?_) AllReadyH.nil
  go_simp
  refine (HU.out _ _ _ _ _ _ HBy.out HIy.out HF6.out).mono ?_
  rintro e wu ⟨A9, k9, c9, rfl, hi9, hf9, hbu⟩; have HI9 := Lib.hid hi9; have HF9 := Lib.hid hf9; have HZu := Lib.hid (HZy.out.through hbu); have HXu := Lib.hid (below_step HXy.out hbu); have HGu := Lib.hid (only_trans hHeld (only_below hbu)); clear hi9 hf9 hbu
  go_wp2_with fail
  refine hK.out _ _ HGu.out (fun hHeld1 => ?_)
  clear hHeld hK K
  have hHeld := hHeld1
  clear hHeld1
  refine wpAnyH_take (i := 14) (v := (.agg ([.int .i64 P.1.vw, .int .i64 P.1.sq, .slice A9 k9 c9] : List Value).toArray)) rfl (by kernel_rfl) (by kernel_rfl) (by kernel_rfl) (fun _ _ _ h => h) (Or.inl ⟨by kernel_rfl, fun w hSw => ?_⟩) (by assumption) ?_
  · (try dsimp only at hSw); go_simp <;> (try rfl)
  change wpAnyH _ _ _ _ _ _ _ (Act.put _ (some (49 : Nat)) (.agg ([.int .i64 P.1.vw, .int .i64 P.1.sq, .slice A9 k9 c9] : List Value).toArray)) _
  simp only [Act.put, List.setIfInBounds_toArray, List.set_cons_zero, List.set_cons_succ]
  refine wpAnyH_take (i := 15) (v := (.int .i64 P.2)) rfl (by kernel_rfl) (by kernel_rfl) (by kernel_rfl) (fun _ _ _ h => h) (Or.inl ⟨by kernel_rfl, fun w hSw => ?_⟩) (by assumption) ?_
  · (try dsimp only at hSw); go_simp <;> (try rfl)
  change wpAnyH _ _ _ _ _ _ _ (Act.put _ (some (50 : Nat)) (.int .i64 P.2)) _
  simp only [Act.put, List.setIfInBounds_toArray, List.set_cons_zero, List.set_cons_succ]
  refine wpAnyH_ready (rs := [16]) (by kernel_rfl) (by simp) ?_
  refine AllReadyH.cons (o := ⟨none, .store 24 (.tmp 4) (.tmp 49), _, _, _, none⟩) rfl (fun K hK => ?_) AllReadyH.nil
  refine step_store_blk rfl 24 (.tmp 4) (.tmp 49) rfl w.heap.size [.int .i64 P.1.vw, .int .i64 P.1.sq, .slice A9 k9 c9] (by simp [Act.eval]) (by simp [Act.eval]) 24 [.int .i64 0, .int .i64 0, .slice none 0 0] HZu.out (by kernel_rfl) rfl (one3p _ _ _ _ _) ?_; intro wz hbz hgz; have HBz := Lib.hid hbz; have HIz := Lib.hid (HI9.out.off hgz (fun a ha => by have := HF9.out a ha; have := HVg.out; have := HGq.out; omega)); have HXz : Hid (Below w.heap.size w wz) := Lib.hid (HXu.out.grown hgz HXu.out.size (fun k hk => by have := Option.some.inj hk; omega)); have HGz := Lib.hid (only_trans hHeld hgz); clear hbz hgz
  refine hK.out _ _ HGz.out (fun hHeld1 => ?_)
  clear hHeld hK K
  have hHeld := hHeld1
  clear hHeld1
  change wpAnyH _ _ _ _ _ _ _ (Act.put _ none undef) _
  simp only [Act.put]
  refine wpAnyH_take (i := 17) (v := (.int .i64 P.2)) rfl (by kernel_rfl) (by kernel_rfl) (by kernel_rfl) (fun _ _ _ h => h) (Or.inl ⟨by kernel_rfl, fun w hSw => ?_⟩) (by assumption) ?_
  · (try dsimp only at hSw); go_simp <;> (try rfl)
  change wpAnyH _ _ _ _ _ _ _ (Act.put _ (some (5 : Nat)) (.int .i64 P.2)) _
  simp only [Act.put, List.setIfInBounds_toArray, List.set_cons_zero, List.set_cons_succ]
  refine wpAnyH_done (by kernel_rfl) ?_ _
  clear hHeld
  go_wp2_with fail
  (try simp only [Exit.inBlock, Exit.then])
  refine bodyPost_ret (results_cell_row_tmp1 rfl _ _ w.heap.size 24 _ (0, 0) _ rfl HBz.out Try.underlying24 rfl (by kernel_rfl)) rfl ?_
  exact ⟨A9, k9, c9, rfl, HIz.out, HXz.out⟩

end Go.Proofs.Ytpngcdafamkhcaa
