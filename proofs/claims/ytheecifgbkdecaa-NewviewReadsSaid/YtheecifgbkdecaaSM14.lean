/-
  RqB
-/
import Derived.Test.YtheecifgbkdecaaSM8
import Derived.Test.YtheecifgbkdecaaSM10
import Derived.Test.YtheecifgbkdecaaSMT
namespace Go.Proofs.Ytheecifgbkdecaa
open Go.RowKit

set_option maxHeartbeats 16000000 in
set_option maxRecDepth 100000 in
theorem parseCr_any (xs : List UInt8) (N : Int) (A : Option Addr) (n c : Nat) (w : World) (h : By w (fun _ => True) A n xs) (hn : n ≤ 1000000) :
  Calls Try.prog 109 #[.slice A n c, .int .i64 N] w fun e w' => e = .returned (.tuple #[.agg #[.int .i64 (parseCr n xs N).1.cl, .int .i64 (parseCr n xs N).1.sp, .int .i64 (parseCr n xs N).1.op, .string (ba (parseCr n xs N).1.lt), .int .i64 (parseCr n xs N).1.a, .int .i64 (parseCr n xs N).1.b, .string (ba (parseCr n xs N).1.tx)], .int .i64 (parseCr n xs N).2]) ∧ Below w.heap.size w w' := by
 have hz := Try.zero_cr
 have hb0 := Try.build_cr
 have HRe0 : Hid (∀ W, By W (fun _ => True) A n xs → Calls Try.prog 44 #[.slice A n c] W fun e w' => ∃ g, e = .returned (.pointer (some ⟨g, 0, none⟩)) ∧ Rs (fun b => W.heap.size ≤ b) w' g tR (some xs) ∧ Below W.heap.size W w' ∧ W.heap.size ≤ g) := Lib.hid (fun W hY => read_rs hY (by omega))
 have HY0 := Lib.hid (h.alloc (.cells #[.int .i64 0, .int .i64 0, .int .i64 0, .string (ba []), .int .i64 0, .int .i64 0, .string (ba [])] 58))
 have HZ0 : Hid (Blk (w.alloc (.cells #[.int .i64 0, .int .i64 0, .int .i64 0, .string (ba []), .int .i64 0, .int .i64 0, .string (ba [])] 58)) w.heap.size 58 [.int .i64 0, .int .i64 0, .int .i64 0, .string (ba []), .int .i64 0, .int .i64 0, .string (ba [])]) := Lib.hid (Blk.fresh rfl rfl)
 have hxl : xs.length ≤ 1000000 := by rw [h.len]; exact hn
 obtain ⟨P, hP⟩ : ∃ P, parseCr n xs N = P := ⟨_, rfl⟩
 rw [hP]
 obtain ⟨c0, hc0⟩ : ∃ c0, (rdCr n (some xs)).1 = c0 := ⟨_, rfl⟩
 obtain ⟨st, hst0⟩ : ∃ st, (rdCr n (some xs)).2 = st := ⟨_, rfl⟩
 have hlt : c0.lt.length ≤ 1000000 := by rw [← hc0]; exact Nat.le_trans (rval_stL _ _) (Nat.le_trans (nnext_stL _ _) (Nat.le_trans (nnext_stL _ _) (Nat.le_trans (nnext_stL _ _) hxl)))
 have hpp : P = if st = some [] then (if chkC c0 N = 0 then (c0, 0) else (Cr.no, chkC c0 N)) else (Cr.no, 2) := by
  rw [← hP]
  unfold parseCr
  rw [hc0, hst0]
 have HPP := Lib.hid hpp
 have HC0 := Lib.hid hc0
 have HST0 := Lib.hid hst0
 have hck := fun W : World => chkC_any c0 N W (Nat.le_trans hlt (by omega))
 have HCk0 := Lib.hid hck
 clear h hP hc0 hst0 hpp hck hlt hxl
 go_enter Try.func109, Try.ntmps109
 go_upto_region 2 with (go_at_call 44; (with_reducible refine (HRe0.out _ HY0.out).mono ?_); rintro e w1 ⟨g, rfl, hr1, hb1, hg1⟩; have HX2 : Hid (Below w.heap.size w w1) := Lib.hid (below_step (below1_ w (.cells #[.int .i64 0, .int .i64 0, .int .i64 0, .string (ba []), .int .i64 0, .int .i64 0, .string (ba [])] 58)) hb1); have HR := Lib.hid hr1.lt_; have HGg : Hid (w.heap.size + 1 ≤ g) := Lib.hid (by simpa using hg1); have HZ2 := Lib.hid (HZ0.out.through hb1); clear hr1 hb1 hg1)
 generalize hwr : w1 = wr at *
 clear hwr
 go_cut [7] from 11 to 36 (fun v wx => ∃ gz : Nat, v = .pointer (some ⟨gz, 0, none⟩) ∧ Blk wx gz 58 [.int .i64 c0.cl, .int .i64 c0.sp, .int .i64 c0.op, .string (ba c0.lt), .int .i64 c0.a, .int .i64 c0.b, .string (ba c0.tx)] ∧ Rs (fun b => b < wr.heap.size) wx g tR st ∧ wr.heap.size ≤ gz ∧ Blk wx w.heap.size 58 [.int .i64 0, .int .i64 0, .int .i64 0, .string (ba []), .int .i64 0, .int .i64 0, .string (ba [])] ∧ Below w.heap.size w wx)
 case first =>
  refine wp_region_held_drew (S := fun W => wr.grownBy W (some g)) (by kernel_rfl) (only_below (Below.refl _ _).drew) (fun hHeld => ?_)
  change wpAnyH _ _ _ _ _ _ #[false, false, false, false, false, false, false, false, false, false, false, false, false, false, false, false, false, false, false, false, false, false, false, false, false, false, false, false] _ _
  refine tkq (i := 0) (d := 11) (v := (.pointer (some ⟨g, 0, none⟩))) rfl rfl (Or.inl ⟨by kernel_rfl, fun w hSw => ?_⟩) (by assumption) ?_
  ·(try dsimp only at hSw); go_simp <;> (try rfl)
  simp only [Act.put, sq1, sq2, sq3]
  refine tkq (i := 3) (d := 14) (v := (.pointer (some ⟨g, 0, none⟩))) rfl rfl (Or.inl ⟨by kernel_rfl, fun w hSw => ?_⟩) (by assumption) ?_
  ·(try dsimp only at hSw); go_simp <;> (try rfl)
  simp only [Act.put, sq1, sq2, sq3]
  refine tkq (i := 6) (d := 17) (v := (.pointer (some ⟨g, 0, none⟩))) rfl rfl (Or.inl ⟨by kernel_rfl, fun w hSw => ?_⟩) (by assumption) ?_
  ·(try dsimp only at hSw); go_simp <;> (try rfl)
  simp only [Act.put, sq1, sq2, sq3]
  refine tkq (i := 9) (d := 20) (v := (.pointer (some ⟨g, 0, none⟩))) rfl rfl (Or.inl ⟨by kernel_rfl, fun w hSw => ?_⟩) (by assumption) ?_
  ·(try dsimp only at hSw); go_simp <;> (try rfl)
  simp only [Act.put, sq1, sq2, sq3]
  refine tkq (i := 10) (d := 21) (v := (.slice A n c)) rfl rfl (Or.inl ⟨by kernel_rfl, fun w hSw => ?_⟩) (by assumption) ?_
  ·(try dsimp only at hSw); go_simp <;> (try rfl)
  simp only [Act.put, sq1, sq2, sq3]
  refine tkq (i := 11) (d := 22) (v := (.int .i64 (n : Int))) rfl rfl (Or.inl ⟨by kernel_rfl, fun w hSw => ?_⟩) (by assumption) ?_
  ·(try dsimp only at hSw); go_simp <;> (try rfl)
  simp only [Act.put, sq1, sq2, sq3]
  refine tkq (i := 14) (d := 25) (v := (.pointer (some ⟨g, 0, none⟩))) rfl rfl (Or.inl ⟨by kernel_rfl, fun w hSw => ?_⟩) (by assumption) ?_
  ·(try dsimp only at hSw); go_simp <;> (try rfl)
  simp only [Act.put, sq1, sq2, sq3]
  refine tkq (i := 17) (d := 28) (v := (.pointer (some ⟨g, 0, none⟩))) rfl rfl (Or.inl ⟨by kernel_rfl, fun w hSw => ?_⟩) (by assumption) ?_
  ·(try dsimp only at hSw); go_simp <;> (try rfl)
  simp only [Act.put, sq1, sq2, sq3]
  refine tkq (i := 20) (d := 31) (v := (.pointer (some ⟨g, 0, none⟩))) rfl rfl (Or.inl ⟨by kernel_rfl, fun w hSw => ?_⟩) (by assumption) ?_
  ·(try dsimp only at hSw); go_simp <;> (try rfl)
  simp only [Act.put, sq1, sq2, sq3]
  refine tkq (i := 21) (d := 32) (v := (.slice A n c)) rfl rfl (Or.inl ⟨by kernel_rfl, fun w hSw => ?_⟩) (by assumption) ?_
  ·(try dsimp only at hSw); go_simp <;> (try rfl)
  simp only [Act.put, sq1, sq2, sq3]
  refine tkq (i := 22) (d := 33) (v := (.int .i64 (n : Int))) rfl rfl (Or.inl ⟨by kernel_rfl, fun w hSw => ?_⟩) (by assumption) ?_
  ·(try dsimp only at hSw); go_simp <;> (try rfl)
  simp only [Act.put, sq1, sq2, sq3]
  refine wpAnyH_ready (rs := [1, 26]) (by kernel_rfl) (by simp) ?_
  refine AllReadyH.cons rfl (fun K hK => ?_) (AllReadyH.cons (o := ⟨some 7, .alloc 58, _, _, _, none⟩) rfl (fun K hK => ?_) AllReadyH.nil)
  ·as_aux_lemma =>
   go_simp
   refine (number_rs (HR.out.drew) 1 rfl).mono ?_
   rintro e wa0 ⟨rfl, hr0, hg0⟩; have HRa0 := Lib.hid hr0; have HGa0 := Lib.hid hg0; clear hr0 hg0
   go_wp2_with fail
   refine hK.out _ _ (only_trans hHeld HGa0.out) (fun hHeld1 => ?_)
   clear hHeld hK K
   have hHeld := hHeld1
   clear hHeld1
   refine tkq (i := 2) (d := 13) (v := (.int .i64 ((nval 1 (some xs) : Nat) : Int))) rfl rfl (yields_conv (by kernel_rfl) 70 3 (.tmp 12) rfl (.int .u64 ((nval 1 (some xs) : Nat) : Int)) (by simp [Act.eval]) (.int .i64 ((nval 1 (some xs) : Nat) : Int)) (fun W _ => conv_small 70 3 Try.underlying70 Try.underlying3 _ (by have := nval_lt 1 (some xs); simp only [e1] at this; omega) W)) (by assumption) ?_
   simp only [Act.put, sq1, sq2, sq3]
   refine wpAnyH_ready (rs := [4, 26]) (by kernel_rfl) (by simp) ?_
   refine AllReadyH.cons rfl (fun K hK => ?_) (AllReadyH.cons (o := ⟨some 7, .alloc 58, _, _, _, none⟩) rfl (fun K hK => ?_) AllReadyH.nil)
   ·as_aux_lemma =>
    go_simp
    refine (number_rs (HRa0.out) 8 rfl).mono ?_
    rintro e wa1 ⟨rfl, hr1, hg1⟩; have HRa1 := Lib.hid hr1; have HGa1 := Lib.hid hg1; clear hr1 hg1
    go_wp2_with fail
    refine hK.out _ _ (only_trans hHeld HGa1.out) (fun hHeld1 => ?_)
    clear hHeld hK K
    have hHeld := hHeld1
    clear hHeld1
    refine tkq (i := 5) (d := 16) (v := (.int .i64 (sx 8 (nval 8 (nnext 1 (some xs)))))) rfl rfl (yields_conv (by kernel_rfl) 70 2 (.tmp 15) rfl (.int .u64 ((nval 8 (nnext 1 (some xs)) : Nat) : Int)) (by simp [Act.eval]) (.int .i64 (sx 8 (nval 8 (nnext 1 (some xs))))) (fun W _ => conv_i64 70 2 Try.underlying70 Try.underlying2 _ (by have := nval_lt 8 (nnext 1 (some xs)); simp only [e8] at this; omega) W)) (by assumption) ?_
    simp only [Act.put, sq1, sq2, sq3]
    refine wpAnyH_ready (rs := [7, 26]) (by kernel_rfl) (by simp) ?_
    refine AllReadyH.cons rfl (fun K hK => ?_) (AllReadyH.cons (o := ⟨some 7, .alloc 58, _, _, _, none⟩) rfl (fun K hK => ?_) AllReadyH.nil)
    ·as_aux_lemma =>
     go_simp
     refine (number_rs (HRa1.out) 1 rfl).mono ?_
     rintro e wa2 ⟨rfl, hr2, hg2⟩; have HRa2 := Lib.hid hr2; have HGa2 := Lib.hid hg2; clear hr2 hg2
     go_wp2_with fail
     refine hK.out _ _ (only_trans hHeld HGa2.out) (fun hHeld1 => ?_)
     clear hHeld hK K
     have hHeld := hHeld1
     clear hHeld1
     refine tkq (i := 8) (d := 19) (v := (.int .i64 ((nval 1 (nnext 8 (nnext 1 (some xs))) : Nat) : Int))) rfl rfl (yields_conv (by kernel_rfl) 70 3 (.tmp 18) rfl (.int .u64 ((nval 1 (nnext 8 (nnext 1 (some xs))) : Nat) : Int)) (by simp [Act.eval]) (.int .i64 ((nval 1 (nnext 8 (nnext 1 (some xs))) : Nat) : Int)) (fun W _ => conv_small 70 3 Try.underlying70 Try.underlying3 _ (by have := nval_lt 1 (nnext 8 (nnext 1 (some xs))); simp only [e1] at this; omega) W)) (by assumption) ?_
     simp only [Act.put, sq1, sq2, sq3]
     refine wpAnyH_ready (rs := [12, 26]) (by kernel_rfl) (by simp) ?_
     refine AllReadyH.cons rfl (fun K hK => ?_) (AllReadyH.cons (o := ⟨some 7, .alloc 58, _, _, _, none⟩) rfl (fun K hK => ?_) AllReadyH.nil)
     ·as_aux_lemma =>
      go_simp
      refine (row_rs (HRa2.out) n).mono ?_
      rintro e wa3 ⟨Ba3, ma3, ca3, rfl, hy3, hr3, hg3⟩; have HRa3 := Lib.hid hr3; have HGa3 := Lib.hid hg3; have HYa3 := Lib.hid hy3; clear hr3 hg3 hy3
      go_wp2_with fail
      refine hK.out _ _ (only_trans hHeld HGa3.out) (fun hHeld1 => ?_)
      clear hHeld hK K
      have hHeld := hHeld1
      clear hHeld1
      refine wpAnyH_weaken (S' := fun W => (wr.grownBy W (some g)) ∧ By W (fun _ => True) Ba3 ma3 (rval n (nnext 1 (nnext 8 (nnext 1 (some xs)))))) (fun W h => h.1) _ _ _ _ ?_
      have hHeld2 := And.intro hHeld HYa3.out
      clear hHeld
      have hHeld := hHeld2
      clear hHeld2
      refine tkq (i := 13) (d := 24) (v := (.string (ba (rval n (nnext 1 (nnext 8 (nnext 1 (some xs)))))))) rfl rfl (yields_conv (by kernel_rfl) 28 9 (.tmp 23) rfl (.slice Ba3 ma3 ca3) (by simp [Act.eval]) (.string (ba (rval n (nnext 1 (nnext 8 (nnext 1 (some xs))))))) (fun W hW => run_string_by W 28 9 5 Try.underlying28 Try.underlying5 Try.underlying9 _ _ _ _ _ hW.2)) (by assumption) ?_
      simp only [Act.put, sq1, sq2, sq3]
      refine wpAnyH_ready (rs := [15, 26]) (by kernel_rfl) (by simp) ?_
      refine AllReadyH.cons rfl (fun K hK => ?_) (AllReadyH.cons (o := ⟨some 7, .alloc 58, _, _, _, none⟩) rfl (fun K hK => ?_) AllReadyH.nil)
      ·as_aux_lemma =>
       go_simp
       refine (number_rs (HRa3.out) 8 rfl).mono ?_
       rintro e wa4 ⟨rfl, hr4, hg4⟩; have HRa4 := Lib.hid hr4; have HGa4 := Lib.hid hg4; clear hr4 hg4
       go_wp2_with fail
       refine hK.out _ _ ⟨(only_trans hHeld.1 HGa4.out), (HRa3.out).by_keep hHeld.2 HGa4.out⟩ (fun hHeld1 => ?_)
       clear hHeld hK K
       have hHeld := hHeld1
       clear hHeld1
       refine tkq (i := 16) (d := 27) (v := (.int .i64 (sx 8 (nval 8 (rnext n (nnext 1 (nnext 8 (nnext 1 (some xs))))))))) rfl rfl (yields_conv (by kernel_rfl) 70 2 (.tmp 26) rfl (.int .u64 ((nval 8 (rnext n (nnext 1 (nnext 8 (nnext 1 (some xs))))) : Nat) : Int)) (by simp [Act.eval]) (.int .i64 (sx 8 (nval 8 (rnext n (nnext 1 (nnext 8 (nnext 1 (some xs)))))))) (fun W _ => conv_i64 70 2 Try.underlying70 Try.underlying2 _ (by have := nval_lt 8 (rnext n (nnext 1 (nnext 8 (nnext 1 (some xs))))); simp only [e8] at this; omega) W)) (by assumption) ?_
       simp only [Act.put, sq1, sq2, sq3]
       refine wpAnyH_ready (rs := [18, 26]) (by kernel_rfl) (by simp) ?_
       refine AllReadyH.cons rfl (fun K hK => ?_) (AllReadyH.cons (o := ⟨some 7, .alloc 58, _, _, _, none⟩) rfl (fun K hK => ?_) AllReadyH.nil)
       ·as_aux_lemma =>
        go_simp
        refine (number_rs (HRa4.out) 8 rfl).mono ?_
        rintro e wa5 ⟨rfl, hr5, hg5⟩; have HRa5 := Lib.hid hr5; have HGa5 := Lib.hid hg5; clear hr5 hg5
        go_wp2_with fail
        refine hK.out _ _ ⟨(only_trans hHeld.1 HGa5.out), (HRa4.out).by_keep hHeld.2 HGa5.out⟩ (fun hHeld1 => ?_)
        clear hHeld hK K
        have hHeld := hHeld1
        clear hHeld1
        refine tkq (i := 19) (d := 30) (v := (.int .i64 (sx 8 (nval 8 (nnext 8 (rnext n (nnext 1 (nnext 8 (nnext 1 (some xs)))))))))) rfl rfl (yields_conv (by kernel_rfl) 70 2 (.tmp 29) rfl (.int .u64 ((nval 8 (nnext 8 (rnext n (nnext 1 (nnext 8 (nnext 1 (some xs)))))) : Nat) : Int)) (by simp [Act.eval]) (.int .i64 (sx 8 (nval 8 (nnext 8 (rnext n (nnext 1 (nnext 8 (nnext 1 (some xs))))))))) (fun W _ => conv_i64 70 2 Try.underlying70 Try.underlying2 _ (by have := nval_lt 8 (nnext 8 (rnext n (nnext 1 (nnext 8 (nnext 1 (some xs)))))); simp only [e8] at this; omega) W)) (by assumption) ?_
        simp only [Act.put, sq1, sq2, sq3]
        refine wpAnyH_ready (rs := [23, 26]) (by kernel_rfl) (by simp) ?_
        refine AllReadyH.cons rfl (fun K hK => ?_) (AllReadyH.cons (o := ⟨some 7, .alloc 58, _, _, _, none⟩) rfl (fun K hK => ?_) AllReadyH.nil)
        ·as_aux_lemma =>
         go_simp
         refine (row_rs (HRa5.out) n).mono ?_
         rintro e wa6 ⟨Ba6, ma6, ca6, rfl, hy6, hr6, hg6⟩; have HRa6 := Lib.hid hr6; have HGa6 := Lib.hid hg6; have HYa6 := Lib.hid hy6; clear hr6 hg6 hy6
         go_wp2_with fail
         refine hK.out _ _ ⟨(only_trans hHeld.1 HGa6.out), (HRa5.out).by_keep hHeld.2 HGa6.out⟩ (fun hHeld1 => ?_)
         clear hHeld hK K
         have hHeld := hHeld1
         clear hHeld1
         refine wpAnyH_weaken (S' := fun W => ((wr.grownBy W (some g)) ∧ By W (fun _ => True) Ba3 ma3 (rval n (nnext 1 (nnext 8 (nnext 1 (some xs)))))) ∧ By W (fun _ => True) Ba6 ma6 (rval n (nnext 8 (nnext 8 (rnext n (nnext 1 (nnext 8 (nnext 1 (some xs))))))))) (fun W h => h.1) _ _ _ _ ?_
         have hHeld2 := And.intro hHeld HYa6.out
         clear hHeld
         have hHeld := hHeld2
         clear hHeld2
         refine tkq (i := 24) (d := 35) (v := (.string (ba (rval n (nnext 8 (nnext 8 (rnext n (nnext 1 (nnext 8 (nnext 1 (some xs))))))))))) rfl rfl (yields_conv (by kernel_rfl) 28 9 (.tmp 34) rfl (.slice Ba6 ma6 ca6) (by simp [Act.eval]) (.string (ba (rval n (nnext 8 (nnext 8 (rnext n (nnext 1 (nnext 8 (nnext 1 (some xs)))))))))) (fun W hW => run_string_by W 28 9 5 Try.underlying28 Try.underlying5 Try.underlying9 _ _ _ _ _ hW.2)) (by assumption) ?_
         simp only [Act.put, sq1, sq2, sq3]
         obtain ⟨V, hV⟩ : ∃ V : Value, V = .agg #[.int .i64 ((nval 1 (some xs) : Nat) : Int), .int .i64 (sx 8 (nval 8 (nnext 1 (some xs)))), .int .i64 ((nval 1 (nnext 8 (nnext 1 (some xs))) : Nat) : Int), .string (ba (rval n (nnext 1 (nnext 8 (nnext 1 (some xs)))))), .int .i64 (sx 8 (nval 8 (rnext n (nnext 1 (nnext 8 (nnext 1 (some xs))))))), .int .i64 (sx 8 (nval 8 (nnext 8 (rnext n (nnext 1 (nnext 8 (nnext 1 (some xs)))))))), .string (ba (rval n (nnext 8 (nnext 8 (rnext n (nnext 1 (nnext 8 (nnext 1 (some xs)))))))))] := ⟨_, rfl⟩
         have HV := Lib.hid hV
         clear hV
         refine tkq (i := 25) (d := 36) (v := V) rfl rfl (yields_build (by kernel_rfl) 58 _ rfl _ (by simp only [List.map_toArray, List.map_cons, List.map_nil, Act.eval]; rfl) V (fun w _ => by rw [HV.out]; exact Try.build_c7 _ _ _ _ _ _ _ w)) (by assumption) ?_
         simp only [Act.put, sq1, sq2, sq3]
         refine wpAnyH_ready (rs := [26]) (by kernel_rfl) (by simp) ?_
         refine AllReadyH.cons (o := ⟨some 7, .alloc 58, _, _, _, none⟩) rfl (fun K hK => ?_) AllReadyH.nil
         obtain ⟨gz, hgz⟩ : ∃ gz, wa6.heap.size = gz := ⟨_, rfl⟩; refine step_alloc (by simp [Region.wanted]) 58 rfl (.pointer (some ⟨gz, 0, none⟩)) (wa6.alloc (.cells #[.int .i64 0, .int .i64 0, .int .i64 0, .string (ba []), .int .i64 0, .int .i64 0, .string (ba [])] 58)) (Try.alloc_cr gz wa6 hgz) ?_; have HBz : Hid (Blk (wa6.alloc (.cells #[.int .i64 0, .int .i64 0, .int .i64 0, .string (ba []), .int .i64 0, .int .i64 0, .string (ba [])] 58)) gz 58 [.int .i64 0, .int .i64 0, .int .i64 0, .string (ba []), .int .i64 0, .int .i64 0, .string (ba [])]) := Lib.hid (Blk.fresh hgz.symm rfl); have HRz := Lib.hid ((HRa6.out).alloc (.cells #[.int .i64 0, .int .i64 0, .int .i64 0, .string (ba []), .int .i64 0, .int .i64 0, .string (ba [])] 58)); have HNE : Hid (gz ≠ g) := Lib.hid (fun e => by have h9 := (HRa6.out).lt; rw [← e, ← hgz] at h9; exact Nat.lt_irrefl _ h9); have HZ : Hid (wr.heap.size ≤ gz) := Lib.hid (hgz ▸ (hHeld.1.1).size); clear hgz
         refine hK.out _ _ ⟨⟨(only_trans hHeld.1.1 (only_below ((Below.refl _ _).alloc (Nat.le_refl _) _))), hHeld.1.2.alloc _⟩, hHeld.2.alloc _⟩ (fun hHeld1 => ?_)
         clear hHeld hK K
         have hHeld := hHeld1
         clear hHeld1
         change wpAnyH _ _ _ _ _ _ _ (Act.put _ (some (7 : Nat)) (.pointer (some ⟨gz, 0, none⟩))) _
         simp only [Act.put, sq1, sq2, sq3]
         refine wpAnyH_ready (rs := [27]) (by kernel_rfl) (by simp) ?_
         refine AllReadyH.cons (o := ⟨none, .store 58 (.tmp 7) (.tmp 36), _, _, _, none⟩) rfl (fun K hK => ?_) AllReadyH.nil
         have HBp := Lib.hid (HBz.out); refine step_store_blk rfl 58 (.tmp 7) (.tmp 36) rfl gz [.int .i64 ((nval 1 (some xs) : Nat) : Int), .int .i64 (sx 8 (nval 8 (nnext 1 (some xs)))), .int .i64 ((nval 1 (nnext 8 (nnext 1 (some xs))) : Nat) : Int), .string (ba (rval n (nnext 1 (nnext 8 (nnext 1 (some xs)))))), .int .i64 (sx 8 (nval 8 (rnext n (nnext 1 (nnext 8 (nnext 1 (some xs))))))), .int .i64 (sx 8 (nval 8 (nnext 8 (rnext n (nnext 1 (nnext 8 (nnext 1 (some xs)))))))), .string (ba (rval n (nnext 8 (nnext 8 (rnext n (nnext 1 (nnext 8 (nnext 1 (some xs)))))))))] (by simp [Act.eval]) (by simp only [Act.eval]; exact HV.out) 58 [.int .i64 0, .int .i64 0, .int .i64 0, .string (ba []), .int .i64 0, .int .i64 0, .string (ba [])] (HBz.out) (by kernel_rfl) rfl (one7 _ _ _ _ _ _ _) ?_; intro we hbe hge; have HBe := Lib.hid hbe; have HGe := Lib.hid hge; have HRe := Lib.hid ((HRz.out).other hge (fun b hb => ⟨fun e => HNE.out (by rw [Option.some.inj hb]; exact e), by have := Option.some.inj hb; have := HZ.out; omega⟩)); clear hbe hge
         refine hK.out _ _ ⟨⟨(only_new hHeld.1.1 HGe.out HZ.out), By.far hHeld.1.2 HGe.out HBp.out (no_u8c _ _ _ _ _ _ _)⟩, By.far hHeld.2 HGe.out HBp.out (no_u8c _ _ _ _ _ _ _)⟩ (fun hHeld1 => ?_)
         clear hHeld hK K
         have hHeld := hHeld1
         clear hHeld1
         change wpAnyH _ _ _ _ _ _ _ (Act.put _ none undef) _
         simp only [Act.put]
         refine wpAnyH_done (by kernel_rfl) ?_ _
         have HG6 := Lib.hid hHeld.1.1
         clear hHeld
         go_wp2
         go_meet
         case rel => exact ⟨gz, rfl, (by rw [← HC0.out]; exact HBe.out), (by rw [← HST0.out]; exact HRe.out), HZ.out, HZ2.out.grown HG6.out (fun e => by have := Option.some.inj e; have := HGg.out; omega), HX2.out.grown HG6.out HX2.out.size (fun k hk => by have := Option.some.inj hk; have := HGg.out; omega)⟩
        ·as_aux_lemma =>
         obtain ⟨gz, hgz⟩ : ∃ gz, wa5.heap.size = gz := ⟨_, rfl⟩; refine step_alloc (by simp [Region.wanted]) 58 rfl (.pointer (some ⟨gz, 0, none⟩)) (wa5.alloc (.cells #[.int .i64 0, .int .i64 0, .int .i64 0, .string (ba []), .int .i64 0, .int .i64 0, .string (ba [])] 58)) (Try.alloc_cr gz wa5 hgz) ?_; have HBz : Hid (Blk (wa5.alloc (.cells #[.int .i64 0, .int .i64 0, .int .i64 0, .string (ba []), .int .i64 0, .int .i64 0, .string (ba [])] 58)) gz 58 [.int .i64 0, .int .i64 0, .int .i64 0, .string (ba []), .int .i64 0, .int .i64 0, .string (ba [])]) := Lib.hid (Blk.fresh hgz.symm rfl); have HRz := Lib.hid ((HRa5.out).alloc (.cells #[.int .i64 0, .int .i64 0, .int .i64 0, .string (ba []), .int .i64 0, .int .i64 0, .string (ba [])] 58)); have HNE : Hid (gz ≠ g) := Lib.hid (fun e => by have h9 := (HRa5.out).lt; rw [← e, ← hgz] at h9; exact Nat.lt_irrefl _ h9); have HZ : Hid (wr.heap.size ≤ gz) := Lib.hid (hgz ▸ (hHeld.1).size); clear hgz
         refine hK.out _ _ ⟨(only_trans hHeld.1 (only_below ((Below.refl _ _).alloc (Nat.le_refl _) _))), hHeld.2.alloc _⟩ (fun hHeld1 => ?_)
         clear hHeld hK K
         have hHeld := hHeld1
         clear hHeld1
         change wpAnyH _ _ _ _ _ _ _ (Act.put _ (some (7 : Nat)) (.pointer (some ⟨gz, 0, none⟩))) _
         simp only [Act.put, sq1, sq2, sq3]
         refine wpAnyH_ready (rs := [23]) (by kernel_rfl) (by simp) ?_
         refine AllReadyH.cons rfl (fun K hK => ?_) AllReadyH.nil
         go_simp
         refine (row_rs (HRz.out) n).mono ?_
         rintro e wa6 ⟨Ba6, ma6, ca6, rfl, hy6, hr6, hg6⟩; have HRa6 := Lib.hid hr6; have HGa6 := Lib.hid hg6; have HBa6 := Lib.hid ((HBz.out).grown hg6 (fun e => HNE.out (Option.some.inj e))); have HYa6 := Lib.hid hy6; clear hr6 hg6 hy6
         go_wp2_with fail
         refine hK.out _ _ ⟨(only_trans hHeld.1 HGa6.out), (HRz.out).by_keep hHeld.2 HGa6.out⟩ (fun hHeld1 => ?_)
         clear hHeld hK K
         have hHeld := hHeld1
         clear hHeld1
         refine wpAnyH_weaken (S' := fun W => ((wr.grownBy W (some g)) ∧ By W (fun _ => True) Ba3 ma3 (rval n (nnext 1 (nnext 8 (nnext 1 (some xs)))))) ∧ By W (fun _ => True) Ba6 ma6 (rval n (nnext 8 (nnext 8 (rnext n (nnext 1 (nnext 8 (nnext 1 (some xs))))))))) (fun W h => h.1) _ _ _ _ ?_
         have hHeld2 := And.intro hHeld HYa6.out
         clear hHeld
         have hHeld := hHeld2
         clear hHeld2
         refine tkq (i := 24) (d := 35) (v := (.string (ba (rval n (nnext 8 (nnext 8 (rnext n (nnext 1 (nnext 8 (nnext 1 (some xs))))))))))) rfl rfl (yields_conv (by kernel_rfl) 28 9 (.tmp 34) rfl (.slice Ba6 ma6 ca6) (by simp [Act.eval]) (.string (ba (rval n (nnext 8 (nnext 8 (rnext n (nnext 1 (nnext 8 (nnext 1 (some xs)))))))))) (fun W hW => run_string_by W 28 9 5 Try.underlying28 Try.underlying5 Try.underlying9 _ _ _ _ _ hW.2)) (by assumption) ?_
         simp only [Act.put, sq1, sq2, sq3]
         obtain ⟨V, hV⟩ : ∃ V : Value, V = .agg #[.int .i64 ((nval 1 (some xs) : Nat) : Int), .int .i64 (sx 8 (nval 8 (nnext 1 (some xs)))), .int .i64 ((nval 1 (nnext 8 (nnext 1 (some xs))) : Nat) : Int), .string (ba (rval n (nnext 1 (nnext 8 (nnext 1 (some xs)))))), .int .i64 (sx 8 (nval 8 (rnext n (nnext 1 (nnext 8 (nnext 1 (some xs))))))), .int .i64 (sx 8 (nval 8 (nnext 8 (rnext n (nnext 1 (nnext 8 (nnext 1 (some xs)))))))), .string (ba (rval n (nnext 8 (nnext 8 (rnext n (nnext 1 (nnext 8 (nnext 1 (some xs)))))))))] := ⟨_, rfl⟩
         have HV := Lib.hid hV
         clear hV
         refine tkq (i := 25) (d := 36) (v := V) rfl rfl (yields_build (by kernel_rfl) 58 _ rfl _ (by simp only [List.map_toArray, List.map_cons, List.map_nil, Act.eval]; rfl) V (fun w _ => by rw [HV.out]; exact Try.build_c7 _ _ _ _ _ _ _ w)) (by assumption) ?_
         simp only [Act.put, sq1, sq2, sq3]
         refine wpAnyH_ready (rs := [27]) (by kernel_rfl) (by simp) ?_
         refine AllReadyH.cons (o := ⟨none, .store 58 (.tmp 7) (.tmp 36), _, _, _, none⟩) rfl (fun K hK => ?_) AllReadyH.nil
         have HBp := Lib.hid (HBa6.out); refine step_store_blk rfl 58 (.tmp 7) (.tmp 36) rfl gz [.int .i64 ((nval 1 (some xs) : Nat) : Int), .int .i64 (sx 8 (nval 8 (nnext 1 (some xs)))), .int .i64 ((nval 1 (nnext 8 (nnext 1 (some xs))) : Nat) : Int), .string (ba (rval n (nnext 1 (nnext 8 (nnext 1 (some xs)))))), .int .i64 (sx 8 (nval 8 (rnext n (nnext 1 (nnext 8 (nnext 1 (some xs))))))), .int .i64 (sx 8 (nval 8 (nnext 8 (rnext n (nnext 1 (nnext 8 (nnext 1 (some xs)))))))), .string (ba (rval n (nnext 8 (nnext 8 (rnext n (nnext 1 (nnext 8 (nnext 1 (some xs)))))))))] (by simp [Act.eval]) (by simp only [Act.eval]; exact HV.out) 58 [.int .i64 0, .int .i64 0, .int .i64 0, .string (ba []), .int .i64 0, .int .i64 0, .string (ba [])] (HBa6.out) (by kernel_rfl) rfl (one7 _ _ _ _ _ _ _) ?_; intro we hbe hge; have HBe := Lib.hid hbe; have HGe := Lib.hid hge; have HRe := Lib.hid ((HRa6.out).other hge (fun b hb => ⟨fun e => HNE.out (by rw [Option.some.inj hb]; exact e), by have := Option.some.inj hb; have := HZ.out; omega⟩)); clear hbe hge
         refine hK.out _ _ ⟨⟨(only_new hHeld.1.1 HGe.out HZ.out), By.far hHeld.1.2 HGe.out HBp.out (no_u8c _ _ _ _ _ _ _)⟩, By.far hHeld.2 HGe.out HBp.out (no_u8c _ _ _ _ _ _ _)⟩ (fun hHeld1 => ?_)
         clear hHeld hK K
         have hHeld := hHeld1
         clear hHeld1
         change wpAnyH _ _ _ _ _ _ _ (Act.put _ none undef) _
         simp only [Act.put]
         refine wpAnyH_done (by kernel_rfl) ?_ _
         have HG6 := Lib.hid hHeld.1.1
         clear hHeld
         go_wp2
         go_meet
         case rel => exact ⟨gz, rfl, (by rw [← HC0.out]; exact HBe.out), (by rw [← HST0.out]; exact HRe.out), HZ.out, HZ2.out.grown HG6.out (fun e => by have := Option.some.inj e; have := HGg.out; omega), HX2.out.grown HG6.out HX2.out.size (fun k hk => by have := Option.some.inj hk; have := HGg.out; omega)⟩
       ·as_aux_lemma =>
        obtain ⟨gz, hgz⟩ : ∃ gz, wa4.heap.size = gz := ⟨_, rfl⟩; refine step_alloc (by simp [Region.wanted]) 58 rfl (.pointer (some ⟨gz, 0, none⟩)) (wa4.alloc (.cells #[.int .i64 0, .int .i64 0, .int .i64 0, .string (ba []), .int .i64 0, .int .i64 0, .string (ba [])] 58)) (Try.alloc_cr gz wa4 hgz) ?_; have HBz : Hid (Blk (wa4.alloc (.cells #[.int .i64 0, .int .i64 0, .int .i64 0, .string (ba []), .int .i64 0, .int .i64 0, .string (ba [])] 58)) gz 58 [.int .i64 0, .int .i64 0, .int .i64 0, .string (ba []), .int .i64 0, .int .i64 0, .string (ba [])]) := Lib.hid (Blk.fresh hgz.symm rfl); have HRz := Lib.hid ((HRa4.out).alloc (.cells #[.int .i64 0, .int .i64 0, .int .i64 0, .string (ba []), .int .i64 0, .int .i64 0, .string (ba [])] 58)); have HNE : Hid (gz ≠ g) := Lib.hid (fun e => by have h9 := (HRa4.out).lt; rw [← e, ← hgz] at h9; exact Nat.lt_irrefl _ h9); have HZ : Hid (wr.heap.size ≤ gz) := Lib.hid (hgz ▸ (hHeld.1).size); clear hgz
        refine hK.out _ _ ⟨(only_trans hHeld.1 (only_below ((Below.refl _ _).alloc (Nat.le_refl _) _))), hHeld.2.alloc _⟩ (fun hHeld1 => ?_)
        clear hHeld hK K
        have hHeld := hHeld1
        clear hHeld1
        change wpAnyH _ _ _ _ _ _ _ (Act.put _ (some (7 : Nat)) (.pointer (some ⟨gz, 0, none⟩))) _
        simp only [Act.put, sq1, sq2, sq3]
        refine wpAnyH_ready (rs := [18]) (by kernel_rfl) (by simp) ?_
        refine AllReadyH.cons rfl (fun K hK => ?_) AllReadyH.nil
        go_simp
        refine (number_rs (HRz.out) 8 rfl).mono ?_
        rintro e wa5 ⟨rfl, hr5, hg5⟩; have HRa5 := Lib.hid hr5; have HGa5 := Lib.hid hg5; have HBa5 := Lib.hid ((HBz.out).grown hg5 (fun e => HNE.out (Option.some.inj e))); clear hr5 hg5
        go_wp2_with fail
        refine hK.out _ _ ⟨(only_trans hHeld.1 HGa5.out), (HRz.out).by_keep hHeld.2 HGa5.out⟩ (fun hHeld1 => ?_)
        clear hHeld hK K
        have hHeld := hHeld1
        clear hHeld1
        refine tkq (i := 19) (d := 30) (v := (.int .i64 (sx 8 (nval 8 (nnext 8 (rnext n (nnext 1 (nnext 8 (nnext 1 (some xs)))))))))) rfl rfl (yields_conv (by kernel_rfl) 70 2 (.tmp 29) rfl (.int .u64 ((nval 8 (nnext 8 (rnext n (nnext 1 (nnext 8 (nnext 1 (some xs)))))) : Nat) : Int)) (by simp [Act.eval]) (.int .i64 (sx 8 (nval 8 (nnext 8 (rnext n (nnext 1 (nnext 8 (nnext 1 (some xs))))))))) (fun W _ => conv_i64 70 2 Try.underlying70 Try.underlying2 _ (by have := nval_lt 8 (nnext 8 (rnext n (nnext 1 (nnext 8 (nnext 1 (some xs)))))); simp only [e8] at this; omega) W)) (by assumption) ?_
        simp only [Act.put, sq1, sq2, sq3]
        refine wpAnyH_ready (rs := [23]) (by kernel_rfl) (by simp) ?_
        refine AllReadyH.cons rfl (fun K hK => ?_) AllReadyH.nil
        go_simp
        refine (row_rs (HRa5.out) n).mono ?_
        rintro e wa6 ⟨Ba6, ma6, ca6, rfl, hy6, hr6, hg6⟩; have HRa6 := Lib.hid hr6; have HGa6 := Lib.hid hg6; have HBa6 := Lib.hid ((HBa5.out).grown hg6 (fun e => HNE.out (Option.some.inj e))); have HYa6 := Lib.hid hy6; clear hr6 hg6 hy6
        go_wp2_with fail
        refine hK.out _ _ ⟨(only_trans hHeld.1 HGa6.out), (HRa5.out).by_keep hHeld.2 HGa6.out⟩ (fun hHeld1 => ?_)
        clear hHeld hK K
        have hHeld := hHeld1
        clear hHeld1
        refine wpAnyH_weaken (S' := fun W => ((wr.grownBy W (some g)) ∧ By W (fun _ => True) Ba3 ma3 (rval n (nnext 1 (nnext 8 (nnext 1 (some xs)))))) ∧ By W (fun _ => True) Ba6 ma6 (rval n (nnext 8 (nnext 8 (rnext n (nnext 1 (nnext 8 (nnext 1 (some xs))))))))) (fun W h => h.1) _ _ _ _ ?_
        have hHeld2 := And.intro hHeld HYa6.out
        clear hHeld
        have hHeld := hHeld2
        clear hHeld2
        refine tkq (i := 24) (d := 35) (v := (.string (ba (rval n (nnext 8 (nnext 8 (rnext n (nnext 1 (nnext 8 (nnext 1 (some xs))))))))))) rfl rfl (yields_conv (by kernel_rfl) 28 9 (.tmp 34) rfl (.slice Ba6 ma6 ca6) (by simp [Act.eval]) (.string (ba (rval n (nnext 8 (nnext 8 (rnext n (nnext 1 (nnext 8 (nnext 1 (some xs)))))))))) (fun W hW => run_string_by W 28 9 5 Try.underlying28 Try.underlying5 Try.underlying9 _ _ _ _ _ hW.2)) (by assumption) ?_
        simp only [Act.put, sq1, sq2, sq3]
        obtain ⟨V, hV⟩ : ∃ V : Value, V = .agg #[.int .i64 ((nval 1 (some xs) : Nat) : Int), .int .i64 (sx 8 (nval 8 (nnext 1 (some xs)))), .int .i64 ((nval 1 (nnext 8 (nnext 1 (some xs))) : Nat) : Int), .string (ba (rval n (nnext 1 (nnext 8 (nnext 1 (some xs)))))), .int .i64 (sx 8 (nval 8 (rnext n (nnext 1 (nnext 8 (nnext 1 (some xs))))))), .int .i64 (sx 8 (nval 8 (nnext 8 (rnext n (nnext 1 (nnext 8 (nnext 1 (some xs)))))))), .string (ba (rval n (nnext 8 (nnext 8 (rnext n (nnext 1 (nnext 8 (nnext 1 (some xs)))))))))] := ⟨_, rfl⟩
        have HV := Lib.hid hV
        clear hV
        refine tkq (i := 25) (d := 36) (v := V) rfl rfl (yields_build (by kernel_rfl) 58 _ rfl _ (by simp only [List.map_toArray, List.map_cons, List.map_nil, Act.eval]; rfl) V (fun w _ => by rw [HV.out]; exact Try.build_c7 _ _ _ _ _ _ _ w)) (by assumption) ?_
        simp only [Act.put, sq1, sq2, sq3]
        refine wpAnyH_ready (rs := [27]) (by kernel_rfl) (by simp) ?_
        refine AllReadyH.cons (o := ⟨none, .store 58 (.tmp 7) (.tmp 36), _, _, _, none⟩) rfl (fun K hK => ?_) AllReadyH.nil
        have HBp := Lib.hid (HBa6.out); refine step_store_blk rfl 58 (.tmp 7) (.tmp 36) rfl gz [.int .i64 ((nval 1 (some xs) : Nat) : Int), .int .i64 (sx 8 (nval 8 (nnext 1 (some xs)))), .int .i64 ((nval 1 (nnext 8 (nnext 1 (some xs))) : Nat) : Int), .string (ba (rval n (nnext 1 (nnext 8 (nnext 1 (some xs)))))), .int .i64 (sx 8 (nval 8 (rnext n (nnext 1 (nnext 8 (nnext 1 (some xs))))))), .int .i64 (sx 8 (nval 8 (nnext 8 (rnext n (nnext 1 (nnext 8 (nnext 1 (some xs)))))))), .string (ba (rval n (nnext 8 (nnext 8 (rnext n (nnext 1 (nnext 8 (nnext 1 (some xs)))))))))] (by simp [Act.eval]) (by simp only [Act.eval]; exact HV.out) 58 [.int .i64 0, .int .i64 0, .int .i64 0, .string (ba []), .int .i64 0, .int .i64 0, .string (ba [])] (HBa6.out) (by kernel_rfl) rfl (one7 _ _ _ _ _ _ _) ?_; intro we hbe hge; have HBe := Lib.hid hbe; have HGe := Lib.hid hge; have HRe := Lib.hid ((HRa6.out).other hge (fun b hb => ⟨fun e => HNE.out (by rw [Option.some.inj hb]; exact e), by have := Option.some.inj hb; have := HZ.out; omega⟩)); clear hbe hge
        refine hK.out _ _ ⟨⟨(only_new hHeld.1.1 HGe.out HZ.out), By.far hHeld.1.2 HGe.out HBp.out (no_u8c _ _ _ _ _ _ _)⟩, By.far hHeld.2 HGe.out HBp.out (no_u8c _ _ _ _ _ _ _)⟩ (fun hHeld1 => ?_)
        clear hHeld hK K
        have hHeld := hHeld1
        clear hHeld1
        change wpAnyH _ _ _ _ _ _ _ (Act.put _ none undef) _
        simp only [Act.put]
        refine wpAnyH_done (by kernel_rfl) ?_ _
        have HG6 := Lib.hid hHeld.1.1
        clear hHeld
        go_wp2
        go_meet
        case rel => exact ⟨gz, rfl, (by rw [← HC0.out]; exact HBe.out), (by rw [← HST0.out]; exact HRe.out), HZ.out, HZ2.out.grown HG6.out (fun e => by have := Option.some.inj e; have := HGg.out; omega), HX2.out.grown HG6.out HX2.out.size (fun k hk => by have := Option.some.inj hk; have := HGg.out; omega)⟩
      ·as_aux_lemma =>
       obtain ⟨gz, hgz⟩ : ∃ gz, wa3.heap.size = gz := ⟨_, rfl⟩; refine step_alloc (by simp [Region.wanted]) 58 rfl (.pointer (some ⟨gz, 0, none⟩)) (wa3.alloc (.cells #[.int .i64 0, .int .i64 0, .int .i64 0, .string (ba []), .int .i64 0, .int .i64 0, .string (ba [])] 58)) (Try.alloc_cr gz wa3 hgz) ?_; have HBz : Hid (Blk (wa3.alloc (.cells #[.int .i64 0, .int .i64 0, .int .i64 0, .string (ba []), .int .i64 0, .int .i64 0, .string (ba [])] 58)) gz 58 [.int .i64 0, .int .i64 0, .int .i64 0, .string (ba []), .int .i64 0, .int .i64 0, .string (ba [])]) := Lib.hid (Blk.fresh hgz.symm rfl); have HRz := Lib.hid ((HRa3.out).alloc (.cells #[.int .i64 0, .int .i64 0, .int .i64 0, .string (ba []), .int .i64 0, .int .i64 0, .string (ba [])] 58)); have HNE : Hid (gz ≠ g) := Lib.hid (fun e => by have h9 := (HRa3.out).lt; rw [← e, ← hgz] at h9; exact Nat.lt_irrefl _ h9); have HZ : Hid (wr.heap.size ≤ gz) := Lib.hid (hgz ▸ (hHeld.1).size); clear hgz
       refine hK.out _ _ ⟨(only_trans hHeld.1 (only_below ((Below.refl _ _).alloc (Nat.le_refl _) _))), hHeld.2.alloc _⟩ (fun hHeld1 => ?_)
       clear hHeld hK K
       have hHeld := hHeld1
       clear hHeld1
       change wpAnyH _ _ _ _ _ _ _ (Act.put _ (some (7 : Nat)) (.pointer (some ⟨gz, 0, none⟩))) _
       simp only [Act.put, sq1, sq2, sq3]
       refine wpAnyH_ready (rs := [15]) (by kernel_rfl) (by simp) ?_
       refine AllReadyH.cons rfl (fun K hK => ?_) AllReadyH.nil
       go_simp
       refine (number_rs (HRz.out) 8 rfl).mono ?_
       rintro e wa4 ⟨rfl, hr4, hg4⟩; have HRa4 := Lib.hid hr4; have HGa4 := Lib.hid hg4; have HBa4 := Lib.hid ((HBz.out).grown hg4 (fun e => HNE.out (Option.some.inj e))); clear hr4 hg4
       go_wp2_with fail
       refine hK.out _ _ ⟨(only_trans hHeld.1 HGa4.out), (HRz.out).by_keep hHeld.2 HGa4.out⟩ (fun hHeld1 => ?_)
       clear hHeld hK K
       have hHeld := hHeld1
       clear hHeld1
       refine tkq (i := 16) (d := 27) (v := (.int .i64 (sx 8 (nval 8 (rnext n (nnext 1 (nnext 8 (nnext 1 (some xs))))))))) rfl rfl (yields_conv (by kernel_rfl) 70 2 (.tmp 26) rfl (.int .u64 ((nval 8 (rnext n (nnext 1 (nnext 8 (nnext 1 (some xs))))) : Nat) : Int)) (by simp [Act.eval]) (.int .i64 (sx 8 (nval 8 (rnext n (nnext 1 (nnext 8 (nnext 1 (some xs)))))))) (fun W _ => conv_i64 70 2 Try.underlying70 Try.underlying2 _ (by have := nval_lt 8 (rnext n (nnext 1 (nnext 8 (nnext 1 (some xs))))); simp only [e8] at this; omega) W)) (by assumption) ?_
       simp only [Act.put, sq1, sq2, sq3]
       refine wpAnyH_ready (rs := [18]) (by kernel_rfl) (by simp) ?_
       refine AllReadyH.cons rfl (fun K hK => ?_) AllReadyH.nil
       go_simp
       refine (number_rs (HRa4.out) 8 rfl).mono ?_
       rintro e wa5 ⟨rfl, hr5, hg5⟩; have HRa5 := Lib.hid hr5; have HGa5 := Lib.hid hg5; have HBa5 := Lib.hid ((HBa4.out).grown hg5 (fun e => HNE.out (Option.some.inj e))); clear hr5 hg5
       go_wp2_with fail
       refine hK.out _ _ ⟨(only_trans hHeld.1 HGa5.out), (HRa4.out).by_keep hHeld.2 HGa5.out⟩ (fun hHeld1 => ?_)
       clear hHeld hK K
       have hHeld := hHeld1
       clear hHeld1
       refine tkq (i := 19) (d := 30) (v := (.int .i64 (sx 8 (nval 8 (nnext 8 (rnext n (nnext 1 (nnext 8 (nnext 1 (some xs)))))))))) rfl rfl (yields_conv (by kernel_rfl) 70 2 (.tmp 29) rfl (.int .u64 ((nval 8 (nnext 8 (rnext n (nnext 1 (nnext 8 (nnext 1 (some xs)))))) : Nat) : Int)) (by simp [Act.eval]) (.int .i64 (sx 8 (nval 8 (nnext 8 (rnext n (nnext 1 (nnext 8 (nnext 1 (some xs))))))))) (fun W _ => conv_i64 70 2 Try.underlying70 Try.underlying2 _ (by have := nval_lt 8 (nnext 8 (rnext n (nnext 1 (nnext 8 (nnext 1 (some xs)))))); simp only [e8] at this; omega) W)) (by assumption) ?_
       simp only [Act.put, sq1, sq2, sq3]
       refine wpAnyH_ready (rs := [23]) (by kernel_rfl) (by simp) ?_
       refine AllReadyH.cons rfl (fun K hK => ?_) AllReadyH.nil
       go_simp
       refine (row_rs (HRa5.out) n).mono ?_
       rintro e wa6 ⟨Ba6, ma6, ca6, rfl, hy6, hr6, hg6⟩; have HRa6 := Lib.hid hr6; have HGa6 := Lib.hid hg6; have HBa6 := Lib.hid ((HBa5.out).grown hg6 (fun e => HNE.out (Option.some.inj e))); have HYa6 := Lib.hid hy6; clear hr6 hg6 hy6
       go_wp2_with fail
       refine hK.out _ _ ⟨(only_trans hHeld.1 HGa6.out), (HRa5.out).by_keep hHeld.2 HGa6.out⟩ (fun hHeld1 => ?_)
       clear hHeld hK K
       have hHeld := hHeld1
       clear hHeld1
       refine wpAnyH_weaken (S' := fun W => ((wr.grownBy W (some g)) ∧ By W (fun _ => True) Ba3 ma3 (rval n (nnext 1 (nnext 8 (nnext 1 (some xs)))))) ∧ By W (fun _ => True) Ba6 ma6 (rval n (nnext 8 (nnext 8 (rnext n (nnext 1 (nnext 8 (nnext 1 (some xs))))))))) (fun W h => h.1) _ _ _ _ ?_
       have hHeld2 := And.intro hHeld HYa6.out
       clear hHeld
       have hHeld := hHeld2
       clear hHeld2
       refine tkq (i := 24) (d := 35) (v := (.string (ba (rval n (nnext 8 (nnext 8 (rnext n (nnext 1 (nnext 8 (nnext 1 (some xs))))))))))) rfl rfl (yields_conv (by kernel_rfl) 28 9 (.tmp 34) rfl (.slice Ba6 ma6 ca6) (by simp [Act.eval]) (.string (ba (rval n (nnext 8 (nnext 8 (rnext n (nnext 1 (nnext 8 (nnext 1 (some xs)))))))))) (fun W hW => run_string_by W 28 9 5 Try.underlying28 Try.underlying5 Try.underlying9 _ _ _ _ _ hW.2)) (by assumption) ?_
       simp only [Act.put, sq1, sq2, sq3]
       obtain ⟨V, hV⟩ : ∃ V : Value, V = .agg #[.int .i64 ((nval 1 (some xs) : Nat) : Int), .int .i64 (sx 8 (nval 8 (nnext 1 (some xs)))), .int .i64 ((nval 1 (nnext 8 (nnext 1 (some xs))) : Nat) : Int), .string (ba (rval n (nnext 1 (nnext 8 (nnext 1 (some xs)))))), .int .i64 (sx 8 (nval 8 (rnext n (nnext 1 (nnext 8 (nnext 1 (some xs))))))), .int .i64 (sx 8 (nval 8 (nnext 8 (rnext n (nnext 1 (nnext 8 (nnext 1 (some xs)))))))), .string (ba (rval n (nnext 8 (nnext 8 (rnext n (nnext 1 (nnext 8 (nnext 1 (some xs)))))))))] := ⟨_, rfl⟩
       have HV := Lib.hid hV
       clear hV
       refine tkq (i := 25) (d := 36) (v := V) rfl rfl (yields_build (by kernel_rfl) 58 _ rfl _ (by simp only [List.map_toArray, List.map_cons, List.map_nil, Act.eval]; rfl) V (fun w _ => by rw [HV.out]; exact Try.build_c7 _ _ _ _ _ _ _ w)) (by assumption) ?_
       simp only [Act.put, sq1, sq2, sq3]
       refine wpAnyH_ready (rs := [27]) (by kernel_rfl) (by simp) ?_
       refine AllReadyH.cons (o := ⟨none, .store 58 (.tmp 7) (.tmp 36), _, _, _, none⟩) rfl (fun K hK => ?_) AllReadyH.nil
       have HBp := Lib.hid (HBa6.out); refine step_store_blk rfl 58 (.tmp 7) (.tmp 36) rfl gz [.int .i64 ((nval 1 (some xs) : Nat) : Int), .int .i64 (sx 8 (nval 8 (nnext 1 (some xs)))), .int .i64 ((nval 1 (nnext 8 (nnext 1 (some xs))) : Nat) : Int), .string (ba (rval n (nnext 1 (nnext 8 (nnext 1 (some xs)))))), .int .i64 (sx 8 (nval 8 (rnext n (nnext 1 (nnext 8 (nnext 1 (some xs))))))), .int .i64 (sx 8 (nval 8 (nnext 8 (rnext n (nnext 1 (nnext 8 (nnext 1 (some xs)))))))), .string (ba (rval n (nnext 8 (nnext 8 (rnext n (nnext 1 (nnext 8 (nnext 1 (some xs)))))))))] (by simp [Act.eval]) (by simp only [Act.eval]; exact HV.out) 58 [.int .i64 0, .int .i64 0, .int .i64 0, .string (ba []), .int .i64 0, .int .i64 0, .string (ba [])] (HBa6.out) (by kernel_rfl) rfl (one7 _ _ _ _ _ _ _) ?_; intro we hbe hge; have HBe := Lib.hid hbe; have HGe := Lib.hid hge; have HRe := Lib.hid ((HRa6.out).other hge (fun b hb => ⟨fun e => HNE.out (by rw [Option.some.inj hb]; exact e), by have := Option.some.inj hb; have := HZ.out; omega⟩)); clear hbe hge
       refine hK.out _ _ ⟨⟨(only_new hHeld.1.1 HGe.out HZ.out), By.far hHeld.1.2 HGe.out HBp.out (no_u8c _ _ _ _ _ _ _)⟩, By.far hHeld.2 HGe.out HBp.out (no_u8c _ _ _ _ _ _ _)⟩ (fun hHeld1 => ?_)
       clear hHeld hK K
       have hHeld := hHeld1
       clear hHeld1
       change wpAnyH _ _ _ _ _ _ _ (Act.put _ none undef) _
       simp only [Act.put]
       refine wpAnyH_done (by kernel_rfl) ?_ _
       have HG6 := Lib.hid hHeld.1.1
       clear hHeld
       go_wp2
       go_meet
       case rel => exact ⟨gz, rfl, (by rw [← HC0.out]; exact HBe.out), (by rw [← HST0.out]; exact HRe.out), HZ.out, HZ2.out.grown HG6.out (fun e => by have := Option.some.inj e; have := HGg.out; omega), HX2.out.grown HG6.out HX2.out.size (fun k hk => by have := Option.some.inj hk; have := HGg.out; omega)⟩
     ·as_aux_lemma =>
      obtain ⟨gz, hgz⟩ : ∃ gz, wa2.heap.size = gz := ⟨_, rfl⟩; refine step_alloc (by simp [Region.wanted]) 58 rfl (.pointer (some ⟨gz, 0, none⟩)) (wa2.alloc (.cells #[.int .i64 0, .int .i64 0, .int .i64 0, .string (ba []), .int .i64 0, .int .i64 0, .string (ba [])] 58)) (Try.alloc_cr gz wa2 hgz) ?_; have HBz : Hid (Blk (wa2.alloc (.cells #[.int .i64 0, .int .i64 0, .int .i64 0, .string (ba []), .int .i64 0, .int .i64 0, .string (ba [])] 58)) gz 58 [.int .i64 0, .int .i64 0, .int .i64 0, .string (ba []), .int .i64 0, .int .i64 0, .string (ba [])]) := Lib.hid (Blk.fresh hgz.symm rfl); have HRz := Lib.hid ((HRa2.out).alloc (.cells #[.int .i64 0, .int .i64 0, .int .i64 0, .string (ba []), .int .i64 0, .int .i64 0, .string (ba [])] 58)); have HNE : Hid (gz ≠ g) := Lib.hid (fun e => by have h9 := (HRa2.out).lt; rw [← e, ← hgz] at h9; exact Nat.lt_irrefl _ h9); have HZ : Hid (wr.heap.size ≤ gz) := Lib.hid (hgz ▸ (hHeld).size); clear hgz
      refine hK.out _ _ (only_trans hHeld (only_below ((Below.refl _ _).alloc (Nat.le_refl _) _))) (fun hHeld1 => ?_)
      clear hHeld hK K
      have hHeld := hHeld1
      clear hHeld1
      change wpAnyH _ _ _ _ _ _ _ (Act.put _ (some (7 : Nat)) (.pointer (some ⟨gz, 0, none⟩))) _
      simp only [Act.put, sq1, sq2, sq3]
      refine wpAnyH_ready (rs := [12]) (by kernel_rfl) (by simp) ?_
      refine AllReadyH.cons rfl (fun K hK => ?_) AllReadyH.nil
      go_simp
      refine (row_rs (HRz.out) n).mono ?_
      rintro e wa3 ⟨Ba3, ma3, ca3, rfl, hy3, hr3, hg3⟩; have HRa3 := Lib.hid hr3; have HGa3 := Lib.hid hg3; have HBa3 := Lib.hid ((HBz.out).grown hg3 (fun e => HNE.out (Option.some.inj e))); have HYa3 := Lib.hid hy3; clear hr3 hg3 hy3
      go_wp2_with fail
      refine hK.out _ _ (only_trans hHeld HGa3.out) (fun hHeld1 => ?_)
      clear hHeld hK K
      have hHeld := hHeld1
      clear hHeld1
      refine wpAnyH_weaken (S' := fun W => (wr.grownBy W (some g)) ∧ By W (fun _ => True) Ba3 ma3 (rval n (nnext 1 (nnext 8 (nnext 1 (some xs)))))) (fun W h => h.1) _ _ _ _ ?_
      have hHeld2 := And.intro hHeld HYa3.out
      clear hHeld
      have hHeld := hHeld2
      clear hHeld2
      refine tkq (i := 13) (d := 24) (v := (.string (ba (rval n (nnext 1 (nnext 8 (nnext 1 (some xs)))))))) rfl rfl (yields_conv (by kernel_rfl) 28 9 (.tmp 23) rfl (.slice Ba3 ma3 ca3) (by simp [Act.eval]) (.string (ba (rval n (nnext 1 (nnext 8 (nnext 1 (some xs))))))) (fun W hW => run_string_by W 28 9 5 Try.underlying28 Try.underlying5 Try.underlying9 _ _ _ _ _ hW.2)) (by assumption) ?_
      simp only [Act.put, sq1, sq2, sq3]
      refine wpAnyH_ready (rs := [15]) (by kernel_rfl) (by simp) ?_
      refine AllReadyH.cons rfl (fun K hK => ?_) AllReadyH.nil
      go_simp
      refine (number_rs (HRa3.out) 8 rfl).mono ?_
      rintro e wa4 ⟨rfl, hr4, hg4⟩; have HRa4 := Lib.hid hr4; have HGa4 := Lib.hid hg4; have HBa4 := Lib.hid ((HBa3.out).grown hg4 (fun e => HNE.out (Option.some.inj e))); clear hr4 hg4
      go_wp2_with fail
      refine hK.out _ _ ⟨(only_trans hHeld.1 HGa4.out), (HRa3.out).by_keep hHeld.2 HGa4.out⟩ (fun hHeld1 => ?_)
      clear hHeld hK K
      have hHeld := hHeld1
      clear hHeld1
      refine tkq (i := 16) (d := 27) (v := (.int .i64 (sx 8 (nval 8 (rnext n (nnext 1 (nnext 8 (nnext 1 (some xs))))))))) rfl rfl (yields_conv (by kernel_rfl) 70 2 (.tmp 26) rfl (.int .u64 ((nval 8 (rnext n (nnext 1 (nnext 8 (nnext 1 (some xs))))) : Nat) : Int)) (by simp [Act.eval]) (.int .i64 (sx 8 (nval 8 (rnext n (nnext 1 (nnext 8 (nnext 1 (some xs)))))))) (fun W _ => conv_i64 70 2 Try.underlying70 Try.underlying2 _ (by have := nval_lt 8 (rnext n (nnext 1 (nnext 8 (nnext 1 (some xs))))); simp only [e8] at this; omega) W)) (by assumption) ?_
      simp only [Act.put, sq1, sq2, sq3]
      refine wpAnyH_ready (rs := [18]) (by kernel_rfl) (by simp) ?_
      refine AllReadyH.cons rfl (fun K hK => ?_) AllReadyH.nil
      go_simp
      refine (number_rs (HRa4.out) 8 rfl).mono ?_
      rintro e wa5 ⟨rfl, hr5, hg5⟩; have HRa5 := Lib.hid hr5; have HGa5 := Lib.hid hg5; have HBa5 := Lib.hid ((HBa4.out).grown hg5 (fun e => HNE.out (Option.some.inj e))); clear hr5 hg5
      go_wp2_with fail
      refine hK.out _ _ ⟨(only_trans hHeld.1 HGa5.out), (HRa4.out).by_keep hHeld.2 HGa5.out⟩ (fun hHeld1 => ?_)
      clear hHeld hK K
      have hHeld := hHeld1
      clear hHeld1
      refine tkq (i := 19) (d := 30) (v := (.int .i64 (sx 8 (nval 8 (nnext 8 (rnext n (nnext 1 (nnext 8 (nnext 1 (some xs)))))))))) rfl rfl (yields_conv (by kernel_rfl) 70 2 (.tmp 29) rfl (.int .u64 ((nval 8 (nnext 8 (rnext n (nnext 1 (nnext 8 (nnext 1 (some xs)))))) : Nat) : Int)) (by simp [Act.eval]) (.int .i64 (sx 8 (nval 8 (nnext 8 (rnext n (nnext 1 (nnext 8 (nnext 1 (some xs))))))))) (fun W _ => conv_i64 70 2 Try.underlying70 Try.underlying2 _ (by have := nval_lt 8 (nnext 8 (rnext n (nnext 1 (nnext 8 (nnext 1 (some xs)))))); simp only [e8] at this; omega) W)) (by assumption) ?_
      simp only [Act.put, sq1, sq2, sq3]
      refine wpAnyH_ready (rs := [23]) (by kernel_rfl) (by simp) ?_
      refine AllReadyH.cons rfl (fun K hK => ?_) AllReadyH.nil
      go_simp
      refine (row_rs (HRa5.out) n).mono ?_
      rintro e wa6 ⟨Ba6, ma6, ca6, rfl, hy6, hr6, hg6⟩; have HRa6 := Lib.hid hr6; have HGa6 := Lib.hid hg6; have HBa6 := Lib.hid ((HBa5.out).grown hg6 (fun e => HNE.out (Option.some.inj e))); have HYa6 := Lib.hid hy6; clear hr6 hg6 hy6
      go_wp2_with fail
      refine hK.out _ _ ⟨(only_trans hHeld.1 HGa6.out), (HRa5.out).by_keep hHeld.2 HGa6.out⟩ (fun hHeld1 => ?_)
      clear hHeld hK K
      have hHeld := hHeld1
      clear hHeld1
      refine wpAnyH_weaken (S' := fun W => ((wr.grownBy W (some g)) ∧ By W (fun _ => True) Ba3 ma3 (rval n (nnext 1 (nnext 8 (nnext 1 (some xs)))))) ∧ By W (fun _ => True) Ba6 ma6 (rval n (nnext 8 (nnext 8 (rnext n (nnext 1 (nnext 8 (nnext 1 (some xs))))))))) (fun W h => h.1) _ _ _ _ ?_
      have hHeld2 := And.intro hHeld HYa6.out
      clear hHeld
      have hHeld := hHeld2
      clear hHeld2
      refine tkq (i := 24) (d := 35) (v := (.string (ba (rval n (nnext 8 (nnext 8 (rnext n (nnext 1 (nnext 8 (nnext 1 (some xs))))))))))) rfl rfl (yields_conv (by kernel_rfl) 28 9 (.tmp 34) rfl (.slice Ba6 ma6 ca6) (by simp [Act.eval]) (.string (ba (rval n (nnext 8 (nnext 8 (rnext n (nnext 1 (nnext 8 (nnext 1 (some xs)))))))))) (fun W hW => run_string_by W 28 9 5 Try.underlying28 Try.underlying5 Try.underlying9 _ _ _ _ _ hW.2)) (by assumption) ?_
      simp only [Act.put, sq1, sq2, sq3]
      obtain ⟨V, hV⟩ : ∃ V : Value, V = .agg #[.int .i64 ((nval 1 (some xs) : Nat) : Int), .int .i64 (sx 8 (nval 8 (nnext 1 (some xs)))), .int .i64 ((nval 1 (nnext 8 (nnext 1 (some xs))) : Nat) : Int), .string (ba (rval n (nnext 1 (nnext 8 (nnext 1 (some xs)))))), .int .i64 (sx 8 (nval 8 (rnext n (nnext 1 (nnext 8 (nnext 1 (some xs))))))), .int .i64 (sx 8 (nval 8 (nnext 8 (rnext n (nnext 1 (nnext 8 (nnext 1 (some xs)))))))), .string (ba (rval n (nnext 8 (nnext 8 (rnext n (nnext 1 (nnext 8 (nnext 1 (some xs)))))))))] := ⟨_, rfl⟩
      have HV := Lib.hid hV
      clear hV
      refine tkq (i := 25) (d := 36) (v := V) rfl rfl (yields_build (by kernel_rfl) 58 _ rfl _ (by simp only [List.map_toArray, List.map_cons, List.map_nil, Act.eval]; rfl) V (fun w _ => by rw [HV.out]; exact Try.build_c7 _ _ _ _ _ _ _ w)) (by assumption) ?_
      simp only [Act.put, sq1, sq2, sq3]
      refine wpAnyH_ready (rs := [27]) (by kernel_rfl) (by simp) ?_
      refine AllReadyH.cons (o := ⟨none, .store 58 (.tmp 7) (.tmp 36), _, _, _, none⟩) rfl (fun K hK => ?_) AllReadyH.nil
      have HBp := Lib.hid (HBa6.out); refine step_store_blk rfl 58 (.tmp 7) (.tmp 36) rfl gz [.int .i64 ((nval 1 (some xs) : Nat) : Int), .int .i64 (sx 8 (nval 8 (nnext 1 (some xs)))), .int .i64 ((nval 1 (nnext 8 (nnext 1 (some xs))) : Nat) : Int), .string (ba (rval n (nnext 1 (nnext 8 (nnext 1 (some xs)))))), .int .i64 (sx 8 (nval 8 (rnext n (nnext 1 (nnext 8 (nnext 1 (some xs))))))), .int .i64 (sx 8 (nval 8 (nnext 8 (rnext n (nnext 1 (nnext 8 (nnext 1 (some xs)))))))), .string (ba (rval n (nnext 8 (nnext 8 (rnext n (nnext 1 (nnext 8 (nnext 1 (some xs)))))))))] (by simp [Act.eval]) (by simp only [Act.eval]; exact HV.out) 58 [.int .i64 0, .int .i64 0, .int .i64 0, .string (ba []), .int .i64 0, .int .i64 0, .string (ba [])] (HBa6.out) (by kernel_rfl) rfl (one7 _ _ _ _ _ _ _) ?_; intro we hbe hge; have HBe := Lib.hid hbe; have HGe := Lib.hid hge; have HRe := Lib.hid ((HRa6.out).other hge (fun b hb => ⟨fun e => HNE.out (by rw [Option.some.inj hb]; exact e), by have := Option.some.inj hb; have := HZ.out; omega⟩)); clear hbe hge
      refine hK.out _ _ ⟨⟨(only_new hHeld.1.1 HGe.out HZ.out), By.far hHeld.1.2 HGe.out HBp.out (no_u8c _ _ _ _ _ _ _)⟩, By.far hHeld.2 HGe.out HBp.out (no_u8c _ _ _ _ _ _ _)⟩ (fun hHeld1 => ?_)
      clear hHeld hK K
      have hHeld := hHeld1
      clear hHeld1
      change wpAnyH _ _ _ _ _ _ _ (Act.put _ none undef) _
      simp only [Act.put]
      refine wpAnyH_done (by kernel_rfl) ?_ _
      have HG6 := Lib.hid hHeld.1.1
      clear hHeld
      go_wp2
      go_meet
      case rel => exact ⟨gz, rfl, (by rw [← HC0.out]; exact HBe.out), (by rw [← HST0.out]; exact HRe.out), HZ.out, HZ2.out.grown HG6.out (fun e => by have := Option.some.inj e; have := HGg.out; omega), HX2.out.grown HG6.out HX2.out.size (fun k hk => by have := Option.some.inj hk; have := HGg.out; omega)⟩
    ·as_aux_lemma =>
     obtain ⟨gz, hgz⟩ : ∃ gz, wa1.heap.size = gz := ⟨_, rfl⟩; refine step_alloc (by simp [Region.wanted]) 58 rfl (.pointer (some ⟨gz, 0, none⟩)) (wa1.alloc (.cells #[.int .i64 0, .int .i64 0, .int .i64 0, .string (ba []), .int .i64 0, .int .i64 0, .string (ba [])] 58)) (Try.alloc_cr gz wa1 hgz) ?_; have HBz : Hid (Blk (wa1.alloc (.cells #[.int .i64 0, .int .i64 0, .int .i64 0, .string (ba []), .int .i64 0, .int .i64 0, .string (ba [])] 58)) gz 58 [.int .i64 0, .int .i64 0, .int .i64 0, .string (ba []), .int .i64 0, .int .i64 0, .string (ba [])]) := Lib.hid (Blk.fresh hgz.symm rfl); have HRz := Lib.hid ((HRa1.out).alloc (.cells #[.int .i64 0, .int .i64 0, .int .i64 0, .string (ba []), .int .i64 0, .int .i64 0, .string (ba [])] 58)); have HNE : Hid (gz ≠ g) := Lib.hid (fun e => by have h9 := (HRa1.out).lt; rw [← e, ← hgz] at h9; exact Nat.lt_irrefl _ h9); have HZ : Hid (wr.heap.size ≤ gz) := Lib.hid (hgz ▸ (hHeld).size); clear hgz
     refine hK.out _ _ (only_trans hHeld (only_below ((Below.refl _ _).alloc (Nat.le_refl _) _))) (fun hHeld1 => ?_)
     clear hHeld hK K
     have hHeld := hHeld1
     clear hHeld1
     change wpAnyH _ _ _ _ _ _ _ (Act.put _ (some (7 : Nat)) (.pointer (some ⟨gz, 0, none⟩))) _
     simp only [Act.put, sq1, sq2, sq3]
     refine wpAnyH_ready (rs := [7]) (by kernel_rfl) (by simp) ?_
     refine AllReadyH.cons rfl (fun K hK => ?_) AllReadyH.nil
     go_simp
     refine (number_rs (HRz.out) 1 rfl).mono ?_
     rintro e wa2 ⟨rfl, hr2, hg2⟩; have HRa2 := Lib.hid hr2; have HGa2 := Lib.hid hg2; have HBa2 := Lib.hid ((HBz.out).grown hg2 (fun e => HNE.out (Option.some.inj e))); clear hr2 hg2
     go_wp2_with fail
     refine hK.out _ _ (only_trans hHeld HGa2.out) (fun hHeld1 => ?_)
     clear hHeld hK K
     have hHeld := hHeld1
     clear hHeld1
     refine tkq (i := 8) (d := 19) (v := (.int .i64 ((nval 1 (nnext 8 (nnext 1 (some xs))) : Nat) : Int))) rfl rfl (yields_conv (by kernel_rfl) 70 3 (.tmp 18) rfl (.int .u64 ((nval 1 (nnext 8 (nnext 1 (some xs))) : Nat) : Int)) (by simp [Act.eval]) (.int .i64 ((nval 1 (nnext 8 (nnext 1 (some xs))) : Nat) : Int)) (fun W _ => conv_small 70 3 Try.underlying70 Try.underlying3 _ (by have := nval_lt 1 (nnext 8 (nnext 1 (some xs))); simp only [e1] at this; omega) W)) (by assumption) ?_
     simp only [Act.put, sq1, sq2, sq3]
     refine wpAnyH_ready (rs := [12]) (by kernel_rfl) (by simp) ?_
     refine AllReadyH.cons rfl (fun K hK => ?_) AllReadyH.nil
     go_simp
     refine (row_rs (HRa2.out) n).mono ?_
     rintro e wa3 ⟨Ba3, ma3, ca3, rfl, hy3, hr3, hg3⟩; have HRa3 := Lib.hid hr3; have HGa3 := Lib.hid hg3; have HBa3 := Lib.hid ((HBa2.out).grown hg3 (fun e => HNE.out (Option.some.inj e))); have HYa3 := Lib.hid hy3; clear hr3 hg3 hy3
     go_wp2_with fail
     refine hK.out _ _ (only_trans hHeld HGa3.out) (fun hHeld1 => ?_)
     clear hHeld hK K
     have hHeld := hHeld1
     clear hHeld1
     refine wpAnyH_weaken (S' := fun W => (wr.grownBy W (some g)) ∧ By W (fun _ => True) Ba3 ma3 (rval n (nnext 1 (nnext 8 (nnext 1 (some xs)))))) (fun W h => h.1) _ _ _ _ ?_
     have hHeld2 := And.intro hHeld HYa3.out
     clear hHeld
     have hHeld := hHeld2
     clear hHeld2
     refine tkq (i := 13) (d := 24) (v := (.string (ba (rval n (nnext 1 (nnext 8 (nnext 1 (some xs)))))))) rfl rfl (yields_conv (by kernel_rfl) 28 9 (.tmp 23) rfl (.slice Ba3 ma3 ca3) (by simp [Act.eval]) (.string (ba (rval n (nnext 1 (nnext 8 (nnext 1 (some xs))))))) (fun W hW => run_string_by W 28 9 5 Try.underlying28 Try.underlying5 Try.underlying9 _ _ _ _ _ hW.2)) (by assumption) ?_
     simp only [Act.put, sq1, sq2, sq3]
     refine wpAnyH_ready (rs := [15]) (by kernel_rfl) (by simp) ?_
     refine AllReadyH.cons rfl (fun K hK => ?_) AllReadyH.nil
     go_simp
     refine (number_rs (HRa3.out) 8 rfl).mono ?_
     rintro e wa4 ⟨rfl, hr4, hg4⟩; have HRa4 := Lib.hid hr4; have HGa4 := Lib.hid hg4; have HBa4 := Lib.hid ((HBa3.out).grown hg4 (fun e => HNE.out (Option.some.inj e))); clear hr4 hg4
     go_wp2_with fail
     refine hK.out _ _ ⟨(only_trans hHeld.1 HGa4.out), (HRa3.out).by_keep hHeld.2 HGa4.out⟩ (fun hHeld1 => ?_)
     clear hHeld hK K
     have hHeld := hHeld1
     clear hHeld1
     refine tkq (i := 16) (d := 27) (v := (.int .i64 (sx 8 (nval 8 (rnext n (nnext 1 (nnext 8 (nnext 1 (some xs))))))))) rfl rfl (yields_conv (by kernel_rfl) 70 2 (.tmp 26) rfl (.int .u64 ((nval 8 (rnext n (nnext 1 (nnext 8 (nnext 1 (some xs))))) : Nat) : Int)) (by simp [Act.eval]) (.int .i64 (sx 8 (nval 8 (rnext n (nnext 1 (nnext 8 (nnext 1 (some xs)))))))) (fun W _ => conv_i64 70 2 Try.underlying70 Try.underlying2 _ (by have := nval_lt 8 (rnext n (nnext 1 (nnext 8 (nnext 1 (some xs))))); simp only [e8] at this; omega) W)) (by assumption) ?_
     simp only [Act.put, sq1, sq2, sq3]
     refine wpAnyH_ready (rs := [18]) (by kernel_rfl) (by simp) ?_
     refine AllReadyH.cons rfl (fun K hK => ?_) AllReadyH.nil
     go_simp
     refine (number_rs (HRa4.out) 8 rfl).mono ?_
     rintro e wa5 ⟨rfl, hr5, hg5⟩; have HRa5 := Lib.hid hr5; have HGa5 := Lib.hid hg5; have HBa5 := Lib.hid ((HBa4.out).grown hg5 (fun e => HNE.out (Option.some.inj e))); clear hr5 hg5
     go_wp2_with fail
     refine hK.out _ _ ⟨(only_trans hHeld.1 HGa5.out), (HRa4.out).by_keep hHeld.2 HGa5.out⟩ (fun hHeld1 => ?_)
     clear hHeld hK K
     have hHeld := hHeld1
     clear hHeld1
     refine tkq (i := 19) (d := 30) (v := (.int .i64 (sx 8 (nval 8 (nnext 8 (rnext n (nnext 1 (nnext 8 (nnext 1 (some xs)))))))))) rfl rfl (yields_conv (by kernel_rfl) 70 2 (.tmp 29) rfl (.int .u64 ((nval 8 (nnext 8 (rnext n (nnext 1 (nnext 8 (nnext 1 (some xs)))))) : Nat) : Int)) (by simp [Act.eval]) (.int .i64 (sx 8 (nval 8 (nnext 8 (rnext n (nnext 1 (nnext 8 (nnext 1 (some xs))))))))) (fun W _ => conv_i64 70 2 Try.underlying70 Try.underlying2 _ (by have := nval_lt 8 (nnext 8 (rnext n (nnext 1 (nnext 8 (nnext 1 (some xs)))))); simp only [e8] at this; omega) W)) (by assumption) ?_
     simp only [Act.put, sq1, sq2, sq3]
     refine wpAnyH_ready (rs := [23]) (by kernel_rfl) (by simp) ?_
     refine AllReadyH.cons rfl (fun K hK => ?_) AllReadyH.nil
     go_simp
     refine (row_rs (HRa5.out) n).mono ?_
     rintro e wa6 ⟨Ba6, ma6, ca6, rfl, hy6, hr6, hg6⟩; have HRa6 := Lib.hid hr6; have HGa6 := Lib.hid hg6; have HBa6 := Lib.hid ((HBa5.out).grown hg6 (fun e => HNE.out (Option.some.inj e))); have HYa6 := Lib.hid hy6; clear hr6 hg6 hy6
     go_wp2_with fail
     refine hK.out _ _ ⟨(only_trans hHeld.1 HGa6.out), (HRa5.out).by_keep hHeld.2 HGa6.out⟩ (fun hHeld1 => ?_)
     clear hHeld hK K
     have hHeld := hHeld1
     clear hHeld1
     refine wpAnyH_weaken (S' := fun W => ((wr.grownBy W (some g)) ∧ By W (fun _ => True) Ba3 ma3 (rval n (nnext 1 (nnext 8 (nnext 1 (some xs)))))) ∧ By W (fun _ => True) Ba6 ma6 (rval n (nnext 8 (nnext 8 (rnext n (nnext 1 (nnext 8 (nnext 1 (some xs))))))))) (fun W h => h.1) _ _ _ _ ?_
     have hHeld2 := And.intro hHeld HYa6.out
     clear hHeld
     have hHeld := hHeld2
     clear hHeld2
     refine tkq (i := 24) (d := 35) (v := (.string (ba (rval n (nnext 8 (nnext 8 (rnext n (nnext 1 (nnext 8 (nnext 1 (some xs))))))))))) rfl rfl (yields_conv (by kernel_rfl) 28 9 (.tmp 34) rfl (.slice Ba6 ma6 ca6) (by simp [Act.eval]) (.string (ba (rval n (nnext 8 (nnext 8 (rnext n (nnext 1 (nnext 8 (nnext 1 (some xs)))))))))) (fun W hW => run_string_by W 28 9 5 Try.underlying28 Try.underlying5 Try.underlying9 _ _ _ _ _ hW.2)) (by assumption) ?_
     simp only [Act.put, sq1, sq2, sq3]
     obtain ⟨V, hV⟩ : ∃ V : Value, V = .agg #[.int .i64 ((nval 1 (some xs) : Nat) : Int), .int .i64 (sx 8 (nval 8 (nnext 1 (some xs)))), .int .i64 ((nval 1 (nnext 8 (nnext 1 (some xs))) : Nat) : Int), .string (ba (rval n (nnext 1 (nnext 8 (nnext 1 (some xs)))))), .int .i64 (sx 8 (nval 8 (rnext n (nnext 1 (nnext 8 (nnext 1 (some xs))))))), .int .i64 (sx 8 (nval 8 (nnext 8 (rnext n (nnext 1 (nnext 8 (nnext 1 (some xs)))))))), .string (ba (rval n (nnext 8 (nnext 8 (rnext n (nnext 1 (nnext 8 (nnext 1 (some xs)))))))))] := ⟨_, rfl⟩
     have HV := Lib.hid hV
     clear hV
     refine tkq (i := 25) (d := 36) (v := V) rfl rfl (yields_build (by kernel_rfl) 58 _ rfl _ (by simp only [List.map_toArray, List.map_cons, List.map_nil, Act.eval]; rfl) V (fun w _ => by rw [HV.out]; exact Try.build_c7 _ _ _ _ _ _ _ w)) (by assumption) ?_
     simp only [Act.put, sq1, sq2, sq3]
     refine wpAnyH_ready (rs := [27]) (by kernel_rfl) (by simp) ?_
     refine AllReadyH.cons (o := ⟨none, .store 58 (.tmp 7) (.tmp 36), _, _, _, none⟩) rfl (fun K hK => ?_) AllReadyH.nil
     have HBp := Lib.hid (HBa6.out); refine step_store_blk rfl 58 (.tmp 7) (.tmp 36) rfl gz [.int .i64 ((nval 1 (some xs) : Nat) : Int), .int .i64 (sx 8 (nval 8 (nnext 1 (some xs)))), .int .i64 ((nval 1 (nnext 8 (nnext 1 (some xs))) : Nat) : Int), .string (ba (rval n (nnext 1 (nnext 8 (nnext 1 (some xs)))))), .int .i64 (sx 8 (nval 8 (rnext n (nnext 1 (nnext 8 (nnext 1 (some xs))))))), .int .i64 (sx 8 (nval 8 (nnext 8 (rnext n (nnext 1 (nnext 8 (nnext 1 (some xs)))))))), .string (ba (rval n (nnext 8 (nnext 8 (rnext n (nnext 1 (nnext 8 (nnext 1 (some xs)))))))))] (by simp [Act.eval]) (by simp only [Act.eval]; exact HV.out) 58 [.int .i64 0, .int .i64 0, .int .i64 0, .string (ba []), .int .i64 0, .int .i64 0, .string (ba [])] (HBa6.out) (by kernel_rfl) rfl (one7 _ _ _ _ _ _ _) ?_; intro we hbe hge; have HBe := Lib.hid hbe; have HGe := Lib.hid hge; have HRe := Lib.hid ((HRa6.out).other hge (fun b hb => ⟨fun e => HNE.out (by rw [Option.some.inj hb]; exact e), by have := Option.some.inj hb; have := HZ.out; omega⟩)); clear hbe hge
     refine hK.out _ _ ⟨⟨(only_new hHeld.1.1 HGe.out HZ.out), By.far hHeld.1.2 HGe.out HBp.out (no_u8c _ _ _ _ _ _ _)⟩, By.far hHeld.2 HGe.out HBp.out (no_u8c _ _ _ _ _ _ _)⟩ (fun hHeld1 => ?_)
     clear hHeld hK K
     have hHeld := hHeld1
     clear hHeld1
     change wpAnyH _ _ _ _ _ _ _ (Act.put _ none undef) _
     simp only [Act.put]
     refine wpAnyH_done (by kernel_rfl) ?_ _
     have HG6 := Lib.hid hHeld.1.1
     clear hHeld
     go_wp2
     go_meet
     case rel => exact ⟨gz, rfl, (by rw [← HC0.out]; exact HBe.out), (by rw [← HST0.out]; exact HRe.out), HZ.out, HZ2.out.grown HG6.out (fun e => by have := Option.some.inj e; have := HGg.out; omega), HX2.out.grown HG6.out HX2.out.size (fun k hk => by have := Option.some.inj hk; have := HGg.out; omega)⟩
   ·as_aux_lemma =>
    obtain ⟨gz, hgz⟩ : ∃ gz, wa0.heap.size = gz := ⟨_, rfl⟩; refine step_alloc (by simp [Region.wanted]) 58 rfl (.pointer (some ⟨gz, 0, none⟩)) (wa0.alloc (.cells #[.int .i64 0, .int .i64 0, .int .i64 0, .string (ba []), .int .i64 0, .int .i64 0, .string (ba [])] 58)) (Try.alloc_cr gz wa0 hgz) ?_; have HBz : Hid (Blk (wa0.alloc (.cells #[.int .i64 0, .int .i64 0, .int .i64 0, .string (ba []), .int .i64 0, .int .i64 0, .string (ba [])] 58)) gz 58 [.int .i64 0, .int .i64 0, .int .i64 0, .string (ba []), .int .i64 0, .int .i64 0, .string (ba [])]) := Lib.hid (Blk.fresh hgz.symm rfl); have HRz := Lib.hid ((HRa0.out).alloc (.cells #[.int .i64 0, .int .i64 0, .int .i64 0, .string (ba []), .int .i64 0, .int .i64 0, .string (ba [])] 58)); have HNE : Hid (gz ≠ g) := Lib.hid (fun e => by have h9 := (HRa0.out).lt; rw [← e, ← hgz] at h9; exact Nat.lt_irrefl _ h9); have HZ : Hid (wr.heap.size ≤ gz) := Lib.hid (hgz ▸ (hHeld).size); clear hgz
    refine hK.out _ _ (only_trans hHeld (only_below ((Below.refl _ _).alloc (Nat.le_refl _) _))) (fun hHeld1 => ?_)
    clear hHeld hK K
    have hHeld := hHeld1
    clear hHeld1
    change wpAnyH _ _ _ _ _ _ _ (Act.put _ (some (7 : Nat)) (.pointer (some ⟨gz, 0, none⟩))) _
    simp only [Act.put, sq1, sq2, sq3]
    refine wpAnyH_ready (rs := [4]) (by kernel_rfl) (by simp) ?_
    refine AllReadyH.cons rfl (fun K hK => ?_) AllReadyH.nil
    go_simp
    refine (number_rs (HRz.out) 8 rfl).mono ?_
    rintro e wa1 ⟨rfl, hr1, hg1⟩; have HRa1 := Lib.hid hr1; have HGa1 := Lib.hid hg1; have HBa1 := Lib.hid ((HBz.out).grown hg1 (fun e => HNE.out (Option.some.inj e))); clear hr1 hg1
    go_wp2_with fail
    refine hK.out _ _ (only_trans hHeld HGa1.out) (fun hHeld1 => ?_)
    clear hHeld hK K
    have hHeld := hHeld1
    clear hHeld1
    refine tkq (i := 5) (d := 16) (v := (.int .i64 (sx 8 (nval 8 (nnext 1 (some xs)))))) rfl rfl (yields_conv (by kernel_rfl) 70 2 (.tmp 15) rfl (.int .u64 ((nval 8 (nnext 1 (some xs)) : Nat) : Int)) (by simp [Act.eval]) (.int .i64 (sx 8 (nval 8 (nnext 1 (some xs))))) (fun W _ => conv_i64 70 2 Try.underlying70 Try.underlying2 _ (by have := nval_lt 8 (nnext 1 (some xs)); simp only [e8] at this; omega) W)) (by assumption) ?_
    simp only [Act.put, sq1, sq2, sq3]
    refine wpAnyH_ready (rs := [7]) (by kernel_rfl) (by simp) ?_
    refine AllReadyH.cons rfl (fun K hK => ?_) AllReadyH.nil
    go_simp
    refine (number_rs (HRa1.out) 1 rfl).mono ?_
    rintro e wa2 ⟨rfl, hr2, hg2⟩; have HRa2 := Lib.hid hr2; have HGa2 := Lib.hid hg2; have HBa2 := Lib.hid ((HBa1.out).grown hg2 (fun e => HNE.out (Option.some.inj e))); clear hr2 hg2
    go_wp2_with fail
    refine hK.out _ _ (only_trans hHeld HGa2.out) (fun hHeld1 => ?_)
    clear hHeld hK K
    have hHeld := hHeld1
    clear hHeld1
    refine tkq (i := 8) (d := 19) (v := (.int .i64 ((nval 1 (nnext 8 (nnext 1 (some xs))) : Nat) : Int))) rfl rfl (yields_conv (by kernel_rfl) 70 3 (.tmp 18) rfl (.int .u64 ((nval 1 (nnext 8 (nnext 1 (some xs))) : Nat) : Int)) (by simp [Act.eval]) (.int .i64 ((nval 1 (nnext 8 (nnext 1 (some xs))) : Nat) : Int)) (fun W _ => conv_small 70 3 Try.underlying70 Try.underlying3 _ (by have := nval_lt 1 (nnext 8 (nnext 1 (some xs))); simp only [e1] at this; omega) W)) (by assumption) ?_
    simp only [Act.put, sq1, sq2, sq3]
    refine wpAnyH_ready (rs := [12]) (by kernel_rfl) (by simp) ?_
    refine AllReadyH.cons rfl (fun K hK => ?_) AllReadyH.nil
    go_simp
    refine (row_rs (HRa2.out) n).mono ?_
    rintro e wa3 ⟨Ba3, ma3, ca3, rfl, hy3, hr3, hg3⟩; have HRa3 := Lib.hid hr3; have HGa3 := Lib.hid hg3; have HBa3 := Lib.hid ((HBa2.out).grown hg3 (fun e => HNE.out (Option.some.inj e))); have HYa3 := Lib.hid hy3; clear hr3 hg3 hy3
    go_wp2_with fail
    refine hK.out _ _ (only_trans hHeld HGa3.out) (fun hHeld1 => ?_)
    clear hHeld hK K
    have hHeld := hHeld1
    clear hHeld1
    refine wpAnyH_weaken (S' := fun W => (wr.grownBy W (some g)) ∧ By W (fun _ => True) Ba3 ma3 (rval n (nnext 1 (nnext 8 (nnext 1 (some xs)))))) (fun W h => h.1) _ _ _ _ ?_
    have hHeld2 := And.intro hHeld HYa3.out
    clear hHeld
    have hHeld := hHeld2
    clear hHeld2
    refine tkq (i := 13) (d := 24) (v := (.string (ba (rval n (nnext 1 (nnext 8 (nnext 1 (some xs)))))))) rfl rfl (yields_conv (by kernel_rfl) 28 9 (.tmp 23) rfl (.slice Ba3 ma3 ca3) (by simp [Act.eval]) (.string (ba (rval n (nnext 1 (nnext 8 (nnext 1 (some xs))))))) (fun W hW => run_string_by W 28 9 5 Try.underlying28 Try.underlying5 Try.underlying9 _ _ _ _ _ hW.2)) (by assumption) ?_
    simp only [Act.put, sq1, sq2, sq3]
    refine wpAnyH_ready (rs := [15]) (by kernel_rfl) (by simp) ?_
    refine AllReadyH.cons rfl (fun K hK => ?_) AllReadyH.nil
    go_simp
    refine (number_rs (HRa3.out) 8 rfl).mono ?_
    rintro e wa4 ⟨rfl, hr4, hg4⟩; have HRa4 := Lib.hid hr4; have HGa4 := Lib.hid hg4; have HBa4 := Lib.hid ((HBa3.out).grown hg4 (fun e => HNE.out (Option.some.inj e))); clear hr4 hg4
    go_wp2_with fail
    refine hK.out _ _ ⟨(only_trans hHeld.1 HGa4.out), (HRa3.out).by_keep hHeld.2 HGa4.out⟩ (fun hHeld1 => ?_)
    clear hHeld hK K
    have hHeld := hHeld1
    clear hHeld1
    refine tkq (i := 16) (d := 27) (v := (.int .i64 (sx 8 (nval 8 (rnext n (nnext 1 (nnext 8 (nnext 1 (some xs))))))))) rfl rfl (yields_conv (by kernel_rfl) 70 2 (.tmp 26) rfl (.int .u64 ((nval 8 (rnext n (nnext 1 (nnext 8 (nnext 1 (some xs))))) : Nat) : Int)) (by simp [Act.eval]) (.int .i64 (sx 8 (nval 8 (rnext n (nnext 1 (nnext 8 (nnext 1 (some xs)))))))) (fun W _ => conv_i64 70 2 Try.underlying70 Try.underlying2 _ (by have := nval_lt 8 (rnext n (nnext 1 (nnext 8 (nnext 1 (some xs))))); simp only [e8] at this; omega) W)) (by assumption) ?_
    simp only [Act.put, sq1, sq2, sq3]
    refine wpAnyH_ready (rs := [18]) (by kernel_rfl) (by simp) ?_
    refine AllReadyH.cons rfl (fun K hK => ?_) AllReadyH.nil
    go_simp
    refine (number_rs (HRa4.out) 8 rfl).mono ?_
    rintro e wa5 ⟨rfl, hr5, hg5⟩; have HRa5 := Lib.hid hr5; have HGa5 := Lib.hid hg5; have HBa5 := Lib.hid ((HBa4.out).grown hg5 (fun e => HNE.out (Option.some.inj e))); clear hr5 hg5
    go_wp2_with fail
    refine hK.out _ _ ⟨(only_trans hHeld.1 HGa5.out), (HRa4.out).by_keep hHeld.2 HGa5.out⟩ (fun hHeld1 => ?_)
    clear hHeld hK K
    have hHeld := hHeld1
    clear hHeld1
    refine tkq (i := 19) (d := 30) (v := (.int .i64 (sx 8 (nval 8 (nnext 8 (rnext n (nnext 1 (nnext 8 (nnext 1 (some xs)))))))))) rfl rfl (yields_conv (by kernel_rfl) 70 2 (.tmp 29) rfl (.int .u64 ((nval 8 (nnext 8 (rnext n (nnext 1 (nnext 8 (nnext 1 (some xs)))))) : Nat) : Int)) (by simp [Act.eval]) (.int .i64 (sx 8 (nval 8 (nnext 8 (rnext n (nnext 1 (nnext 8 (nnext 1 (some xs))))))))) (fun W _ => conv_i64 70 2 Try.underlying70 Try.underlying2 _ (by have := nval_lt 8 (nnext 8 (rnext n (nnext 1 (nnext 8 (nnext 1 (some xs)))))); simp only [e8] at this; omega) W)) (by assumption) ?_
    simp only [Act.put, sq1, sq2, sq3]
    refine wpAnyH_ready (rs := [23]) (by kernel_rfl) (by simp) ?_
    refine AllReadyH.cons rfl (fun K hK => ?_) AllReadyH.nil
    go_simp
    refine (row_rs (HRa5.out) n).mono ?_
    rintro e wa6 ⟨Ba6, ma6, ca6, rfl, hy6, hr6, hg6⟩; have HRa6 := Lib.hid hr6; have HGa6 := Lib.hid hg6; have HBa6 := Lib.hid ((HBa5.out).grown hg6 (fun e => HNE.out (Option.some.inj e))); have HYa6 := Lib.hid hy6; clear hr6 hg6 hy6
    go_wp2_with fail
    refine hK.out _ _ ⟨(only_trans hHeld.1 HGa6.out), (HRa5.out).by_keep hHeld.2 HGa6.out⟩ (fun hHeld1 => ?_)
    clear hHeld hK K
    have hHeld := hHeld1
    clear hHeld1
    refine wpAnyH_weaken (S' := fun W => ((wr.grownBy W (some g)) ∧ By W (fun _ => True) Ba3 ma3 (rval n (nnext 1 (nnext 8 (nnext 1 (some xs)))))) ∧ By W (fun _ => True) Ba6 ma6 (rval n (nnext 8 (nnext 8 (rnext n (nnext 1 (nnext 8 (nnext 1 (some xs))))))))) (fun W h => h.1) _ _ _ _ ?_
    have hHeld2 := And.intro hHeld HYa6.out
    clear hHeld
    have hHeld := hHeld2
    clear hHeld2
    refine tkq (i := 24) (d := 35) (v := (.string (ba (rval n (nnext 8 (nnext 8 (rnext n (nnext 1 (nnext 8 (nnext 1 (some xs))))))))))) rfl rfl (yields_conv (by kernel_rfl) 28 9 (.tmp 34) rfl (.slice Ba6 ma6 ca6) (by simp [Act.eval]) (.string (ba (rval n (nnext 8 (nnext 8 (rnext n (nnext 1 (nnext 8 (nnext 1 (some xs)))))))))) (fun W hW => run_string_by W 28 9 5 Try.underlying28 Try.underlying5 Try.underlying9 _ _ _ _ _ hW.2)) (by assumption) ?_
    simp only [Act.put, sq1, sq2, sq3]
    obtain ⟨V, hV⟩ : ∃ V : Value, V = .agg #[.int .i64 ((nval 1 (some xs) : Nat) : Int), .int .i64 (sx 8 (nval 8 (nnext 1 (some xs)))), .int .i64 ((nval 1 (nnext 8 (nnext 1 (some xs))) : Nat) : Int), .string (ba (rval n (nnext 1 (nnext 8 (nnext 1 (some xs)))))), .int .i64 (sx 8 (nval 8 (rnext n (nnext 1 (nnext 8 (nnext 1 (some xs))))))), .int .i64 (sx 8 (nval 8 (nnext 8 (rnext n (nnext 1 (nnext 8 (nnext 1 (some xs)))))))), .string (ba (rval n (nnext 8 (nnext 8 (rnext n (nnext 1 (nnext 8 (nnext 1 (some xs)))))))))] := ⟨_, rfl⟩
    have HV := Lib.hid hV
    clear hV
    refine tkq (i := 25) (d := 36) (v := V) rfl rfl (yields_build (by kernel_rfl) 58 _ rfl _ (by simp only [List.map_toArray, List.map_cons, List.map_nil, Act.eval]; rfl) V (fun w _ => by rw [HV.out]; exact Try.build_c7 _ _ _ _ _ _ _ w)) (by assumption) ?_
    simp only [Act.put, sq1, sq2, sq3]
    refine wpAnyH_ready (rs := [27]) (by kernel_rfl) (by simp) ?_
    refine AllReadyH.cons (o := ⟨none, .store 58 (.tmp 7) (.tmp 36), _, _, _, none⟩) rfl (fun K hK => ?_) AllReadyH.nil
    have HBp := Lib.hid (HBa6.out); refine step_store_blk rfl 58 (.tmp 7) (.tmp 36) rfl gz [.int .i64 ((nval 1 (some xs) : Nat) : Int), .int .i64 (sx 8 (nval 8 (nnext 1 (some xs)))), .int .i64 ((nval 1 (nnext 8 (nnext 1 (some xs))) : Nat) : Int), .string (ba (rval n (nnext 1 (nnext 8 (nnext 1 (some xs)))))), .int .i64 (sx 8 (nval 8 (rnext n (nnext 1 (nnext 8 (nnext 1 (some xs))))))), .int .i64 (sx 8 (nval 8 (nnext 8 (rnext n (nnext 1 (nnext 8 (nnext 1 (some xs)))))))), .string (ba (rval n (nnext 8 (nnext 8 (rnext n (nnext 1 (nnext 8 (nnext 1 (some xs)))))))))] (by simp [Act.eval]) (by simp only [Act.eval]; exact HV.out) 58 [.int .i64 0, .int .i64 0, .int .i64 0, .string (ba []), .int .i64 0, .int .i64 0, .string (ba [])] (HBa6.out) (by kernel_rfl) rfl (one7 _ _ _ _ _ _ _) ?_; intro we hbe hge; have HBe := Lib.hid hbe; have HGe := Lib.hid hge; have HRe := Lib.hid ((HRa6.out).other hge (fun b hb => ⟨fun e => HNE.out (by rw [Option.some.inj hb]; exact e), by have := Option.some.inj hb; have := HZ.out; omega⟩)); clear hbe hge
    refine hK.out _ _ ⟨⟨(only_new hHeld.1.1 HGe.out HZ.out), By.far hHeld.1.2 HGe.out HBp.out (no_u8c _ _ _ _ _ _ _)⟩, By.far hHeld.2 HGe.out HBp.out (no_u8c _ _ _ _ _ _ _)⟩ (fun hHeld1 => ?_)
    clear hHeld hK K
    have hHeld := hHeld1
    clear hHeld1
    change wpAnyH _ _ _ _ _ _ _ (Act.put _ none undef) _
    simp only [Act.put]
    refine wpAnyH_done (by kernel_rfl) ?_ _
    have HG6 := Lib.hid hHeld.1.1
    clear hHeld
    go_wp2
    go_meet
    case rel => exact ⟨gz, rfl, (by rw [← HC0.out]; exact HBe.out), (by rw [← HST0.out]; exact HRe.out), HZ.out, HZ2.out.grown HG6.out (fun e => by have := Option.some.inj e; have := HGg.out; omega), HX2.out.grown HG6.out HX2.out.size (fun k hk => by have := Option.some.inj hk; have := HGg.out; omega)⟩
  ·as_aux_lemma =>
   obtain ⟨gz, hgz⟩ : ∃ gz, wr.drew.heap.size = gz := ⟨_, rfl⟩; refine step_alloc (by simp [Region.wanted]) 58 rfl (.pointer (some ⟨gz, 0, none⟩)) (wr.drew.alloc (.cells #[.int .i64 0, .int .i64 0, .int .i64 0, .string (ba []), .int .i64 0, .int .i64 0, .string (ba [])] 58)) (Try.alloc_cr gz wr.drew hgz) ?_; have HBz : Hid (Blk (wr.drew.alloc (.cells #[.int .i64 0, .int .i64 0, .int .i64 0, .string (ba []), .int .i64 0, .int .i64 0, .string (ba [])] 58)) gz 58 [.int .i64 0, .int .i64 0, .int .i64 0, .string (ba []), .int .i64 0, .int .i64 0, .string (ba [])]) := Lib.hid (Blk.fresh hgz.symm rfl); have HRz := Lib.hid ((HR.out.drew).alloc (.cells #[.int .i64 0, .int .i64 0, .int .i64 0, .string (ba []), .int .i64 0, .int .i64 0, .string (ba [])] 58)); have HNE : Hid (gz ≠ g) := Lib.hid (fun e => by have h9 := (HR.out.drew).lt; rw [← e, ← hgz] at h9; exact Nat.lt_irrefl _ h9); have HZ : Hid (wr.heap.size ≤ gz) := Lib.hid (hgz ▸ (hHeld).size); clear hgz
   refine hK.out _ _ (only_trans hHeld (only_below ((Below.refl _ _).alloc (Nat.le_refl _) _))) (fun hHeld1 => ?_)
   clear hHeld hK K
   have hHeld := hHeld1
   clear hHeld1
   change wpAnyH _ _ _ _ _ _ _ (Act.put _ (some (7 : Nat)) (.pointer (some ⟨gz, 0, none⟩))) _
   simp only [Act.put, sq1, sq2, sq3]
   refine wpAnyH_ready (rs := [1]) (by kernel_rfl) (by simp) ?_
   refine AllReadyH.cons rfl (fun K hK => ?_) AllReadyH.nil
   go_simp
   refine (number_rs (HRz.out) 1 rfl).mono ?_
   rintro e wa0 ⟨rfl, hr0, hg0⟩; have HRa0 := Lib.hid hr0; have HGa0 := Lib.hid hg0; have HBa0 := Lib.hid ((HBz.out).grown hg0 (fun e => HNE.out (Option.some.inj e))); clear hr0 hg0
   go_wp2_with fail
   refine hK.out _ _ (only_trans hHeld HGa0.out) (fun hHeld1 => ?_)
   clear hHeld hK K
   have hHeld := hHeld1
   clear hHeld1
   refine tkq (i := 2) (d := 13) (v := (.int .i64 ((nval 1 (some xs) : Nat) : Int))) rfl rfl (yields_conv (by kernel_rfl) 70 3 (.tmp 12) rfl (.int .u64 ((nval 1 (some xs) : Nat) : Int)) (by simp [Act.eval]) (.int .i64 ((nval 1 (some xs) : Nat) : Int)) (fun W _ => conv_small 70 3 Try.underlying70 Try.underlying3 _ (by have := nval_lt 1 (some xs); simp only [e1] at this; omega) W)) (by assumption) ?_
   simp only [Act.put, sq1, sq2, sq3]
   refine wpAnyH_ready (rs := [4]) (by kernel_rfl) (by simp) ?_
   refine AllReadyH.cons rfl (fun K hK => ?_) AllReadyH.nil
   go_simp
   refine (number_rs (HRa0.out) 8 rfl).mono ?_
   rintro e wa1 ⟨rfl, hr1, hg1⟩; have HRa1 := Lib.hid hr1; have HGa1 := Lib.hid hg1; have HBa1 := Lib.hid ((HBa0.out).grown hg1 (fun e => HNE.out (Option.some.inj e))); clear hr1 hg1
   go_wp2_with fail
   refine hK.out _ _ (only_trans hHeld HGa1.out) (fun hHeld1 => ?_)
   clear hHeld hK K
   have hHeld := hHeld1
   clear hHeld1
   refine tkq (i := 5) (d := 16) (v := (.int .i64 (sx 8 (nval 8 (nnext 1 (some xs)))))) rfl rfl (yields_conv (by kernel_rfl) 70 2 (.tmp 15) rfl (.int .u64 ((nval 8 (nnext 1 (some xs)) : Nat) : Int)) (by simp [Act.eval]) (.int .i64 (sx 8 (nval 8 (nnext 1 (some xs))))) (fun W _ => conv_i64 70 2 Try.underlying70 Try.underlying2 _ (by have := nval_lt 8 (nnext 1 (some xs)); simp only [e8] at this; omega) W)) (by assumption) ?_
   simp only [Act.put, sq1, sq2, sq3]
   refine wpAnyH_ready (rs := [7]) (by kernel_rfl) (by simp) ?_
   refine AllReadyH.cons rfl (fun K hK => ?_) AllReadyH.nil
   go_simp
   refine (number_rs (HRa1.out) 1 rfl).mono ?_
   rintro e wa2 ⟨rfl, hr2, hg2⟩; have HRa2 := Lib.hid hr2; have HGa2 := Lib.hid hg2; have HBa2 := Lib.hid ((HBa1.out).grown hg2 (fun e => HNE.out (Option.some.inj e))); clear hr2 hg2
   go_wp2_with fail
   refine hK.out _ _ (only_trans hHeld HGa2.out) (fun hHeld1 => ?_)
   clear hHeld hK K
   have hHeld := hHeld1
   clear hHeld1
   refine tkq (i := 8) (d := 19) (v := (.int .i64 ((nval 1 (nnext 8 (nnext 1 (some xs))) : Nat) : Int))) rfl rfl (yields_conv (by kernel_rfl) 70 3 (.tmp 18) rfl (.int .u64 ((nval 1 (nnext 8 (nnext 1 (some xs))) : Nat) : Int)) (by simp [Act.eval]) (.int .i64 ((nval 1 (nnext 8 (nnext 1 (some xs))) : Nat) : Int)) (fun W _ => conv_small 70 3 Try.underlying70 Try.underlying3 _ (by have := nval_lt 1 (nnext 8 (nnext 1 (some xs))); simp only [e1] at this; omega) W)) (by assumption) ?_
   simp only [Act.put, sq1, sq2, sq3]
   refine wpAnyH_ready (rs := [12]) (by kernel_rfl) (by simp) ?_
   refine AllReadyH.cons rfl (fun K hK => ?_) AllReadyH.nil
   go_simp
   refine (row_rs (HRa2.out) n).mono ?_
   rintro e wa3 ⟨Ba3, ma3, ca3, rfl, hy3, hr3, hg3⟩; have HRa3 := Lib.hid hr3; have HGa3 := Lib.hid hg3; have HBa3 := Lib.hid ((HBa2.out).grown hg3 (fun e => HNE.out (Option.some.inj e))); have HYa3 := Lib.hid hy3; clear hr3 hg3 hy3
   go_wp2_with fail
   refine hK.out _ _ (only_trans hHeld HGa3.out) (fun hHeld1 => ?_)
   clear hHeld hK K
   have hHeld := hHeld1
   clear hHeld1
   refine wpAnyH_weaken (S' := fun W => (wr.grownBy W (some g)) ∧ By W (fun _ => True) Ba3 ma3 (rval n (nnext 1 (nnext 8 (nnext 1 (some xs)))))) (fun W h => h.1) _ _ _ _ ?_
   have hHeld2 := And.intro hHeld HYa3.out
   clear hHeld
   have hHeld := hHeld2
   clear hHeld2
   refine tkq (i := 13) (d := 24) (v := (.string (ba (rval n (nnext 1 (nnext 8 (nnext 1 (some xs)))))))) rfl rfl (yields_conv (by kernel_rfl) 28 9 (.tmp 23) rfl (.slice Ba3 ma3 ca3) (by simp [Act.eval]) (.string (ba (rval n (nnext 1 (nnext 8 (nnext 1 (some xs))))))) (fun W hW => run_string_by W 28 9 5 Try.underlying28 Try.underlying5 Try.underlying9 _ _ _ _ _ hW.2)) (by assumption) ?_
   simp only [Act.put, sq1, sq2, sq3]
   refine wpAnyH_ready (rs := [15]) (by kernel_rfl) (by simp) ?_
   refine AllReadyH.cons rfl (fun K hK => ?_) AllReadyH.nil
   go_simp
   refine (number_rs (HRa3.out) 8 rfl).mono ?_
   rintro e wa4 ⟨rfl, hr4, hg4⟩; have HRa4 := Lib.hid hr4; have HGa4 := Lib.hid hg4; have HBa4 := Lib.hid ((HBa3.out).grown hg4 (fun e => HNE.out (Option.some.inj e))); clear hr4 hg4
   go_wp2_with fail
   refine hK.out _ _ ⟨(only_trans hHeld.1 HGa4.out), (HRa3.out).by_keep hHeld.2 HGa4.out⟩ (fun hHeld1 => ?_)
   clear hHeld hK K
   have hHeld := hHeld1
   clear hHeld1
   refine tkq (i := 16) (d := 27) (v := (.int .i64 (sx 8 (nval 8 (rnext n (nnext 1 (nnext 8 (nnext 1 (some xs))))))))) rfl rfl (yields_conv (by kernel_rfl) 70 2 (.tmp 26) rfl (.int .u64 ((nval 8 (rnext n (nnext 1 (nnext 8 (nnext 1 (some xs))))) : Nat) : Int)) (by simp [Act.eval]) (.int .i64 (sx 8 (nval 8 (rnext n (nnext 1 (nnext 8 (nnext 1 (some xs)))))))) (fun W _ => conv_i64 70 2 Try.underlying70 Try.underlying2 _ (by have := nval_lt 8 (rnext n (nnext 1 (nnext 8 (nnext 1 (some xs))))); simp only [e8] at this; omega) W)) (by assumption) ?_
   simp only [Act.put, sq1, sq2, sq3]
   refine wpAnyH_ready (rs := [18]) (by kernel_rfl) (by simp) ?_
   refine AllReadyH.cons rfl (fun K hK => ?_) AllReadyH.nil
   go_simp
   refine (number_rs (HRa4.out) 8 rfl).mono ?_
   rintro e wa5 ⟨rfl, hr5, hg5⟩; have HRa5 := Lib.hid hr5; have HGa5 := Lib.hid hg5; have HBa5 := Lib.hid ((HBa4.out).grown hg5 (fun e => HNE.out (Option.some.inj e))); clear hr5 hg5
   go_wp2_with fail
   refine hK.out _ _ ⟨(only_trans hHeld.1 HGa5.out), (HRa4.out).by_keep hHeld.2 HGa5.out⟩ (fun hHeld1 => ?_)
   clear hHeld hK K
   have hHeld := hHeld1
   clear hHeld1
   refine tkq (i := 19) (d := 30) (v := (.int .i64 (sx 8 (nval 8 (nnext 8 (rnext n (nnext 1 (nnext 8 (nnext 1 (some xs)))))))))) rfl rfl (yields_conv (by kernel_rfl) 70 2 (.tmp 29) rfl (.int .u64 ((nval 8 (nnext 8 (rnext n (nnext 1 (nnext 8 (nnext 1 (some xs)))))) : Nat) : Int)) (by simp [Act.eval]) (.int .i64 (sx 8 (nval 8 (nnext 8 (rnext n (nnext 1 (nnext 8 (nnext 1 (some xs))))))))) (fun W _ => conv_i64 70 2 Try.underlying70 Try.underlying2 _ (by have := nval_lt 8 (nnext 8 (rnext n (nnext 1 (nnext 8 (nnext 1 (some xs)))))); simp only [e8] at this; omega) W)) (by assumption) ?_
   simp only [Act.put, sq1, sq2, sq3]
   refine wpAnyH_ready (rs := [23]) (by kernel_rfl) (by simp) ?_
   refine AllReadyH.cons rfl (fun K hK => ?_) AllReadyH.nil
   go_simp
   refine (row_rs (HRa5.out) n).mono ?_
   rintro e wa6 ⟨Ba6, ma6, ca6, rfl, hy6, hr6, hg6⟩; have HRa6 := Lib.hid hr6; have HGa6 := Lib.hid hg6; have HBa6 := Lib.hid ((HBa5.out).grown hg6 (fun e => HNE.out (Option.some.inj e))); have HYa6 := Lib.hid hy6; clear hr6 hg6 hy6
   go_wp2_with fail
   refine hK.out _ _ ⟨(only_trans hHeld.1 HGa6.out), (HRa5.out).by_keep hHeld.2 HGa6.out⟩ (fun hHeld1 => ?_)
   clear hHeld hK K
   have hHeld := hHeld1
   clear hHeld1
   refine wpAnyH_weaken (S' := fun W => ((wr.grownBy W (some g)) ∧ By W (fun _ => True) Ba3 ma3 (rval n (nnext 1 (nnext 8 (nnext 1 (some xs)))))) ∧ By W (fun _ => True) Ba6 ma6 (rval n (nnext 8 (nnext 8 (rnext n (nnext 1 (nnext 8 (nnext 1 (some xs))))))))) (fun W h => h.1) _ _ _ _ ?_
   have hHeld2 := And.intro hHeld HYa6.out
   clear hHeld
   have hHeld := hHeld2
   clear hHeld2
   refine tkq (i := 24) (d := 35) (v := (.string (ba (rval n (nnext 8 (nnext 8 (rnext n (nnext 1 (nnext 8 (nnext 1 (some xs))))))))))) rfl rfl (yields_conv (by kernel_rfl) 28 9 (.tmp 34) rfl (.slice Ba6 ma6 ca6) (by simp [Act.eval]) (.string (ba (rval n (nnext 8 (nnext 8 (rnext n (nnext 1 (nnext 8 (nnext 1 (some xs)))))))))) (fun W hW => run_string_by W 28 9 5 Try.underlying28 Try.underlying5 Try.underlying9 _ _ _ _ _ hW.2)) (by assumption) ?_
   simp only [Act.put, sq1, sq2, sq3]
   obtain ⟨V, hV⟩ : ∃ V : Value, V = .agg #[.int .i64 ((nval 1 (some xs) : Nat) : Int), .int .i64 (sx 8 (nval 8 (nnext 1 (some xs)))), .int .i64 ((nval 1 (nnext 8 (nnext 1 (some xs))) : Nat) : Int), .string (ba (rval n (nnext 1 (nnext 8 (nnext 1 (some xs)))))), .int .i64 (sx 8 (nval 8 (rnext n (nnext 1 (nnext 8 (nnext 1 (some xs))))))), .int .i64 (sx 8 (nval 8 (nnext 8 (rnext n (nnext 1 (nnext 8 (nnext 1 (some xs)))))))), .string (ba (rval n (nnext 8 (nnext 8 (rnext n (nnext 1 (nnext 8 (nnext 1 (some xs)))))))))] := ⟨_, rfl⟩
   have HV := Lib.hid hV
   clear hV
   refine tkq (i := 25) (d := 36) (v := V) rfl rfl (yields_build (by kernel_rfl) 58 _ rfl _ (by simp only [List.map_toArray, List.map_cons, List.map_nil, Act.eval]; rfl) V (fun w _ => by rw [HV.out]; exact Try.build_c7 _ _ _ _ _ _ _ w)) (by assumption) ?_
   simp only [Act.put, sq1, sq2, sq3]
   refine wpAnyH_ready (rs := [27]) (by kernel_rfl) (by simp) ?_
   refine AllReadyH.cons (o := ⟨none, .store 58 (.tmp 7) (.tmp 36), _, _, _, none⟩) rfl (fun K hK => ?_) AllReadyH.nil
   have HBp := Lib.hid (HBa6.out); refine step_store_blk rfl 58 (.tmp 7) (.tmp 36) rfl gz [.int .i64 ((nval 1 (some xs) : Nat) : Int), .int .i64 (sx 8 (nval 8 (nnext 1 (some xs)))), .int .i64 ((nval 1 (nnext 8 (nnext 1 (some xs))) : Nat) : Int), .string (ba (rval n (nnext 1 (nnext 8 (nnext 1 (some xs)))))), .int .i64 (sx 8 (nval 8 (rnext n (nnext 1 (nnext 8 (nnext 1 (some xs))))))), .int .i64 (sx 8 (nval 8 (nnext 8 (rnext n (nnext 1 (nnext 8 (nnext 1 (some xs)))))))), .string (ba (rval n (nnext 8 (nnext 8 (rnext n (nnext 1 (nnext 8 (nnext 1 (some xs)))))))))] (by simp [Act.eval]) (by simp only [Act.eval]; exact HV.out) 58 [.int .i64 0, .int .i64 0, .int .i64 0, .string (ba []), .int .i64 0, .int .i64 0, .string (ba [])] (HBa6.out) (by kernel_rfl) rfl (one7 _ _ _ _ _ _ _) ?_; intro we hbe hge; have HBe := Lib.hid hbe; have HGe := Lib.hid hge; have HRe := Lib.hid ((HRa6.out).other hge (fun b hb => ⟨fun e => HNE.out (by rw [Option.some.inj hb]; exact e), by have := Option.some.inj hb; have := HZ.out; omega⟩)); clear hbe hge
   refine hK.out _ _ ⟨⟨(only_new hHeld.1.1 HGe.out HZ.out), By.far hHeld.1.2 HGe.out HBp.out (no_u8c _ _ _ _ _ _ _)⟩, By.far hHeld.2 HGe.out HBp.out (no_u8c _ _ _ _ _ _ _)⟩ (fun hHeld1 => ?_)
   clear hHeld hK K
   have hHeld := hHeld1
   clear hHeld1
   change wpAnyH _ _ _ _ _ _ _ (Act.put _ none undef) _
   simp only [Act.put]
   refine wpAnyH_done (by kernel_rfl) ?_ _
   have HG6 := Lib.hid hHeld.1.1
   clear hHeld
   go_wp2
   go_meet
   case rel => exact ⟨gz, rfl, (by rw [← HC0.out]; exact HBe.out), (by rw [← HST0.out]; exact HRe.out), HZ.out, HZ2.out.grown HG6.out (fun e => by have := Option.some.inj e; have := HGg.out; omega), HX2.out.grown HG6.out HX2.out.size (fun k hk => by have := Option.some.inj hk; have := HGg.out; omega)⟩
 case rest =>
  obtain ⟨gz, rfl, hb, hr, hgz, hz2, hx⟩ := hcut
  have HBz := Lib.hid hb
  have HRz := Lib.hid hr
  have HZz := Lib.hid hz2
  have HXz := Lib.hid hx
  clear hb hr hgz hz2 hx
  by_cases hs : st = some []
  case neg =>
   have HST := Lib.hid hs
   have hpe : P = (Cr.no, 2) := by rw [HPP.out, if_neg hs]
   subst hpe
   clear hs
   go_wp2_with (first
    | (go_at_call 53; (refine (end_rs HRz.out).mono ?_); rintro e w10 ⟨x, rfl, hx, rfl⟩; have hx0 : ¬ x = 0 := (fun h9 => HST.out (hx.1 h9)); have hxb : (x == 0) = false := (by simpa using hx0); have hxd : (x != 0) = true := (by simpa using hx0); clear hx hx0)
    | (refine wpList_store_blk rfl 58 (.tmp 4) (.tmp 40) rfl w.heap.size [.int .i64 0, .int .i64 0, .int .i64 0, .string (ba []), .int .i64 0, .int .i64 0, .string (ba [])] rfl rfl 58 [.int .i64 0, .int .i64 0, .int .i64 0, .string (ba []), .int .i64 0, .int .i64 0, .string (ba [])] HZz.out (by kernel_rfl) rfl (one7 _ _ _ _ _ _ _) ?_; intro wy hby hgy; have HBy := Lib.hid hby; have HXy : Hid (Below w.heap.size w wy) := Lib.hid (HXz.out.grown hgy HXz.out.size (fun k hk => by have := Option.some.inj hk; omega)); clear hby hgy))
   (try simp only [Exit.inBlock, Exit.then]); refine bodyPost_ret (results_cell_row_tmp1 rfl _ _ w.heap.size 58 _ (0, 0) _ rfl HBy.out Try.underlying58 rfl (by kernel_rfl)) rfl ?_
   exact ⟨rfl, HXy.out⟩
  case pos =>
   have HST := Lib.hid hs
   by_cases hk : chkC c0 N = 0
   case pos =>
    have hpe : P = (c0, 0) := by rw [HPP.out, if_pos hs, if_pos hk]
    subst hpe
    have HCk := Lib.hid (fun W : World => hk ▸ HCk0.out W)
    clear hs hk
    go_wp2_with (first
     | (go_at_call 53; (refine (end_rs HRz.out).mono ?_); rintro e w10 ⟨x, rfl, hx, rfl⟩; have hx0 : x = 0 := hx.2 HST.out; subst hx0; clear hx)
     | (refine wpList_load_blk rfl 58 (.tmp 7) rfl gz rfl 58 [.int .i64 c0.cl, .int .i64 c0.sp, .int .i64 c0.op, .string (ba c0.lt), .int .i64 c0.a, .int .i64 c0.b, .string (ba c0.tx)] _ HBz.out Try.underlying58 rfl (by kernel_rfl) ?_)
     | (go_at_call 105; (with_reducible refine (HCk.out _).mono ?_); rintro e w11 ⟨rfl, hb⟩; have HX11 := Lib.hid (below_step HXz.out hb); have HB11 := Lib.hid (HBz.out.through hb); have HZ11 := Lib.hid (HZz.out.through hb); clear hb)
     | (refine wpList_load_blk rfl 58 (.tmp 7) rfl gz rfl 58 [.int .i64 c0.cl, .int .i64 c0.sp, .int .i64 c0.op, .string (ba c0.lt), .int .i64 c0.a, .int .i64 c0.b, .string (ba c0.tx)] _ HB11.out Try.underlying58 rfl (by kernel_rfl) ?_)
     | (refine wpList_store_blk rfl 58 (.tmp 4) (.tmp 48) rfl w.heap.size [.int .i64 c0.cl, .int .i64 c0.sp, .int .i64 c0.op, .string (ba c0.lt), .int .i64 c0.a, .int .i64 c0.b, .string (ba c0.tx)] rfl rfl 58 [.int .i64 0, .int .i64 0, .int .i64 0, .string (ba []), .int .i64 0, .int .i64 0, .string (ba [])] HZ11.out (by kernel_rfl) rfl (one7 _ _ _ _ _ _ _) ?_; intro wy hby hgy; have HBy := Lib.hid hby; have HXy : Hid (Below w.heap.size w wy) := Lib.hid (HX11.out.grown hgy HX11.out.size (fun k hk => by have := Option.some.inj hk; omega)); clear hby hgy))
    (try simp only [Exit.inBlock, Exit.then]); refine bodyPost_ret (results_cell_row_tmp1 rfl _ _ w.heap.size 58 _ (0, 0) _ rfl HBy.out Try.underlying58 rfl (by kernel_rfl)) rfl ?_
    exact ⟨rfl, HXy.out⟩
   case neg =>
    obtain ⟨er, her⟩ : ∃ er, chkC c0 N = er := ⟨_, rfl⟩
    have hpe : P = (Cr.no, er) := by rw [HPP.out, if_pos hs, if_neg hk, her]
    subst hpe
    rw [her] at hk
    have HCk := Lib.hid (fun W : World => her ▸ HCk0.out W)
    have hkb : (er == 0) = false := by simpa using hk
    have hkd : (er != 0) = true := by simpa using hk
    clear hs hk her
    go_wp2_with (first
     | (go_at_call 53; (refine (end_rs HRz.out).mono ?_); rintro e w10 ⟨x, rfl, hx, rfl⟩; have hx0 : x = 0 := hx.2 HST.out; subst hx0; clear hx)
     | (refine wpList_load_blk rfl 58 (.tmp 7) rfl gz rfl 58 [.int .i64 c0.cl, .int .i64 c0.sp, .int .i64 c0.op, .string (ba c0.lt), .int .i64 c0.a, .int .i64 c0.b, .string (ba c0.tx)] _ HBz.out Try.underlying58 rfl (by kernel_rfl) ?_)
     | (go_at_call 105; (with_reducible refine (HCk.out _).mono ?_); rintro e w11 ⟨rfl, hb⟩; have HX11 := Lib.hid (below_step HXz.out hb); have HB11 := Lib.hid (HBz.out.through hb); have HZ11 := Lib.hid (HZz.out.through hb); clear hb)
     | (refine wpList_store_blk rfl 58 (.tmp 4) (.tmp 46) rfl w.heap.size [.int .i64 0, .int .i64 0, .int .i64 0, .string (ba []), .int .i64 0, .int .i64 0, .string (ba [])] rfl rfl 58 [.int .i64 0, .int .i64 0, .int .i64 0, .string (ba []), .int .i64 0, .int .i64 0, .string (ba [])] HZ11.out (by kernel_rfl) rfl (one7 _ _ _ _ _ _ _) ?_; intro wy hby hgy; have HBy := Lib.hid hby; have HXy : Hid (Below w.heap.size w wy) := Lib.hid (HX11.out.grown hgy HX11.out.size (fun k hk => by have := Option.some.inj hk; omega)); clear hby hgy))
    (try simp only [Exit.inBlock, Exit.then]); refine bodyPost_ret (results_cell_row_tmp1 rfl _ _ w.heap.size 58 _ (0, 0) _ rfl HBy.out Try.underlying58 rfl (by kernel_rfl)) rfl ?_
    exact ⟨rfl, HXy.out⟩

end Go.Proofs.Ytheecifgbkdecaa
