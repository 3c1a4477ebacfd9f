/-
  The document's ParseProposal.
-/
import Derived.Test.YtpngcdafamkhcaaVJ
import Derived.Test.YtpngcdafamkhcaaVoF
import Derived.Test.YtpngcdafamkhcaaBaH
namespace Go.Proofs.Ytpngcdafamkhcaa
open Go.RowKit

theorem one3p (a b : Int) (A : Option Addr) (n c : Nat) : ([.int .i64 a, .int .i64 b, .slice A n c] : List Value).toArray.all (·.oneCell') = true := by simp [Value.oneCell']
theorem EysIn.off {w w' : World} {A : Option Addr} {k g : Nat} {es : List Ey} (h : EysIn w A k es) (hg : w.grownBy w' (some g)) (hne : ∀ a, A = some a → a.block ≠ g) : EysIn w' A k es :=
  ⟨⟨h.1.1, fun hn => by
    obtain ⟨g0, o, e, hc⟩ := h.1.2 hn
    exact ⟨g0, o, e, fun i cs hi => rangeAt.only (hc i cs hi) hg (hne _ e)⟩⟩, h.2⟩
/-- a call that answers a proposal, and an error -/
def PrOut (w : World) (P : Pr) (er : Int) (e : Ending) (w' : World) : Prop := ∃ (A : Option Addr) (k c : Nat), e = .returned (.tuple #[.agg #[.int .i64 P.vw, .int .i64 P.sq, .slice A k c], .int .i64 er]) ∧ EysIn w' A k P.es ∧ Below w.heap.size w w'

set_option maxHeartbeats 32000000 in
set_option maxRecDepth 100000 in
theorem rparsepr_any (xs : List UInt8) (N : Int) (A : Option Addr) (n c : Nat) (w : World) (h : By w (fun _ => True) A n xs) (hnc : n ≤ c) (hc : c ≤ maxLen) (hn : n ≤ 1000000) :
    Calls Try.prog 7 #[.slice A n c, .int .i64 N] w (PrOut w (parsePr 1048576 xs N).1 (parsePr 1048576 xs N).2) := by
  have hb0 := Try.build_pr0
  have HZ0 : Hid (Blk (w.alloc (.cells #[.int .i64 0, .int .i64 0, .slice none 0 0] 24)) w.heap.size 24 [.int .i64 0, .int .i64 0, .slice none 0 0]) := Lib.hid (Blk.fresh rfl rfl)
  have HX0 : Hid (Below w.heap.size w (w.alloc (.cells #[.int .i64 0, .int .i64 0, .slice none 0 0] 24))) := Lib.hid (below1_ w _)
  obtain ⟨P, hPP⟩ : ∃ P, parsePr 1048576 xs N = P := ⟨_, rfl⟩
  rw [hPP]
  by_cases b1 : N < 1
  · have d1 : decide (N < 1) = true := by simpa using b1
    have hP : P = (Pr.no, 1) := by rw [← hPP]; unfold parsePr; rw [if_pos (by simp [badN, b1])]
    subst hP
    clear hPP h b1 hnc hc hn
    go_enter Try.func7, Try.ntmps7
    go_wp2_with (first
      | go_skip
      | (refine wpList_store_blk rfl 24 (.tmp 4) (.tmp 17) rfl w.heap.size [.int .i64 0, .int .i64 0, .slice none 0 0] rfl rfl 24 [.int .i64 0, .int .i64 0, .slice none 0 0] HZ0.out (by kernel_rfl) rfl (one3p _ _ _ _ _) ?_; intro wy hby hgy; have HBy := Lib.hid hby; have HGy := Lib.hid hgy; have HXy : Hid (Below w.heap.size w wy) := Lib.hid (HX0.out.grown hgy HX0.out.size (fun k hk => by have := Option.some.inj hk; omega)); clear hby hgy))
    (try simp only [Exit.inBlock, Exit.then]); refine bodyPost_ret (results_cell_row_tmp1 rfl _ _ w.heap.size 24 _ (0, 0) _ rfl HBy.out Try.underlying24 rfl (by kernel_rfl)) rfl ?_
    exact ⟨none, 0, 0, rfl, EysIn.none_, HXy.out⟩
  have d1 : decide (N < 1) = false := by simpa using b1
  by_cases b2 : 7 < N
  · have d2 : decide (7 < N) = true := by simpa using b2
    have hP : P = (Pr.no, 1) := by rw [← hPP]; unfold parsePr; rw [if_pos (by simp [badN, b2])]
    subst hP
    clear hPP h b1 b2 hnc hc hn
    go_enter Try.func7, Try.ntmps7
    go_wp2_with (first
      | go_skip
      | (refine wpList_store_blk rfl 24 (.tmp 4) (.tmp 17) rfl w.heap.size [.int .i64 0, .int .i64 0, .slice none 0 0] rfl rfl 24 [.int .i64 0, .int .i64 0, .slice none 0 0] HZ0.out (by kernel_rfl) rfl (one3p _ _ _ _ _) ?_; intro wy hby hgy; have HBy := Lib.hid hby; have HGy := Lib.hid hgy; have HXy : Hid (Below w.heap.size w wy) := Lib.hid (HX0.out.grown hgy HX0.out.size (fun k hk => by have := Option.some.inj hk; omega)); clear hby hgy))
    (try simp only [Exit.inBlock, Exit.then]); refine bodyPost_ret (results_cell_row_tmp1 rfl _ _ w.heap.size 24 _ (0, 0) _ rfl HBy.out Try.underlying24 rfl (by kernel_rfl)) rfl ?_
    exact ⟨none, 0, 0, rfl, EysIn.none_, HXy.out⟩
  have d2 : decide (7 < N) = false := by simpa using b2
  have hbn : badN N = false := by simp [badN]; omega
  have HR2 : Hid (Rs (fun b => b < w.heap.size) ((w.alloc (.cells #[.int .i64 0, .int .i64 0, .slice none 0 0] 24)).alloc (.cells #[.slice A n c, .int .i64 0] 67)) (w.heap.size + 1) tQ (some xs)) := Lib.hid (by
    have h1 := rs_built (Q := (fun b => b < w.heap.size)) (((h.lt.weak fun _ h => h.2).alloc (.cells #[.int .i64 0, .int .i64 0, .slice none 0 0] 24))) hnc hc (by omega)
    simpa using h1)
  have HX2 : Hid (Below w.heap.size w ((w.alloc (.cells #[.int .i64 0, .int .i64 0, .slice none 0 0] 24)).alloc (.cells #[.slice A n c, .int .i64 0] 67))) := Lib.hid (below2_ w _ _)
  have HZ2 : Hid (Blk ((w.alloc (.cells #[.int .i64 0, .int .i64 0, .slice none 0 0] 24)).alloc (.cells #[.slice A n c, .int .i64 0] 67)) w.heap.size 24 [.int .i64 0, .int .i64 0, .slice none 0 0]) := Lib.hid ((Blk.fresh rfl rfl).alloc _)
  have hbr : ∀ (W : World), (Instr.build 67 #[(0, .slice A n c)]).run Try.prog W = .ok (.agg #[.slice A n c, .int .i64 0]) W := fun W => by kernel_rfl
  obtain ⟨k1, hk1⟩ : ∃ k : Nat, nval 8 (some xs) = k := ⟨_, rfl⟩
  have Hk1 : Hid (∀ W : World, Rs (fun b => b < w.heap.size) W (w.heap.size + 1) tQ (some xs) → Calls Try.prog 30 #[.pointer (some ⟨w.heap.size + 1, 0, none⟩), .int .i64 8] W fun e w' => e = .returned (.int .u64 (k1 : Int)) ∧ Rs (fun b => b < w.heap.size) w' (w.heap.size + 1) tQ (nnext 8 (some xs)) ∧ W.grownBy w' (some (w.heap.size + 1))) := Lib.hid (fun W hR => hk1 ▸ rnumber_rs hR 8 rfl)
  obtain ⟨k2, hk2⟩ : ∃ k : Nat, nval 8 (nnext 8 (some xs)) = k := ⟨_, rfl⟩
  have Hk2 : Hid (∀ W : World, Rs (fun b => b < w.heap.size) W (w.heap.size + 1) tQ (nnext 8 (some xs)) → Calls Try.prog 30 #[.pointer (some ⟨w.heap.size + 1, 0, none⟩), .int .i64 8] W fun e w' => e = .returned (.int .u64 (k2 : Int)) ∧ Rs (fun b => b < w.heap.size) w' (w.heap.size + 1) tQ (nnext 8 (nnext 8 (some xs))) ∧ W.grownBy w' (some (w.heap.size + 1))) := Lib.hid (fun W hR => hk2 ▸ rnumber_rs hR 8 rfl)
  have hcvk1 := fun (W : World) => conv_i64 68 2 Try.underlying68 Try.underlying2 k1 (by have := nval_lt 8 (some xs); rw [hk1] at this; omega) W
  obtain ⟨vk1, hvk1⟩ : ∃ v, sx 8 k1 = v := ⟨_, rfl⟩
  rw [hvk1] at hcvk1
  have hcvk2 := fun (W : World) => conv_i64 68 2 Try.underlying68 Try.underlying2 k2 (by have := nval_lt 8 (nnext 8 (some xs)); rw [hk2] at this; omega) W
  obtain ⟨vk2, hvk2⟩ : ∃ v, sx 8 k2 = v := ⟨_, rfl⟩
  rw [hvk2] at hcvk2
  obtain ⟨rw_, hrw⟩ : ∃ r, rval 1048576 (nnext 8 (nnext 8 (some xs))) = r := ⟨_, rfl⟩
  obtain ⟨sE, hsE⟩ : ∃ s, rnext 1048576 (nnext 8 (nnext 8 (some xs))) = s := ⟨_, rfl⟩
  have HRow : Hid (∀ W, Rs (fun b => b < w.heap.size) W (w.heap.size + 1) tQ (nnext 8 (nnext 8 (some xs))) → Calls Try.prog 31 #[.pointer (some ⟨w.heap.size + 1, 0, none⟩), .int .i64 1048576] W fun e w' => ∃ B m c, e = .returned (.slice B m c) ∧ (m ≤ c ∧ c ≤ maxLen) ∧ By w' (fun b => W.heap.size ≤ b) B m rw_ ∧ Rs (fun b => b < w.heap.size) w' (w.heap.size + 1) tQ sE ∧ W.grownBy w' (some (w.heap.size + 1))) := Lib.hid (fun W hR => by
    have h9 := rrow_rsF hR 1048576 (by omega)
    rw [hrw, hsE, show ((1048576 : Nat) : Int) = 1048576 from rfl] at h9
    exact h9)
  have hrl : rw_.length ≤ 1000000 := by
    rw [← hrw]
    exact Nat.le_trans (rval_stL _ _) (Nat.le_trans (nnext_stL _ _) (Nat.le_trans (nnext_stL _ _) (by simp only [stL]; rw [h.len]; exact hn)))
  obtain ⟨es, er, hB⟩ : ∃ es er, parseB 1048576 rw_ N = (es, er) := ⟨_, _, rfl⟩
  have HPa : Hid (∀ (A : Option Addr) (m c : Nat) (W : World), By W (fun _ => True) A m rw_ → m ≤ c → c ≤ maxLen → Calls Try.prog 32 #[.slice A m c, .int .i64 N] W (EyOut W es er)) := Lib.hid (fun A m c W h1 h2 h3 => by
    have h9 := rparseB_any rw_ N A m c W h1 h2 h3 (by rw [← h1.len]; exact hrl)
    rw [hB] at h9
    exact h9)
  have hPf : P = finPr vk1 vk2 sE (es, er) := by rw [← hPP]; unfold parsePr rdPr; rw [hbn, if_neg (by simp), hk1, hk2, hrw, hsE, hvk1, hvk2, hB]
  obtain ⟨q0, hq0⟩ : ∃ b, isW vk1 = b := ⟨_, rfl⟩
  obtain ⟨q1, hq1⟩ : ∃ b, isW vk2 = b := ⟨_, rfl⟩
  have HQ0 : Hid (∀ W : World, Calls Try.prog 11 #[.int .i64 vk1] W fun e w' => e = .returned (.bool q0) ∧ w' = W) := Lib.hid (fun W => hq0 ▸ rview_any vk1 W)
  have HQ1 : Hid (∀ W : World, Calls Try.prog 12 #[.int .i64 vk2] W fun e w' => e = .returned (.bool q1) ∧ w' = W) := Lib.hid (fun W => hq1 ▸ rseq_any vk2 W)
  have HE0 := Lib.hid hq0
  have HE1 := Lib.hid hq1
  have HPf := Lib.hid hPf
  clear h hnc hc hn hPf hPP hsE hk1 hk2 hvk1 hvk2 hrw hrl hB hq0 hq1 hbn b1 b2
  by_cases hst : sE = some []
  case neg =>
    have HST := Lib.hid hst
    have hpe : P = (Pr.no, 2) := by rw [HPf.out]; unfold finPr; rw [if_pos (.inl hst)]
    subst hpe
    clear hst
    go_enter Try.func7, Try.ntmps7
    go_wp2_with (first
      | go_skip
      | (go_at_call 30; (with_reducible refine (Hk1.out _ HR2.out).mono ?_); rintro e w3 ⟨rfl, hr3, hg3⟩; have HR3 := Lib.hid hr3; have HX3 : Hid (Below w.heap.size w w3) := Lib.hid (HX2.out.grown hg3 HX2.out.size (fun k hk => by have := Option.some.inj hk; omega)); have HZ3 := Lib.hid (HZ2.out.grown hg3 (by simp)); have HS3 : Hid (w.heap.size + 2 ≤ w3.heap.size) := Lib.hid (by have := hg3.size; simpa using this); clear hr3 hg3)
      | (go_at_call 30; (with_reducible refine (Hk2.out _ HR3.out).mono ?_); rintro e w4 ⟨rfl, hr4, hg4⟩; have HR4 := Lib.hid hr4; have HX4 : Hid (Below w.heap.size w w4) := Lib.hid (HX3.out.grown hg4 HX3.out.size (fun k hk => by have := Option.some.inj hk; omega)); have HZ4 := Lib.hid (HZ3.out.grown hg4 (by simp)); have HS4 : Hid (w.heap.size + 2 ≤ w4.heap.size) := Lib.hid (Nat.le_trans HS3.out hg4.size); clear hr4 hg4)
      | (go_at_call 31; (with_reducible refine (HRow.out _ (HR4.out.alloc (.cells #[.int .i64 vk1, .int .i64 vk2, .slice none 0 0] 24))).mono ?_); rintro e w5 ⟨Bc, mc, cc, rfl, hcc, hyc, hr5, hg5⟩; have HCC := Lib.hid hcc; have HY5 := Lib.hid (hyc.weak (Q' := fun _ => True) fun _ _ => trivial); have HR5 := Lib.hid hr5; have HX5 : Hid (Below w.heap.size w w5) := Lib.hid ((HX4.out.alloc HX4.out.size (.cells #[.int .i64 vk1, .int .i64 vk2, .slice none 0 0] 24)).grown hg5 (HX4.out.alloc HX4.out.size (.cells #[.int .i64 vk1, .int .i64 vk2, .slice none 0 0] 24)).size (fun k hk => by have := Option.some.inj hk; omega)); have HZ5 := Lib.hid ((HZ4.out.alloc (.cells #[.int .i64 vk1, .int .i64 vk2, .slice none 0 0] 24)).grown hg5 (by simp)); have HV5 : Hid (Blk w5 w4.heap.size 24 [.int .i64 vk1, .int .i64 vk2, .slice none 0 0]) := Lib.hid ((Blk.fresh rfl rfl : Blk (w4.alloc (.cells #[.int .i64 vk1, .int .i64 vk2, .slice none 0 0] 24)) w4.heap.size 24 [.int .i64 vk1, .int .i64 vk2, .slice none 0 0]).grown hg5 (fun e => by have := Option.some.inj e; have := HS4.out; omega)); clear hcc hyc hr5 hg5)
      | (go_at_call 32; (with_reducible refine (HPa.out _ _ _ _ HY5.out HCC.out.1 HCC.out.2).mono ?_); rintro e w6 ⟨Ae, me, ce, rfl, hie, hme, hce, hb6, hfe⟩; have HI6 := Lib.hid hie; have HM6 := Lib.hid (And.intro hme hce); have HF6 := Lib.hid hfe; have HR6 := Lib.hid (HR5.out.below hb6); have HX6 := Lib.hid (below_step HX5.out hb6); have HZ6 := Lib.hid (HZ5.out.through hb6); have HV6 := Lib.hid (HV5.out.through hb6); have HL6 : Hid (w.heap.size < w5.heap.size ∧ w4.heap.size < w5.heap.size) := Lib.hid ⟨HZ5.out.lt, HV5.out.lt⟩; have c0 := HV6.out.cellAt (i := 0) rfl; have c1 := HV6.out.cellAt (i := 1) rfl; clear hie hme hce hb6 hfe)
      | (go_at_call 33; (refine (rend_rs HR6.out).mono ?_); rintro e wE ⟨x, rfl, hx, rfl⟩; have hx0 : ¬ x = 0 := (fun h9 => HST.out (hx.1 h9)); have hxb : (x == 0) = false := (by simpa using hx0); have hxd : (x != 0) = true := (by simpa using hx0); clear hx hx0)
      | (refine wpList_store_blk rfl 24 (.tmp 4) (.tmp 43) rfl w.heap.size [.int .i64 0, .int .i64 0, .slice none 0 0] rfl rfl 24 [.int .i64 0, .int .i64 0, .slice none 0 0] HZ6.out (by kernel_rfl) rfl (one3p _ _ _ _ _) ?_; intro wy hby hgy; have HBy := Lib.hid hby; have HGy := Lib.hid hgy; have HXy : Hid (Below w.heap.size w wy) := Lib.hid (HX6.out.grown hgy HX6.out.size (fun k hk => by have := Option.some.inj hk; omega)); clear hby hgy))
    (try simp only [Exit.inBlock, Exit.then]); refine bodyPost_ret (results_cell_row_tmp1 rfl _ _ w.heap.size 24 _ (0, 0) _ rfl HBy.out Try.underlying24 rfl (by kernel_rfl)) rfl ?_
    exact ⟨none, 0, 0, rfl, EysIn.none_, HXy.out⟩
  have HST := Lib.hid hst
  clear hst
  by_cases he2 : er = 2
  case pos =>
    have hpe : P = (Pr.no, 2) := by rw [HPf.out]; unfold finPr; rw [if_pos (.inr he2)]
    subst hpe
    have hkb : (er == 2) = true := by simpa using he2
    subst he2
    go_enter Try.func7, Try.ntmps7
    go_wp2_with (first
      | go_skip
      | (go_at_call 30; (with_reducible refine (Hk1.out _ HR2.out).mono ?_); rintro e w3 ⟨rfl, hr3, hg3⟩; have HR3 := Lib.hid hr3; have HX3 : Hid (Below w.heap.size w w3) := Lib.hid (HX2.out.grown hg3 HX2.out.size (fun k hk => by have := Option.some.inj hk; omega)); have HZ3 := Lib.hid (HZ2.out.grown hg3 (by simp)); have HS3 : Hid (w.heap.size + 2 ≤ w3.heap.size) := Lib.hid (by have := hg3.size; simpa using this); clear hr3 hg3)
      | (go_at_call 30; (with_reducible refine (Hk2.out _ HR3.out).mono ?_); rintro e w4 ⟨rfl, hr4, hg4⟩; have HR4 := Lib.hid hr4; have HX4 : Hid (Below w.heap.size w w4) := Lib.hid (HX3.out.grown hg4 HX3.out.size (fun k hk => by have := Option.some.inj hk; omega)); have HZ4 := Lib.hid (HZ3.out.grown hg4 (by simp)); have HS4 : Hid (w.heap.size + 2 ≤ w4.heap.size) := Lib.hid (Nat.le_trans HS3.out hg4.size); clear hr4 hg4)
      | (go_at_call 31; (with_reducible refine (HRow.out _ (HR4.out.alloc (.cells #[.int .i64 vk1, .int .i64 vk2, .slice none 0 0] 24))).mono ?_); rintro e w5 ⟨Bc, mc, cc, rfl, hcc, hyc, hr5, hg5⟩; have HCC := Lib.hid hcc; have HY5 := Lib.hid (hyc.weak (Q' := fun _ => True) fun _ _ => trivial); have HR5 := Lib.hid hr5; have HX5 : Hid (Below w.heap.size w w5) := Lib.hid ((HX4.out.alloc HX4.out.size (.cells #[.int .i64 vk1, .int .i64 vk2, .slice none 0 0] 24)).grown hg5 (HX4.out.alloc HX4.out.size (.cells #[.int .i64 vk1, .int .i64 vk2, .slice none 0 0] 24)).size (fun k hk => by have := Option.some.inj hk; omega)); have HZ5 := Lib.hid ((HZ4.out.alloc (.cells #[.int .i64 vk1, .int .i64 vk2, .slice none 0 0] 24)).grown hg5 (by simp)); have HV5 : Hid (Blk w5 w4.heap.size 24 [.int .i64 vk1, .int .i64 vk2, .slice none 0 0]) := Lib.hid ((Blk.fresh rfl rfl : Blk (w4.alloc (.cells #[.int .i64 vk1, .int .i64 vk2, .slice none 0 0] 24)) w4.heap.size 24 [.int .i64 vk1, .int .i64 vk2, .slice none 0 0]).grown hg5 (fun e => by have := Option.some.inj e; have := HS4.out; omega)); clear hcc hyc hr5 hg5)
      | (go_at_call 32; (with_reducible refine (HPa.out _ _ _ _ HY5.out HCC.out.1 HCC.out.2).mono ?_); rintro e w6 ⟨Ae, me, ce, rfl, hie, hme, hce, hb6, hfe⟩; have HI6 := Lib.hid hie; have HM6 := Lib.hid (And.intro hme hce); have HF6 := Lib.hid hfe; have HR6 := Lib.hid (HR5.out.below hb6); have HX6 := Lib.hid (below_step HX5.out hb6); have HZ6 := Lib.hid (HZ5.out.through hb6); have HV6 := Lib.hid (HV5.out.through hb6); have HL6 : Hid (w.heap.size < w5.heap.size ∧ w4.heap.size < w5.heap.size) := Lib.hid ⟨HZ5.out.lt, HV5.out.lt⟩; have c0 := HV6.out.cellAt (i := 0) rfl; have c1 := HV6.out.cellAt (i := 1) rfl; clear hie hme hce hb6 hfe)
      | (go_at_call 33; (refine (rend_rs HR6.out).mono ?_); rintro e wE ⟨x, rfl, hx, rfl⟩; have hx0 : x = 0 := hx.2 HST.out; subst hx0; clear hx)
      | (refine wpList_store_blk rfl 24 (.tmp 4) (.tmp 43) rfl w.heap.size [.int .i64 0, .int .i64 0, .slice none 0 0] rfl rfl 24 [.int .i64 0, .int .i64 0, .slice none 0 0] HZ6.out (by kernel_rfl) rfl (one3p _ _ _ _ _) ?_; intro wy hby hgy; have HBy := Lib.hid hby; have HGy := Lib.hid hgy; have HXy : Hid (Below w.heap.size w wy) := Lib.hid (HX6.out.grown hgy HX6.out.size (fun k hk => by have := Option.some.inj hk; omega)); clear hby hgy))
    (try simp only [Exit.inBlock, Exit.then]); refine bodyPost_ret (results_cell_row_tmp1 rfl _ _ w.heap.size 24 _ (0, 0) _ rfl HBy.out Try.underlying24 rfl (by kernel_rfl)) rfl ?_
    exact ⟨none, 0, 0, rfl, EysIn.none_, HXy.out⟩
  have hkb : (er == 2) = false := by simpa using he2
  have hfp : ¬ (sE ≠ some [] ∨ er = 2) := fun h => h.elim (fun h => h HST.out) he2
  cases q0 with
  | false =>
    have hpe : P = (Pr.no, 5) := by rw [HPf.out]; unfold finPr; rw [if_neg hfp, if_pos (by rw [HE0.out]; rfl)]
    subst hpe
    clear he2 hfp
    go_enter Try.func7, Try.ntmps7
    go_wp2_with (first
      | go_skip
      | (go_at_call 30; (with_reducible refine (Hk1.out _ HR2.out).mono ?_); rintro e w3 ⟨rfl, hr3, hg3⟩; have HR3 := Lib.hid hr3; have HX3 : Hid (Below w.heap.size w w3) := Lib.hid (HX2.out.grown hg3 HX2.out.size (fun k hk => by have := Option.some.inj hk; omega)); have HZ3 := Lib.hid (HZ2.out.grown hg3 (by simp)); have HS3 : Hid (w.heap.size + 2 ≤ w3.heap.size) := Lib.hid (by have := hg3.size; simpa using this); clear hr3 hg3)
      | (go_at_call 30; (with_reducible refine (Hk2.out _ HR3.out).mono ?_); rintro e w4 ⟨rfl, hr4, hg4⟩; have HR4 := Lib.hid hr4; have HX4 : Hid (Below w.heap.size w w4) := Lib.hid (HX3.out.grown hg4 HX3.out.size (fun k hk => by have := Option.some.inj hk; omega)); have HZ4 := Lib.hid (HZ3.out.grown hg4 (by simp)); have HS4 : Hid (w.heap.size + 2 ≤ w4.heap.size) := Lib.hid (Nat.le_trans HS3.out hg4.size); clear hr4 hg4)
      | (go_at_call 31; (with_reducible refine (HRow.out _ (HR4.out.alloc (.cells #[.int .i64 vk1, .int .i64 vk2, .slice none 0 0] 24))).mono ?_); rintro e w5 ⟨Bc, mc, cc, rfl, hcc, hyc, hr5, hg5⟩; have HCC := Lib.hid hcc; have HY5 := Lib.hid (hyc.weak (Q' := fun _ => True) fun _ _ => trivial); have HR5 := Lib.hid hr5; have HX5 : Hid (Below w.heap.size w w5) := Lib.hid ((HX4.out.alloc HX4.out.size (.cells #[.int .i64 vk1, .int .i64 vk2, .slice none 0 0] 24)).grown hg5 (HX4.out.alloc HX4.out.size (.cells #[.int .i64 vk1, .int .i64 vk2, .slice none 0 0] 24)).size (fun k hk => by have := Option.some.inj hk; omega)); have HZ5 := Lib.hid ((HZ4.out.alloc (.cells #[.int .i64 vk1, .int .i64 vk2, .slice none 0 0] 24)).grown hg5 (by simp)); have HV5 : Hid (Blk w5 w4.heap.size 24 [.int .i64 vk1, .int .i64 vk2, .slice none 0 0]) := Lib.hid ((Blk.fresh rfl rfl : Blk (w4.alloc (.cells #[.int .i64 vk1, .int .i64 vk2, .slice none 0 0] 24)) w4.heap.size 24 [.int .i64 vk1, .int .i64 vk2, .slice none 0 0]).grown hg5 (fun e => by have := Option.some.inj e; have := HS4.out; omega)); clear hcc hyc hr5 hg5)
      | (go_at_call 32; (with_reducible refine (HPa.out _ _ _ _ HY5.out HCC.out.1 HCC.out.2).mono ?_); rintro e w6 ⟨Ae, me, ce, rfl, hie, hme, hce, hb6, hfe⟩; have HI6 := Lib.hid hie; have HM6 := Lib.hid (And.intro hme hce); have HF6 := Lib.hid hfe; have HR6 := Lib.hid (HR5.out.below hb6); have HX6 := Lib.hid (below_step HX5.out hb6); have HZ6 := Lib.hid (HZ5.out.through hb6); have HV6 := Lib.hid (HV5.out.through hb6); have HL6 : Hid (w.heap.size < w5.heap.size ∧ w4.heap.size < w5.heap.size) := Lib.hid ⟨HZ5.out.lt, HV5.out.lt⟩; have c0 := HV6.out.cellAt (i := 0) rfl; have c1 := HV6.out.cellAt (i := 1) rfl; clear hie hme hce hb6 hfe)
      | (go_at_call 33; (refine (rend_rs HR6.out).mono ?_); rintro e wE ⟨x, rfl, hx, rfl⟩; have hx0 : x = 0 := hx.2 HST.out; subst hx0; clear hx)
      | (go_at_call 11; (with_reducible refine (HQ0.out _).mono ?_); rintro e wq0 ⟨rfl, rfl⟩)
      | (refine wpList_store_blk rfl 24 (.tmp 4) (.tmp 54) rfl w.heap.size [.int .i64 0, .int .i64 0, .slice none 0 0] rfl rfl 24 [.int .i64 0, .int .i64 0, .slice none 0 0] HZ6.out (by kernel_rfl) rfl (one3p _ _ _ _ _) ?_; intro wy hby hgy; have HBy := Lib.hid hby; have HGy := Lib.hid hgy; have HXy : Hid (Below w.heap.size w wy) := Lib.hid (HX6.out.grown hgy HX6.out.size (fun k hk => by have := Option.some.inj hk; omega)); clear hby hgy))
    (try simp only [Exit.inBlock, Exit.then]); refine bodyPost_ret (results_cell_row_tmp1 rfl _ _ w.heap.size 24 _ (0, 0) _ rfl HBy.out Try.underlying24 rfl (by kernel_rfl)) rfl ?_
    exact ⟨none, 0, 0, rfl, EysIn.none_, HXy.out⟩
  | true =>
  cases q1 with
  | false =>
    have hpe : P = (Pr.no, 5) := by rw [HPf.out]; unfold finPr; rw [if_neg hfp, if_pos (by rw [HE0.out, HE1.out]; rfl)]
    subst hpe
    clear he2 hfp
    go_enter Try.func7, Try.ntmps7
    go_wp2_with (first
      | go_skip
      | (go_at_call 30; (with_reducible refine (Hk1.out _ HR2.out).mono ?_); rintro e w3 ⟨rfl, hr3, hg3⟩; have HR3 := Lib.hid hr3; have HX3 : Hid (Below w.heap.size w w3) := Lib.hid (HX2.out.grown hg3 HX2.out.size (fun k hk => by have := Option.some.inj hk; omega)); have HZ3 := Lib.hid (HZ2.out.grown hg3 (by simp)); have HS3 : Hid (w.heap.size + 2 ≤ w3.heap.size) := Lib.hid (by have := hg3.size; simpa using this); clear hr3 hg3)
      | (go_at_call 30; (with_reducible refine (Hk2.out _ HR3.out).mono ?_); rintro e w4 ⟨rfl, hr4, hg4⟩; have HR4 := Lib.hid hr4; have HX4 : Hid (Below w.heap.size w w4) := Lib.hid (HX3.out.grown hg4 HX3.out.size (fun k hk => by have := Option.some.inj hk; omega)); have HZ4 := Lib.hid (HZ3.out.grown hg4 (by simp)); have HS4 : Hid (w.heap.size + 2 ≤ w4.heap.size) := Lib.hid (Nat.le_trans HS3.out hg4.size); clear hr4 hg4)
      | (go_at_call 31; (with_reducible refine (HRow.out _ (HR4.out.alloc (.cells #[.int .i64 vk1, .int .i64 vk2, .slice none 0 0] 24))).mono ?_); rintro e w5 ⟨Bc, mc, cc, rfl, hcc, hyc, hr5, hg5⟩; have HCC := Lib.hid hcc; have HY5 := Lib.hid (hyc.weak (Q' := fun _ => True) fun _ _ => trivial); have HR5 := Lib.hid hr5; have HX5 : Hid (Below w.heap.size w w5) := Lib.hid ((HX4.out.alloc HX4.out.size (.cells #[.int .i64 vk1, .int .i64 vk2, .slice none 0 0] 24)).grown hg5 (HX4.out.alloc HX4.out.size (.cells #[.int .i64 vk1, .int .i64 vk2, .slice none 0 0] 24)).size (fun k hk => by have := Option.some.inj hk; omega)); have HZ5 := Lib.hid ((HZ4.out.alloc (.cells #[.int .i64 vk1, .int .i64 vk2, .slice none 0 0] 24)).grown hg5 (by simp)); have HV5 : Hid (Blk w5 w4.heap.size 24 [.int .i64 vk1, .int .i64 vk2, .slice none 0 0]) := Lib.hid ((Blk.fresh rfl rfl : Blk (w4.alloc (.cells #[.int .i64 vk1, .int .i64 vk2, .slice none 0 0] 24)) w4.heap.size 24 [.int .i64 vk1, .int .i64 vk2, .slice none 0 0]).grown hg5 (fun e => by have := Option.some.inj e; have := HS4.out; omega)); clear hcc hyc hr5 hg5)
      | (go_at_call 32; (with_reducible refine (HPa.out _ _ _ _ HY5.out HCC.out.1 HCC.out.2).mono ?_); rintro e w6 ⟨Ae, me, ce, rfl, hie, hme, hce, hb6, hfe⟩; have HI6 := Lib.hid hie; have HM6 := Lib.hid (And.intro hme hce); have HF6 := Lib.hid hfe; have HR6 := Lib.hid (HR5.out.below hb6); have HX6 := Lib.hid (below_step HX5.out hb6); have HZ6 := Lib.hid (HZ5.out.through hb6); have HV6 := Lib.hid (HV5.out.through hb6); have HL6 : Hid (w.heap.size < w5.heap.size ∧ w4.heap.size < w5.heap.size) := Lib.hid ⟨HZ5.out.lt, HV5.out.lt⟩; have c0 := HV6.out.cellAt (i := 0) rfl; have c1 := HV6.out.cellAt (i := 1) rfl; clear hie hme hce hb6 hfe)
      | (go_at_call 33; (refine (rend_rs HR6.out).mono ?_); rintro e wE ⟨x, rfl, hx, rfl⟩; have hx0 : x = 0 := hx.2 HST.out; subst hx0; clear hx)
      | (go_at_call 11; (with_reducible refine (HQ0.out _).mono ?_); rintro e wq0 ⟨rfl, rfl⟩)
      | (go_at_call 12; (with_reducible refine (HQ1.out _).mono ?_); rintro e wq1 ⟨rfl, rfl⟩)
      | (refine wpList_store_blk rfl 24 (.tmp 4) (.tmp 54) rfl w.heap.size [.int .i64 0, .int .i64 0, .slice none 0 0] rfl rfl 24 [.int .i64 0, .int .i64 0, .slice none 0 0] HZ6.out (by kernel_rfl) rfl (one3p _ _ _ _ _) ?_; intro wy hby hgy; have HBy := Lib.hid hby; have HGy := Lib.hid hgy; have HXy : Hid (Below w.heap.size w wy) := Lib.hid (HX6.out.grown hgy HX6.out.size (fun k hk => by have := Option.some.inj hk; omega)); clear hby hgy))
    (try simp only [Exit.inBlock, Exit.then]); refine bodyPost_ret (results_cell_row_tmp1 rfl _ _ w.heap.size 24 _ (0, 0) _ rfl HBy.out Try.underlying24 rfl (by kernel_rfl)) rfl ?_
    exact ⟨none, 0, 0, rfl, EysIn.none_, HXy.out⟩
  | true =>
  by_cases he : er = 0
  case neg =>
    have hpe : P = (Pr.no, er) := by rw [HPf.out]; unfold finPr; rw [if_neg hfp, if_neg (by rw [HE0.out, HE1.out]; simp), if_pos he]
    subst hpe
    have hk0 : (er == 0) = false := by simpa using he
    have hk1 : (er != 0) = true := by simpa using he
    clear he2 hfp he
    go_enter Try.func7, Try.ntmps7
    go_wp2_with (first
      | go_skip
      | (go_at_call 30; (with_reducible refine (Hk1.out _ HR2.out).mono ?_); rintro e w3 ⟨rfl, hr3, hg3⟩; have HR3 := Lib.hid hr3; have HX3 : Hid (Below w.heap.size w w3) := Lib.hid (HX2.out.grown hg3 HX2.out.size (fun k hk => by have := Option.some.inj hk; omega)); have HZ3 := Lib.hid (HZ2.out.grown hg3 (by simp)); have HS3 : Hid (w.heap.size + 2 ≤ w3.heap.size) := Lib.hid (by have := hg3.size; simpa using this); clear hr3 hg3)
      | (go_at_call 30; (with_reducible refine (Hk2.out _ HR3.out).mono ?_); rintro e w4 ⟨rfl, hr4, hg4⟩; have HR4 := Lib.hid hr4; have HX4 : Hid (Below w.heap.size w w4) := Lib.hid (HX3.out.grown hg4 HX3.out.size (fun k hk => by have := Option.some.inj hk; omega)); have HZ4 := Lib.hid (HZ3.out.grown hg4 (by simp)); have HS4 : Hid (w.heap.size + 2 ≤ w4.heap.size) := Lib.hid (Nat.le_trans HS3.out hg4.size); clear hr4 hg4)
      | (go_at_call 31; (with_reducible refine (HRow.out _ (HR4.out.alloc (.cells #[.int .i64 vk1, .int .i64 vk2, .slice none 0 0] 24))).mono ?_); rintro e w5 ⟨Bc, mc, cc, rfl, hcc, hyc, hr5, hg5⟩; have HCC := Lib.hid hcc; have HY5 := Lib.hid (hyc.weak (Q' := fun _ => True) fun _ _ => trivial); have HR5 := Lib.hid hr5; have HX5 : Hid (Below w.heap.size w w5) := Lib.hid ((HX4.out.alloc HX4.out.size (.cells #[.int .i64 vk1, .int .i64 vk2, .slice none 0 0] 24)).grown hg5 (HX4.out.alloc HX4.out.size (.cells #[.int .i64 vk1, .int .i64 vk2, .slice none 0 0] 24)).size (fun k hk => by have := Option.some.inj hk; omega)); have HZ5 := Lib.hid ((HZ4.out.alloc (.cells #[.int .i64 vk1, .int .i64 vk2, .slice none 0 0] 24)).grown hg5 (by simp)); have HV5 : Hid (Blk w5 w4.heap.size 24 [.int .i64 vk1, .int .i64 vk2, .slice none 0 0]) := Lib.hid ((Blk.fresh rfl rfl : Blk (w4.alloc (.cells #[.int .i64 vk1, .int .i64 vk2, .slice none 0 0] 24)) w4.heap.size 24 [.int .i64 vk1, .int .i64 vk2, .slice none 0 0]).grown hg5 (fun e => by have := Option.some.inj e; have := HS4.out; omega)); clear hcc hyc hr5 hg5)
      | (go_at_call 32; (with_reducible refine (HPa.out _ _ _ _ HY5.out HCC.out.1 HCC.out.2).mono ?_); rintro e w6 ⟨Ae, me, ce, rfl, hie, hme, hce, hb6, hfe⟩; have HI6 := Lib.hid hie; have HM6 := Lib.hid (And.intro hme hce); have HF6 := Lib.hid hfe; have HR6 := Lib.hid (HR5.out.below hb6); have HX6 := Lib.hid (below_step HX5.out hb6); have HZ6 := Lib.hid (HZ5.out.through hb6); have HV6 := Lib.hid (HV5.out.through hb6); have HL6 : Hid (w.heap.size < w5.heap.size ∧ w4.heap.size < w5.heap.size) := Lib.hid ⟨HZ5.out.lt, HV5.out.lt⟩; have c0 := HV6.out.cellAt (i := 0) rfl; have c1 := HV6.out.cellAt (i := 1) rfl; clear hie hme hce hb6 hfe)
      | (go_at_call 33; (refine (rend_rs HR6.out).mono ?_); rintro e wE ⟨x, rfl, hx, rfl⟩; have hx0 : x = 0 := hx.2 HST.out; subst hx0; clear hx)
      | (go_at_call 11; (with_reducible refine (HQ0.out _).mono ?_); rintro e wq0 ⟨rfl, rfl⟩)
      | (go_at_call 12; (with_reducible refine (HQ1.out _).mono ?_); rintro e wq1 ⟨rfl, rfl⟩)
      | (refine wpList_store_blk rfl 24 (.tmp 4) (.tmp 57) rfl w.heap.size [.int .i64 0, .int .i64 0, .slice none 0 0] rfl rfl 24 [.int .i64 0, .int .i64 0, .slice none 0 0] HZ6.out (by kernel_rfl) rfl (one3p _ _ _ _ _) ?_; intro wy hby hgy; have HBy := Lib.hid hby; have HGy := Lib.hid hgy; have HXy : Hid (Below w.heap.size w wy) := Lib.hid (HX6.out.grown hgy HX6.out.size (fun k hk => by have := Option.some.inj hk; omega)); clear hby hgy))
    (try simp only [Exit.inBlock, Exit.then]); refine bodyPost_ret (results_cell_row_tmp1 rfl _ _ w.heap.size 24 _ (0, 0) _ rfl HBy.out Try.underlying24 rfl (by kernel_rfl)) rfl ?_
    exact ⟨none, 0, 0, rfl, EysIn.none_, HXy.out⟩
  have hpe : P = (⟨vk1, vk2, es⟩, 0) := by rw [HPf.out]; unfold finPr; rw [if_neg hfp, if_neg (by rw [HE0.out, HE1.out]; simp), if_neg (by simpa using he)]
  subst hpe
  subst he
  clear he2 hfp
  go_enter Try.func7, Try.ntmps7
  go_wp2_with (first
    | go_skip
    | (go_at_call 30; (with_reducible refine (Hk1.out _ HR2.out).mono ?_); rintro e w3 ⟨rfl, hr3, hg3⟩; have HR3 := Lib.hid hr3; have HX3 : Hid (Below w.heap.size w w3) := Lib.hid (HX2.out.grown hg3 HX2.out.size (fun k hk => by have := Option.some.inj hk; omega)); have HZ3 := Lib.hid (HZ2.out.grown hg3 (by simp)); have HS3 : Hid (w.heap.size + 2 ≤ w3.heap.size) := Lib.hid (by have := hg3.size; simpa using this); clear hr3 hg3)
    | (go_at_call 30; (with_reducible refine (Hk2.out _ HR3.out).mono ?_); rintro e w4 ⟨rfl, hr4, hg4⟩; have HR4 := Lib.hid hr4; have HX4 : Hid (Below w.heap.size w w4) := Lib.hid (HX3.out.grown hg4 HX3.out.size (fun k hk => by have := Option.some.inj hk; omega)); have HZ4 := Lib.hid (HZ3.out.grown hg4 (by simp)); have HS4 : Hid (w.heap.size + 2 ≤ w4.heap.size) := Lib.hid (Nat.le_trans HS3.out hg4.size); clear hr4 hg4)
    | (go_at_call 31; (with_reducible refine (HRow.out _ (HR4.out.alloc (.cells #[.int .i64 vk1, .int .i64 vk2, .slice none 0 0] 24))).mono ?_); rintro e w5 ⟨Bc, mc, cc, rfl, hcc, hyc, hr5, hg5⟩; have HCC := Lib.hid hcc; have HY5 := Lib.hid (hyc.weak (Q' := fun _ => True) fun _ _ => trivial); have HR5 := Lib.hid hr5; have HX5 : Hid (Below w.heap.size w w5) := Lib.hid ((HX4.out.alloc HX4.out.size (.cells #[.int .i64 vk1, .int .i64 vk2, .slice none 0 0] 24)).grown hg5 (HX4.out.alloc HX4.out.size (.cells #[.int .i64 vk1, .int .i64 vk2, .slice none 0 0] 24)).size (fun k hk => by have := Option.some.inj hk; omega)); have HZ5 := Lib.hid ((HZ4.out.alloc (.cells #[.int .i64 vk1, .int .i64 vk2, .slice none 0 0] 24)).grown hg5 (by simp)); have HV5 : Hid (Blk w5 w4.heap.size 24 [.int .i64 vk1, .int .i64 vk2, .slice none 0 0]) := Lib.hid ((Blk.fresh rfl rfl : Blk (w4.alloc (.cells #[.int .i64 vk1, .int .i64 vk2, .slice none 0 0] 24)) w4.heap.size 24 [.int .i64 vk1, .int .i64 vk2, .slice none 0 0]).grown hg5 (fun e => by have := Option.some.inj e; have := HS4.out; omega)); clear hcc hyc hr5 hg5)
    | (go_at_call 32; (with_reducible refine (HPa.out _ _ _ _ HY5.out HCC.out.1 HCC.out.2).mono ?_); rintro e w6 ⟨Ae, me, ce, rfl, hie, hme, hce, hb6, hfe⟩; have HI6 := Lib.hid hie; have HM6 := Lib.hid (And.intro hme hce); have HF6 := Lib.hid hfe; have HR6 := Lib.hid (HR5.out.below hb6); have HX6 := Lib.hid (below_step HX5.out hb6); have HZ6 := Lib.hid (HZ5.out.through hb6); have HV6 := Lib.hid (HV5.out.through hb6); have HL6 : Hid (w.heap.size < w5.heap.size ∧ w4.heap.size < w5.heap.size) := Lib.hid ⟨HZ5.out.lt, HV5.out.lt⟩; have c0 := HV6.out.cellAt (i := 0) rfl; have c1 := HV6.out.cellAt (i := 1) rfl; clear hie hme hce hb6 hfe)
    | (go_at_call 33; (refine (rend_rs HR6.out).mono ?_); rintro e wE ⟨x, rfl, hx, rfl⟩; have hx0 : x = 0 := hx.2 HST.out; subst hx0; clear hx)
    | (go_at_call 11; (with_reducible refine (HQ0.out _).mono ?_); rintro e wq0 ⟨rfl, rfl⟩)
    | (go_at_call 12; (with_reducible refine (HQ1.out _).mono ?_); rintro e wq1 ⟨rfl, rfl⟩)
    | (refine wpList_store_cell rfl 22 (.tmp 60) (.tmp 59) rfl w4.heap.size 2 rfl (.slice Ae me ce) rfl rfl rfl (fun w => by kernel_rfl) 24 [.int .i64 vk1, .int .i64 vk2, .slice none 0 0] HV6.out (by simp) ?_; intro w7 hb7 hg7; have HV7 := Lib.hid hb7; have HZ7 := Lib.hid (HZ6.out.grown hg7 (fun e => by have := Option.some.inj e; have := HS4.out; omega)); have HX7 : Hid (Below w.heap.size w w7) := Lib.hid (HX6.out.grown hg7 HX6.out.size (fun k hk => by have := Option.some.inj hk; have := HS4.out; omega)); have HI7 := Lib.hid (HI6.out.off hg7 (fun a ha e => by have := HF6.out a ha; have := HL6.out; omega)); clear hb7 hg7)
    | (refine wpList_load_blk rfl 24 (.tmp 7) rfl w4.heap.size rfl 24 [.int .i64 vk1, .int .i64 vk2, .slice Ae me ce] _ HV7.out Try.underlying24 rfl (by kernel_rfl) ?_)
    | (refine wpList_store_blk rfl 24 (.tmp 4) (.tmp 61) rfl w.heap.size [.int .i64 vk1, .int .i64 vk2, .slice Ae me ce] rfl rfl 24 [.int .i64 0, .int .i64 0, .slice none 0 0] HZ7.out (by kernel_rfl) rfl (one3p _ _ _ _ _) ?_; intro wy hby hgy; have HBy := Lib.hid hby; have HGy := Lib.hid hgy; have HXy : Hid (Below w.heap.size w wy) := Lib.hid (HX7.out.grown hgy HX7.out.size (fun k hk => by have := Option.some.inj hk; omega)); clear hby hgy))
  (try simp only [Exit.inBlock, Exit.then]); refine bodyPost_ret (results_cell_row_tmp1 rfl _ _ w.heap.size 24 _ (0, 0) _ rfl HBy.out Try.underlying24 rfl (by kernel_rfl)) rfl ?_
  exact ⟨Ae, me, ce, rfl, HI7.out.off HGy.out (fun a ha e => by have := HF6.out a ha; have := HL6.out; omega), HXy.out⟩

end Go.Proofs.Ytpngcdafamkhcaa
