/-
  The document's Step, walked.
-/
import Derived.Test.YtjdglfjbfejcdaaDoorLC
import Derived.Test.YtjdglfjbfejcdaaDoorLQ
import Derived.Test.YtjdglfjbfejcdaaDoorLO
namespace Go.Proofs.YtjdglfjbfejcdaaDoor
open Go.RowKit

theorem stepL_of {l : Lt} {op a b : Int} {t : List UInt8} {q : Lt} {x : Int} (h : nextL l.st op ≠ 0) (hc : changeL l op a b t = (q, x)) : stepL l op a b t = if x ≠ 0 then (Lt.no, x) else (⟨q.nm, nextL l.st op, q.am, q.du, q.po, q.pa⟩, 0) := by
  unfold stepL
  rw [if_neg h, hc]

set_option maxHeartbeats 8000000 in
set_option maxRecDepth 100000 in
theorem rstep_any (l : Lt) (op a b : Int) (t : List UInt8) (w : World) : Calls Tryd.prog 7 #[l.val, .int .i64 op, .int .i64 a, .int .i64 b, .string (ba t)] w fun e w' => e = .returned (ltE (stepL l op a b t)) ∧ Below w.heap.size w w' := by
  have hz := Tryd.zero_lt
  have hbn := Tryd.build_no
  have hsz := ba_size
  have hn : ∀ W, Calls Tryd.prog 9 #[.int .i64 l.st, .int .i64 op] W fun e w' => e = .returned (.int .i64 (nextL l.st op)) ∧ w' = W := fun W => rnext_any l.st op W
  have hd : ∀ W, Calls Tryd.prog 16 #[.int .i64 a] W fun e w' => e = .returned (.bool (isM a)) ∧ w' = W := fun W => rday_any a W
  by_cases h0 : nextL l.st op = 0
  · unfold stepL
    rw [if_pos h0]
    rw [h0] at hn
    obtain ⟨nm, st, am, du, po, pa⟩ := l
    unfold ltE Lt.val
    have HN := Lib.hid hn
    clear hn hd h0
    by_cases hop : op < 1
    · rw [if_pos (.inl hop)]
      go_enter Tryd.func7, Tryd.ntmps7
      go_wp2_with (go_at_call 9; (with_reducible refine (HN.out _).mono ?_); rintro e w1 ⟨rfl, rfl⟩)
      exact bodyPost_ret (results_cell_row_tmp1 rfl _ _ (w.heap.size + 1) 23 _ (0, 0) _ rfl (fin2 w _ _) Tryd.underlying23 rfl (by kernel_rfl)) rfl ⟨rfl, below2 w _ _⟩
    by_cases hop2 : 9 < op
    · rw [if_pos (.inr hop2)]
      go_enter Tryd.func7, Tryd.ntmps7
      go_wp2_with (go_at_call 9; (with_reducible refine (HN.out _).mono ?_); rintro e w1 ⟨rfl, rfl⟩)
      exact bodyPost_ret (results_cell_row_tmp1 rfl _ _ (w.heap.size + 1) 23 _ (0, 0) _ rfl (fin2 w _ _) Tryd.underlying23 rfl (by kernel_rfl)) rfl ⟨rfl, below2 w _ _⟩
    rw [if_neg (by omega)]
    go_enter Tryd.func7, Tryd.ntmps7
    go_wp2_with (go_at_call 9; (with_reducible refine (HN.out _).mono ?_); rintro e w1 ⟨rfl, rfl⟩)
    exact bodyPost_ret (results_cell_row_tmp1 rfl _ _ (w.heap.size + 1) 23 _ (0, 0) _ rfl (fin2 w _ _) Tryd.underlying23 rfl (by kernel_rfl)) rfl ⟨rfl, below2 w _ _⟩
  rcases op_cases op with rfl | rfl | rfl | rfl | rfl | rfl | rfl | rfl | rfl | hop
  · -- apply
    by_cases hlen : 200 < t.length
    · obtain ⟨nm, st, am, du, po, pa⟩ := l
      simp only at h0 hn ⊢
      have e : changeL ⟨nm, st, am, du, po, pa⟩ 1 a b t = (Lt.no, 3) := by simp [changeL, applyL, hlen]
      rw [stepL_of h0 e, if_pos (by simp)]
      clear e
      try simp only at h0 hn ⊢
      generalize nextL st 1 = n at *
      have hnb := beq_nope h0
      unfold ltE Lt.val
      have HN := Lib.hid hn
      clear hn h0 hd
      go_enter Tryd.func7, Tryd.ntmps7
      go_wp2_with (go_at_call 9; (with_reducible refine (HN.out _).mono ?_); rintro e w1 ⟨rfl, rfl⟩)
      exact bodyPost_ret (results_cell_row_tmp1 rfl _ _ (w.heap.size + 1) 23 _ (0, 0) _ rfl (fin2 w _ _) Tryd.underlying23 rfl (by kernel_rfl)) rfl ⟨rfl, below2 w _ _⟩
    obtain ⟨⟨q, x⟩, hq⟩ : ∃ p, changeL l 1 a b t = p := ⟨_, rfl⟩
    rw [stepL_of h0 hq]
    have e1 : changeL l 1 a b t = applyL l.nm a b t := by simp [changeL]
    rw [e1] at hq
    have hc : ∀ W, Calls Tryd.prog 14 #[l.val, .int .i64 a, .int .i64 b, .string (ba t)] W fun e w' => ∃ q', e = .returned (.tuple #[q'.val, .int .i64 x]) ∧ (x = 0 → q' = q) ∧ Below W.heap.size W w' := fun W => (rapply_any l a b t W).mono fun e w' ⟨h1, h2⟩ => by
      obtain ⟨h3, h4⟩ := rapply_same l a b t hlen
      rw [hq] at h3 h4
      unfold ltE at h1
      rw [h3] at h1
      exact ⟨_, h1, h4, h2⟩
    clear e1
    obtain ⟨nm, st, am, du, po, pa⟩ := l
    simp only at h0 hn hc ⊢
    generalize nextL st 1 = n at *
    have hnb := beq_nope h0
    unfold ltE
    unfold Lt.val at hc ⊢
    have HN := Lib.hid hn
    clear hn h0 hd hq
    by_cases hx : x = 0
    · subst hx
      rw [if_neg (by simp)]
      have hc0 : ∀ W, Calls Tryd.prog 14 #[.agg #[.string (ba nm), .int .i64 st, .int .i64 am, .int .i64 du, .string (ba po), .string (ba pa)], .int .i64 a, .int .i64 b, .string (ba t)] W fun e w' => e = .returned (.tuple #[.agg #[.string (ba q.nm), .int .i64 q.st, .int .i64 q.am, .int .i64 q.du, .string (ba q.po), .string (ba q.pa)], .int .i64 0]) ∧ Below W.heap.size W w' := fun W => (hc W).mono fun e w' ⟨q', h1, h2, h3⟩ => by
        rw [h2 rfl] at h1
        exact ⟨h1, h3⟩
      have HC := Lib.hid hc0
      clear hc hc0
      go_enter Tryd.func7, Tryd.ntmps7
      go_wp2_with (first
        | (go_at_call 9; (with_reducible refine (HN.out _).mono ?_); rintro e w1 ⟨rfl, rfl⟩)
        | (go_at_call 14; (with_reducible refine (HC.out _).mono ?_); rintro e w1 ⟨rfl, hb⟩; have HRa : Hid (Blk w1 (w.heap.size + 1) 23 [.string (ba []), .int .i64 0, .int .i64 0, .int .i64 0, .string (ba []), .string (ba [])]) := Lib.hid ((Blk.fresh (by simp) rfl : Blk ((w.alloc (.cells #[.string (ba nm), .int .i64 st, .int .i64 am, .int .i64 du, .string (ba po), .string (ba pa)] 23)).alloc (.cells #[.string (ba []), .int .i64 0, .int .i64 0, .int .i64 0, .string (ba []), .string (ba [])] 23)) (w.heap.size + 1) 23 [.string (ba []), .int .i64 0, .int .i64 0, .int .i64 0, .string (ba []), .string (ba [])]).through hb); have HBa : Hid (Blk w1 w.heap.size 23 [.string (ba nm), .int .i64 st, .int .i64 am, .int .i64 du, .string (ba po), .string (ba pa)]) := Lib.hid (((Blk.fresh rfl rfl : Blk (w.alloc (.cells #[.string (ba nm), .int .i64 st, .int .i64 am, .int .i64 du, .string (ba po), .string (ba pa)] 23)) w.heap.size 23 [.string (ba nm), .int .i64 st, .int .i64 am, .int .i64 du, .string (ba po), .string (ba pa)]).alloc (.cells #[.string (ba []), .int .i64 0, .int .i64 0, .int .i64 0, .string (ba []), .string (ba [])] 23)).through hb); have HXa : Hid (Below w.heap.size w w1) := Lib.hid (below_step (below2 w _ _) hb); clear hb)
        | (refine wpList_store_blk rfl 23 (.tmp 5) (.tmp 49) rfl w.heap.size [.string (ba q.nm), .int .i64 q.st, .int .i64 q.am, .int .i64 q.du, .string (ba q.po), .string (ba q.pa)] rfl rfl 23 [.string (ba nm), .int .i64 st, .int .i64 am, .int .i64 du, .string (ba po), .string (ba pa)] HBa.out (by kernel_rfl) rfl (one6 _ _ _ _ _ _) ?_; intro wb hbb hgb; have HBb := Lib.hid hbb; have HRb := Lib.hid (HRa.out.grown hgb (by simp)); have HXb : Hid (Below w.heap.size w wb) := Lib.hid (HXa.out.grown hgb HXa.out.size (fun k hk => by have := Option.some.inj hk; omega)); clear hbb hgb)
        | (refine wpList_store_cell rfl 3 (.tmp 92) (.tmp 91) rfl w.heap.size 1 rfl (.int .i64 n) rfl rfl rfl (fun w => by kernel_rfl) 23 [.string (ba q.nm), .int .i64 q.st, .int .i64 q.am, .int .i64 q.du, .string (ba q.po), .string (ba q.pa)] HBb.out (by simp) ?_; intro wc hbc hgc; have HBc : Hid (Blk wc w.heap.size 23 [.string (ba q.nm), .int .i64 n, .int .i64 q.am, .int .i64 q.du, .string (ba q.po), .string (ba q.pa)]) := Lib.hid hbc; have HRc := Lib.hid (HRb.out.grown hgc (by simp)); have HXc : Hid (Below w.heap.size w wc) := Lib.hid (HXb.out.grown hgc HXb.out.size (fun k hk => by have := Option.some.inj hk; omega)); clear hbc hgc)
        | (refine wpList_load_blk rfl 23 (.tmp 5) rfl w.heap.size rfl 23 [.string (ba q.nm), .int .i64 n, .int .i64 q.am, .int .i64 q.du, .string (ba q.po), .string (ba q.pa)] _ HBc.out Tryd.underlying23 rfl (by kernel_rfl) ?_)
        | (refine wpList_store_blk rfl 23 (.tmp 10) (.tmp 93) rfl (w.heap.size + 1) [.string (ba q.nm), .int .i64 n, .int .i64 q.am, .int .i64 q.du, .string (ba q.po), .string (ba q.pa)] rfl rfl 23 [.string (ba []), .int .i64 0, .int .i64 0, .int .i64 0, .string (ba []), .string (ba [])] HRc.out (by kernel_rfl) rfl (one6 _ _ _ _ _ _) ?_; intro wd hbd hgd; have HRd := Lib.hid hbd; have HXd : Hid (Below w.heap.size w wd) := Lib.hid (HXc.out.grown hgd HXc.out.size (fun k hk => by have := Option.some.inj hk; omega)); clear hbd hgd))
      exact bodyPost_ret (results_cell_row_tmp1 rfl _ _ (w.heap.size + 1) 23 _ (0, 0) _ rfl HRd.out Tryd.underlying23 rfl (by kernel_rfl)) rfl ⟨rfl, HXd.out⟩
    · rw [if_pos hx]
      have hxb := beq_nope hx
      have HC := Lib.hid hc
      clear hc hx
      go_enter Tryd.func7, Tryd.ntmps7
      go_wp2_with (first
        | (go_at_call 9; (with_reducible refine (HN.out _).mono ?_); rintro e w1 ⟨rfl, rfl⟩)
        | (go_at_call 14; (with_reducible refine (HC.out _).mono ?_); rintro e w1 ⟨q, rfl, _, hb⟩; have HRa : Hid (Blk w1 (w.heap.size + 1) 23 [.string (ba []), .int .i64 0, .int .i64 0, .int .i64 0, .string (ba []), .string (ba [])]) := Lib.hid ((Blk.fresh (by simp) rfl : Blk ((w.alloc (.cells #[.string (ba nm), .int .i64 st, .int .i64 am, .int .i64 du, .string (ba po), .string (ba pa)] 23)).alloc (.cells #[.string (ba []), .int .i64 0, .int .i64 0, .int .i64 0, .string (ba []), .string (ba [])] 23)) (w.heap.size + 1) 23 [.string (ba []), .int .i64 0, .int .i64 0, .int .i64 0, .string (ba []), .string (ba [])]).through hb); have HBa : Hid (Blk w1 w.heap.size 23 [.string (ba nm), .int .i64 st, .int .i64 am, .int .i64 du, .string (ba po), .string (ba pa)]) := Lib.hid (((Blk.fresh rfl rfl : Blk (w.alloc (.cells #[.string (ba nm), .int .i64 st, .int .i64 am, .int .i64 du, .string (ba po), .string (ba pa)] 23)) w.heap.size 23 [.string (ba nm), .int .i64 st, .int .i64 am, .int .i64 du, .string (ba po), .string (ba pa)]).alloc (.cells #[.string (ba []), .int .i64 0, .int .i64 0, .int .i64 0, .string (ba []), .string (ba [])] 23)).through hb); have HXa : Hid (Below w.heap.size w w1) := Lib.hid (below_step (below2 w _ _) hb); clear hb)
        | (refine wpList_store_blk rfl 23 (.tmp 5) (.tmp 49) rfl w.heap.size [.string (ba q.nm), .int .i64 q.st, .int .i64 q.am, .int .i64 q.du, .string (ba q.po), .string (ba q.pa)] rfl rfl 23 [.string (ba nm), .int .i64 st, .int .i64 am, .int .i64 du, .string (ba po), .string (ba pa)] HBa.out (by kernel_rfl) rfl (one6 _ _ _ _ _ _) ?_; intro wb hbb hgb; have HBb := Lib.hid hbb; have HRb := Lib.hid (HRa.out.grown hgb (by simp)); have HXb : Hid (Below w.heap.size w wb) := Lib.hid (HXa.out.grown hgb HXa.out.size (fun k hk => by have := Option.some.inj hk; omega)); clear hbb hgb)
        | (refine wpList_store_blk rfl 23 (.tmp 10) (.tmp 89) rfl (w.heap.size + 1) [.string (ba []), .int .i64 0, .int .i64 0, .int .i64 0, .string (ba []), .string (ba [])] rfl rfl 23 [.string (ba []), .int .i64 0, .int .i64 0, .int .i64 0, .string (ba []), .string (ba [])] HRb.out (by kernel_rfl) rfl (one6 _ _ _ _ _ _) ?_; intro wd hbd hgd; have HRd := Lib.hid hbd; have HXd : Hid (Below w.heap.size w wd) := Lib.hid (HXb.out.grown hgd HXb.out.size (fun k hk => by have := Option.some.inj hk; omega)); clear hbd hgd))
      exact bodyPost_ret (results_cell_row_tmp1 rfl _ _ (w.heap.size + 1) 23 _ (0, 0) _ rfl HRd.out Tryd.underlying23 rfl (by kernel_rfl)) rfl ⟨rfl, HXd.out⟩
  · -- issue
    have e : changeL l 2 a b t = (l, 0) := by simp [changeL]
    rw [stepL_of h0 e, if_neg (by simp)]
    clear e
    obtain ⟨nm, st, am, du, po, pa⟩ := l
    simp only at h0 hn ⊢
    generalize nextL st 2 = n at *
    have hnb := beq_nope h0
    unfold ltE Lt.val
    have HN := Lib.hid hn
    clear hn h0 hd
    go_enter Tryd.func7, Tryd.ntmps7
    go_wp2_with (go_at_call 9; (with_reducible refine (HN.out _).mono ?_); rintro e w1 ⟨rfl, rfl⟩)
    exact bodyPost_ret (results_cell_row_tmp1 rfl _ _ (w.heap.size + 1) 23 _ (0, 0) _ rfl (fin2 w _ _) Tryd.underlying23 rfl (by kernel_rfl)) rfl ⟨rfl, below2 w _ _⟩
  · -- amend
    obtain ⟨⟨q, x⟩, hq⟩ : ∃ p, changeL l 3 a b t = p := ⟨_, rfl⟩
    rw [stepL_of h0 hq]
    have e1 : changeL l 3 a b t = amendL l a b := by simp [changeL]
    rw [e1] at hq
    have hc : ∀ W, Calls Tryd.prog 15 #[l.val, .int .i64 a, .int .i64 b] W fun e w' => ∃ q', e = .returned (.tuple #[q'.val, .int .i64 x]) ∧ (x = 0 → q' = q) ∧ Below W.heap.size W w' := fun W => (ramend_any l a b W).mono fun e w' ⟨h1, h2⟩ => by
      obtain ⟨h3, h4⟩ := ramend_same l a b
      rw [hq] at h3 h4
      unfold ltE at h1
      rw [h3] at h1
      exact ⟨_, h1, h4, h2⟩
    clear e1
    obtain ⟨nm, st, am, du, po, pa⟩ := l
    simp only at h0 hn hc ⊢
    generalize nextL st 3 = n at *
    have hnb := beq_nope h0
    unfold ltE
    unfold Lt.val at hc ⊢
    have HN := Lib.hid hn
    clear hn h0 hd hq
    by_cases hx : x = 0
    · subst hx
      rw [if_neg (by simp)]
      have hc0 : ∀ W, Calls Tryd.prog 15 #[.agg #[.string (ba nm), .int .i64 st, .int .i64 am, .int .i64 du, .string (ba po), .string (ba pa)], .int .i64 a, .int .i64 b] W fun e w' => e = .returned (.tuple #[.agg #[.string (ba q.nm), .int .i64 q.st, .int .i64 q.am, .int .i64 q.du, .string (ba q.po), .string (ba q.pa)], .int .i64 0]) ∧ Below W.heap.size W w' := fun W => (hc W).mono fun e w' ⟨q', h1, h2, h3⟩ => by
        rw [h2 rfl] at h1
        exact ⟨h1, h3⟩
      have HC := Lib.hid hc0
      clear hc hc0
      go_enter Tryd.func7, Tryd.ntmps7
      go_wp2_with (first
        | (go_at_call 9; (with_reducible refine (HN.out _).mono ?_); rintro e w1 ⟨rfl, rfl⟩)
        | (go_at_call 15; (with_reducible refine (HC.out _).mono ?_); rintro e w1 ⟨rfl, hb⟩; have HRa : Hid (Blk w1 (w.heap.size + 1) 23 [.string (ba []), .int .i64 0, .int .i64 0, .int .i64 0, .string (ba []), .string (ba [])]) := Lib.hid ((Blk.fresh (by simp) rfl : Blk ((w.alloc (.cells #[.string (ba nm), .int .i64 st, .int .i64 am, .int .i64 du, .string (ba po), .string (ba pa)] 23)).alloc (.cells #[.string (ba []), .int .i64 0, .int .i64 0, .int .i64 0, .string (ba []), .string (ba [])] 23)) (w.heap.size + 1) 23 [.string (ba []), .int .i64 0, .int .i64 0, .int .i64 0, .string (ba []), .string (ba [])]).through hb); have HBa : Hid (Blk w1 w.heap.size 23 [.string (ba nm), .int .i64 st, .int .i64 am, .int .i64 du, .string (ba po), .string (ba pa)]) := Lib.hid (((Blk.fresh rfl rfl : Blk (w.alloc (.cells #[.string (ba nm), .int .i64 st, .int .i64 am, .int .i64 du, .string (ba po), .string (ba pa)] 23)) w.heap.size 23 [.string (ba nm), .int .i64 st, .int .i64 am, .int .i64 du, .string (ba po), .string (ba pa)]).alloc (.cells #[.string (ba []), .int .i64 0, .int .i64 0, .int .i64 0, .string (ba []), .string (ba [])] 23)).through hb); have HXa : Hid (Below w.heap.size w w1) := Lib.hid (below_step (below2 w _ _) hb); clear hb)
        | (refine wpList_store_blk rfl 23 (.tmp 5) (.tmp 59) rfl w.heap.size [.string (ba q.nm), .int .i64 q.st, .int .i64 q.am, .int .i64 q.du, .string (ba q.po), .string (ba q.pa)] rfl rfl 23 [.string (ba nm), .int .i64 st, .int .i64 am, .int .i64 du, .string (ba po), .string (ba pa)] HBa.out (by kernel_rfl) rfl (one6 _ _ _ _ _ _) ?_; intro wb hbb hgb; have HBb := Lib.hid hbb; have HRb := Lib.hid (HRa.out.grown hgb (by simp)); have HXb : Hid (Below w.heap.size w wb) := Lib.hid (HXa.out.grown hgb HXa.out.size (fun k hk => by have := Option.some.inj hk; omega)); clear hbb hgb)
        | (refine wpList_store_cell rfl 3 (.tmp 92) (.tmp 91) rfl w.heap.size 1 rfl (.int .i64 n) rfl rfl rfl (fun w => by kernel_rfl) 23 [.string (ba q.nm), .int .i64 q.st, .int .i64 q.am, .int .i64 q.du, .string (ba q.po), .string (ba q.pa)] HBb.out (by simp) ?_; intro wc hbc hgc; have HBc : Hid (Blk wc w.heap.size 23 [.string (ba q.nm), .int .i64 n, .int .i64 q.am, .int .i64 q.du, .string (ba q.po), .string (ba q.pa)]) := Lib.hid hbc; have HRc := Lib.hid (HRb.out.grown hgc (by simp)); have HXc : Hid (Below w.heap.size w wc) := Lib.hid (HXb.out.grown hgc HXb.out.size (fun k hk => by have := Option.some.inj hk; omega)); clear hbc hgc)
        | (refine wpList_load_blk rfl 23 (.tmp 5) rfl w.heap.size rfl 23 [.string (ba q.nm), .int .i64 n, .int .i64 q.am, .int .i64 q.du, .string (ba q.po), .string (ba q.pa)] _ HBc.out Tryd.underlying23 rfl (by kernel_rfl) ?_)
        | (refine wpList_store_blk rfl 23 (.tmp 10) (.tmp 93) rfl (w.heap.size + 1) [.string (ba q.nm), .int .i64 n, .int .i64 q.am, .int .i64 q.du, .string (ba q.po), .string (ba q.pa)] rfl rfl 23 [.string (ba []), .int .i64 0, .int .i64 0, .int .i64 0, .string (ba []), .string (ba [])] HRc.out (by kernel_rfl) rfl (one6 _ _ _ _ _ _) ?_; intro wd hbd hgd; have HRd := Lib.hid hbd; have HXd : Hid (Below w.heap.size w wd) := Lib.hid (HXc.out.grown hgd HXc.out.size (fun k hk => by have := Option.some.inj hk; omega)); clear hbd hgd))
      exact bodyPost_ret (results_cell_row_tmp1 rfl _ _ (w.heap.size + 1) 23 _ (0, 0) _ rfl HRd.out Tryd.underlying23 rfl (by kernel_rfl)) rfl ⟨rfl, HXd.out⟩
    · rw [if_pos hx]
      have hxb := beq_nope hx
      have HC := Lib.hid hc
      clear hc hx
      go_enter Tryd.func7, Tryd.ntmps7
      go_wp2_with (first
        | (go_at_call 9; (with_reducible refine (HN.out _).mono ?_); rintro e w1 ⟨rfl, rfl⟩)
        | (go_at_call 15; (with_reducible refine (HC.out _).mono ?_); rintro e w1 ⟨q, rfl, _, hb⟩; have HRa : Hid (Blk w1 (w.heap.size + 1) 23 [.string (ba []), .int .i64 0, .int .i64 0, .int .i64 0, .string (ba []), .string (ba [])]) := Lib.hid ((Blk.fresh (by simp) rfl : Blk ((w.alloc (.cells #[.string (ba nm), .int .i64 st, .int .i64 am, .int .i64 du, .string (ba po), .string (ba pa)] 23)).alloc (.cells #[.string (ba []), .int .i64 0, .int .i64 0, .int .i64 0, .string (ba []), .string (ba [])] 23)) (w.heap.size + 1) 23 [.string (ba []), .int .i64 0, .int .i64 0, .int .i64 0, .string (ba []), .string (ba [])]).through hb); have HBa : Hid (Blk w1 w.heap.size 23 [.string (ba nm), .int .i64 st, .int .i64 am, .int .i64 du, .string (ba po), .string (ba pa)]) := Lib.hid (((Blk.fresh rfl rfl : Blk (w.alloc (.cells #[.string (ba nm), .int .i64 st, .int .i64 am, .int .i64 du, .string (ba po), .string (ba pa)] 23)) w.heap.size 23 [.string (ba nm), .int .i64 st, .int .i64 am, .int .i64 du, .string (ba po), .string (ba pa)]).alloc (.cells #[.string (ba []), .int .i64 0, .int .i64 0, .int .i64 0, .string (ba []), .string (ba [])] 23)).through hb); have HXa : Hid (Below w.heap.size w w1) := Lib.hid (below_step (below2 w _ _) hb); clear hb)
        | (refine wpList_store_blk rfl 23 (.tmp 5) (.tmp 59) rfl w.heap.size [.string (ba q.nm), .int .i64 q.st, .int .i64 q.am, .int .i64 q.du, .string (ba q.po), .string (ba q.pa)] rfl rfl 23 [.string (ba nm), .int .i64 st, .int .i64 am, .int .i64 du, .string (ba po), .string (ba pa)] HBa.out (by kernel_rfl) rfl (one6 _ _ _ _ _ _) ?_; intro wb hbb hgb; have HBb := Lib.hid hbb; have HRb := Lib.hid (HRa.out.grown hgb (by simp)); have HXb : Hid (Below w.heap.size w wb) := Lib.hid (HXa.out.grown hgb HXa.out.size (fun k hk => by have := Option.some.inj hk; omega)); clear hbb hgb)
        | (refine wpList_store_blk rfl 23 (.tmp 10) (.tmp 89) rfl (w.heap.size + 1) [.string (ba []), .int .i64 0, .int .i64 0, .int .i64 0, .string (ba []), .string (ba [])] rfl rfl 23 [.string (ba []), .int .i64 0, .int .i64 0, .int .i64 0, .string (ba []), .string (ba [])] HRb.out (by kernel_rfl) rfl (one6 _ _ _ _ _ _) ?_; intro wd hbd hgd; have HRd := Lib.hid hbd; have HXd : Hid (Below w.heap.size w wd) := Lib.hid (HXb.out.grown hgd HXb.out.size (fun k hk => by have := Option.some.inj hk; omega)); clear hbd hgd))
      exact bodyPost_ret (results_cell_row_tmp1 rfl _ _ (w.heap.size + 1) 23 _ (0, 0) _ rfl HRd.out Tryd.underlying23 rfl (by kernel_rfl)) rfl ⟨rfl, HXd.out⟩
  · -- present
    by_cases hlen : 200 < t.length
    · obtain ⟨nm, st, am, du, po, pa⟩ := l
      simp only at h0 hn ⊢
      have e : changeL ⟨nm, st, am, du, po, pa⟩ 4 a b t = (Lt.no, 3) := by simp [changeL, presentL, hlen]
      rw [stepL_of h0 e, if_pos (by simp)]
      clear e
      try simp only at h0 hn ⊢
      generalize nextL st 4 = n at *
      have hnb := beq_nope h0
      unfold ltE Lt.val
      have HN := Lib.hid hn
      clear hn h0 hd
      go_enter Tryd.func7, Tryd.ntmps7
      go_wp2_with (go_at_call 9; (with_reducible refine (HN.out _).mono ?_); rintro e w1 ⟨rfl, rfl⟩)
      exact bodyPost_ret (results_cell_row_tmp1 rfl _ _ (w.heap.size + 1) 23 _ (0, 0) _ rfl (fin2 w _ _) Tryd.underlying23 rfl (by kernel_rfl)) rfl ⟨rfl, below2 w _ _⟩
    obtain ⟨nm, st, am, du, po, pa⟩ := l
    simp only at h0 hn ⊢
    have e : changeL ⟨nm, st, am, du, po, pa⟩ 4 a b t = (⟨nm, st, am, du, po, t⟩, 0) := by simp [changeL, presentL, hlen]
    rw [stepL_of h0 e, if_neg (by simp)]
    clear e
    try simp only at h0 hn ⊢
    generalize nextL st 4 = n at *
    have hnb := beq_nope h0
    unfold ltE Lt.val
    have HN := Lib.hid hn
    clear hn h0 hd
    go_enter Tryd.func7, Tryd.ntmps7
    go_wp2_with (go_at_call 9; (with_reducible refine (HN.out _).mono ?_); rintro e w1 ⟨rfl, rfl⟩)
    exact bodyPost_ret (results_cell_row_tmp1 rfl _ _ (w.heap.size + 1) 23 _ (0, 0) _ rfl (fin2 w _ _) Tryd.underlying23 rfl (by kernel_rfl)) rfl ⟨rfl, below2 w _ _⟩
  · -- accept
    have e : changeL l 5 a b t = (l, 0) := by simp [changeL]
    rw [stepL_of h0 e, if_neg (by simp)]
    clear e
    obtain ⟨nm, st, am, du, po, pa⟩ := l
    simp only at h0 hn ⊢
    generalize nextL st 5 = n at *
    have hnb := beq_nope h0
    unfold ltE Lt.val
    have HN := Lib.hid hn
    clear hn h0 hd
    go_enter Tryd.func7, Tryd.ntmps7
    go_wp2_with (go_at_call 9; (with_reducible refine (HN.out _).mono ?_); rintro e w1 ⟨rfl, rfl⟩)
    exact bodyPost_ret (results_cell_row_tmp1 rfl _ _ (w.heap.size + 1) 23 _ (0, 0) _ rfl (fin2 w _ _) Tryd.underlying23 rfl (by kernel_rfl)) rfl ⟨rfl, below2 w _ _⟩
  · -- reject
    obtain ⟨nm, st, am, du, po, pa⟩ := l
    simp only at h0 hn ⊢
    have e : changeL ⟨nm, st, am, du, po, pa⟩ 6 a b t = (⟨nm, st, am, du, po, []⟩, 0) := by simp [changeL]
    rw [stepL_of h0 e, if_neg (by simp)]
    clear e
    try simp only at h0 hn ⊢
    generalize nextL st 6 = n at *
    have hnb := beq_nope h0
    unfold ltE Lt.val
    have HN := Lib.hid hn
    clear hn h0 hd
    go_enter Tryd.func7, Tryd.ntmps7
    go_wp2_with (go_at_call 9; (with_reducible refine (HN.out _).mono ?_); rintro e w1 ⟨rfl, rfl⟩)
    exact bodyPost_ret (results_cell_row_tmp1 rfl _ _ (w.heap.size + 1) 23 _ (0, 0) _ rfl (fin2 w _ _) Tryd.underlying23 rfl (by kernel_rfl)) rfl ⟨rfl, below2 w _ _⟩
  · -- pay
    have e : changeL l 7 a b t = (l, 0) := by simp [changeL]
    rw [stepL_of h0 e, if_neg (by simp)]
    clear e
    obtain ⟨nm, st, am, du, po, pa⟩ := l
    simp only at h0 hn ⊢
    generalize nextL st 7 = n at *
    have hnb := beq_nope h0
    unfold ltE Lt.val
    have HN := Lib.hid hn
    clear hn h0 hd
    go_enter Tryd.func7, Tryd.ntmps7
    go_wp2_with (go_at_call 9; (with_reducible refine (HN.out _).mono ?_); rintro e w1 ⟨rfl, rfl⟩)
    exact bodyPost_ret (results_cell_row_tmp1 rfl _ _ (w.heap.size + 1) 23 _ (0, 0) _ rfl (fin2 w _ _) Tryd.underlying23 rfl (by kernel_rfl)) rfl ⟨rfl, below2 w _ _⟩
  · -- expire
    cases hm : isM a <;> rw [hm] at hd
    · have HD := Lib.hid hd
      obtain ⟨nm, st, am, du, po, pa⟩ := l
      simp only at h0 hn ⊢
      have e : changeL ⟨nm, st, am, du, po, pa⟩ 8 a b t = (⟨nm, st, am, du, po, pa⟩, 5) := by simp [changeL, expiryL, hm]
      rw [stepL_of h0 e, if_pos (by simp)]
      clear e
      try simp only at h0 hn ⊢
      generalize nextL st 8 = n at *
      have hnb := beq_nope h0
      unfold ltE Lt.val
      have HN := Lib.hid hn
      clear hn h0 hm hd
      go_enter Tryd.func7, Tryd.ntmps7
      go_wp2_with (first
        | (go_at_call 9; (with_reducible refine (HN.out _).mono ?_); rintro e w1 ⟨rfl, rfl⟩)
        | (go_at_call 16; (with_reducible refine (HD.out _).mono ?_); rintro e w1 ⟨rfl, rfl⟩))
      exact bodyPost_ret (results_cell_row_tmp1 rfl _ _ (w.heap.size + 1) 23 _ (0, 0) _ rfl (fin2 w _ _) Tryd.underlying23 rfl (by kernel_rfl)) rfl ⟨rfl, below2 w _ _⟩
    · by_cases hlt : a < l.du
      · have HD := Lib.hid hd
        obtain ⟨nm, st, am, du, po, pa⟩ := l
        simp only at h0 hn ⊢
        have e : changeL ⟨nm, st, am, du, po, pa⟩ 8 a b t = (⟨nm, st, am, du, po, pa⟩, 8) := by simp only at hlt; simp [changeL, expiryL, hm, hlt]
        rw [stepL_of h0 e, if_pos (by simp)]
        clear e
        try simp only at h0 hn hlt ⊢
        generalize nextL st 8 = n at *
        have hnb := beq_nope h0
        unfold ltE Lt.val
        have HN := Lib.hid hn
        clear hn h0 hm hd
        go_enter Tryd.func7, Tryd.ntmps7
        go_wp2_with (first
          | (go_at_call 9; (with_reducible refine (HN.out _).mono ?_); rintro e w1 ⟨rfl, rfl⟩)
          | (go_at_call 16; (with_reducible refine (HD.out _).mono ?_); rintro e w1 ⟨rfl, rfl⟩))
        exact bodyPost_ret (results_cell_row_tmp1 rfl _ _ (w.heap.size + 1) 23 _ (0, 0) _ rfl (fin2 w _ _) Tryd.underlying23 rfl (by kernel_rfl)) rfl ⟨rfl, below2 w _ _⟩
      · have HD := Lib.hid hd
        obtain ⟨nm, st, am, du, po, pa⟩ := l
        simp only at h0 hn ⊢
        have e : changeL ⟨nm, st, am, du, po, pa⟩ 8 a b t = (⟨nm, st, am, du, po, pa⟩, 0) := by simp only at hlt; simp [changeL, expiryL, hm, hlt]
        rw [stepL_of h0 e, if_neg (by simp)]
        clear e
        try simp only at h0 hn hlt ⊢
        generalize nextL st 8 = n at *
        have hnb := beq_nope h0
        unfold ltE Lt.val
        have HN := Lib.hid hn
        clear hn h0 hm hd
        go_enter Tryd.func7, Tryd.ntmps7
        go_wp2_with (first
          | (go_at_call 9; (with_reducible refine (HN.out _).mono ?_); rintro e w1 ⟨rfl, rfl⟩)
          | (go_at_call 16; (with_reducible refine (HD.out _).mono ?_); rintro e w1 ⟨rfl, rfl⟩))
        exact bodyPost_ret (results_cell_row_tmp1 rfl _ _ (w.heap.size + 1) 23 _ (0, 0) _ rfl (fin2 w _ _) Tryd.underlying23 rfl (by kernel_rfl)) rfl ⟨rfl, below2 w _ _⟩
  · -- cancel
    have e : changeL l 9 a b t = (l, 0) := by simp [changeL]
    rw [stepL_of h0 e, if_neg (by simp)]
    clear e
    obtain ⟨nm, st, am, du, po, pa⟩ := l
    simp only at h0 hn ⊢
    generalize nextL st 9 = n at *
    have hnb := beq_nope h0
    unfold ltE Lt.val
    have HN := Lib.hid hn
    clear hn h0 hd
    go_enter Tryd.func7, Tryd.ntmps7
    go_wp2_with (go_at_call 9; (with_reducible refine (HN.out _).mono ?_); rintro e w1 ⟨rfl, rfl⟩)
    exact bodyPost_ret (results_cell_row_tmp1 rfl _ _ (w.heap.size + 1) 23 _ (0, 0) _ rfl (fin2 w _ _) Tryd.underlying23 rfl (by kernel_rfl)) rfl ⟨rfl, below2 w _ _⟩
  · exact absurd (nextL_out hop) h0

end Go.Proofs.YtjdglfjbfejcdaaDoor
