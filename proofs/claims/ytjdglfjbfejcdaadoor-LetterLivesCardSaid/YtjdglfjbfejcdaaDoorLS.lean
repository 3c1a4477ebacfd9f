/-
  The program's Step, walked.
-/
import Derived.Test.YtjdglfjbfejcdaaDoorLC
namespace Go.Proofs.YtjdglfjbfejcdaaDoor
open Go.RowKit

set_option maxHeartbeats 4000000 in
set_option maxRecDepth 100000 in
theorem step_any (l : Lt) (op a b : Int) (t : List UInt8) (w : World) (hl : Led w) : Calls Tryd.prog 6 #[l.val, .int .i64 op, .int .i64 a, .int .i64 b, .string (ba t)] w fun e w' => e = .returned (ltE (stepL l op a b t)) ∧ Below w.heap.size w w' := by
  have hz := Tryd.zero_lt
  have hbn := Tryd.build_no
  have hi : ∀ W, Calls Tryd.prog 12 #[.int .i64 op] W fun e w' => e = .returned (.bool (decide (1 ≤ op) && decide (op ≤ 9))) ∧ w' = W := fun W => isstep_any op W
  have hk : ∀ W, Led W → Calls Tryd.prog 10 #[.int .i64 l.st, .int .i64 op] W fun e w' => e = .returned (.bool (!(nextL l.st op == 0))) ∧ w' = W := fun W h => can_any l.st op W h
  have hn : ∀ W, Led W → Calls Tryd.prog 8 #[.int .i64 l.st, .int .i64 op] W fun e w' => e = .returned (.int .i64 (nextL l.st op)) ∧ w' = W := fun W h => next_any l.st op W h
  have hc : ∀ W, Calls Tryd.prog 13 #[l.val, .int .i64 op, .int .i64 a, .int .i64 b, .string (ba t)] W fun e w' => e = .returned (ltE (changeL l op a b t)) ∧ Below W.heap.size W w' := fun W => change_any l op a b t W
  unfold stepL
  by_cases hop : op < 1 ∨ 9 < op
  · rw [if_pos (nextL_out hop), if_pos hop]
    have hb : (decide (1 ≤ op) && decide (op ≤ 9)) = false := by simp; omega
    rw [hb] at hi
    obtain ⟨nm, st, am, du, po, pa⟩ := l
    unfold Lt.val
    have HI := Lib.hid hi
    clear hi hk hn hc hb hop hl
    go_enter Tryd.func6, Tryd.ntmps6
    go_wp2_with (go_at_call 12; (with_reducible refine (HI.out _).mono ?_); rintro e w1 ⟨rfl, rfl⟩)
    exact bodyPost_ret (results_cell_row_tmp1 rfl _ _ (w.heap.size + 1) 23 _ (0, 0) _ rfl (fin2 w _ _) Tryd.underlying23 rfl (by kernel_rfl)) rfl ⟨rfl, below2 w _ _⟩
  have hb : (decide (1 ≤ op) && decide (op ≤ 9)) = true := by simp; omega
  rw [hb] at hi
  clear hb
  by_cases h0 : nextL l.st op = 0
  · rw [if_pos h0, if_neg hop]
    rw [h0] at hk
    obtain ⟨nm, st, am, du, po, pa⟩ := l
    unfold Lt.val
    have HI := Lib.hid hi
    have HK := Lib.hid hk
    have HL2 : Hid (Led ((w.alloc (.cells #[.string (ba nm), .int .i64 st, .int .i64 am, .int .i64 du, .string (ba po), .string (ba pa)] 23)).alloc (.cells #[.string (ba []), .int .i64 0, .int .i64 0, .int .i64 0, .string (ba []), .string (ba [])] 23))) := Lib.hid ((hl.alloc _).alloc _)
    clear hi hk hn hc hop hl h0
    go_enter Tryd.func6, Tryd.ntmps6
    go_wp2_with (first
      | (go_at_call 12; (with_reducible refine (HI.out _).mono ?_); rintro e w1 ⟨rfl, rfl⟩)
      | (go_at_call 10; (with_reducible refine (HK.out _ HL2.out).mono ?_); rintro e w1 ⟨rfl, rfl⟩))
    exact bodyPost_ret (results_cell_row_tmp1 rfl _ _ (w.heap.size + 1) 23 _ (0, 0) _ rfl (fin2 w _ _) Tryd.underlying23 rfl (by kernel_rfl)) rfl ⟨rfl, below2 w _ _⟩
  rw [if_neg h0]
  have h0b : (!(nextL l.st op == 0)) = true := by simpa using h0
  rw [h0b] at hk
  unfold ltE at hc ⊢
  generalize (changeL l op a b t).1 = q at *
  generalize (changeL l op a b t).2 = x at *
  clear h0b h0 hop
  generalize nextL l.st op = n at *
  obtain ⟨nm, st, am, du, po, pa⟩ := l
  simp only at hk hn
  unfold Lt.val at hc ⊢
  have HI := Lib.hid hi
  have HK := Lib.hid hk
  have HN := Lib.hid hn
  have HC := Lib.hid hc
  have HL2 : Hid (Led ((w.alloc (.cells #[.string (ba nm), .int .i64 st, .int .i64 am, .int .i64 du, .string (ba po), .string (ba pa)] 23)).alloc (.cells #[.string (ba []), .int .i64 0, .int .i64 0, .int .i64 0, .string (ba []), .string (ba [])] 23))) := Lib.hid ((hl.alloc _).alloc _)
  clear hi hk hn hc hl
  by_cases hx : x = 0
  · subst hx
    simp only [ne_eq, not_true_eq_false, if_false]
    go_enter Tryd.func6, Tryd.ntmps6
    go_wp2_with (first
      | (go_at_call 12; (with_reducible refine (HI.out _).mono ?_); rintro e w1 ⟨rfl, rfl⟩)
      | (go_at_call 10; (with_reducible refine (HK.out _ HL2.out).mono ?_); rintro e w1 ⟨rfl, rfl⟩)
      | (go_at_call 13; (with_reducible refine (HC.out _).mono ?_); rintro e w1 ⟨rfl, hb⟩; have HRa : Hid (Blk w1 (w.heap.size + 1) 23 [.string (ba []), .int .i64 0, .int .i64 0, .int .i64 0, .string (ba []), .string (ba [])]) := Lib.hid ((Blk.fresh (by simp) rfl : Blk ((w.alloc (.cells #[.string (ba nm), .int .i64 st, .int .i64 am, .int .i64 du, .string (ba po), .string (ba pa)] 23)).alloc (.cells #[.string (ba []), .int .i64 0, .int .i64 0, .int .i64 0, .string (ba []), .string (ba [])] 23)) (w.heap.size + 1) 23 [.string (ba []), .int .i64 0, .int .i64 0, .int .i64 0, .string (ba []), .string (ba [])]).through hb); have HBa : Hid (Blk w1 w.heap.size 23 [.string (ba nm), .int .i64 st, .int .i64 am, .int .i64 du, .string (ba po), .string (ba pa)]) := Lib.hid (((Blk.fresh rfl rfl : Blk (w.alloc (.cells #[.string (ba nm), .int .i64 st, .int .i64 am, .int .i64 du, .string (ba po), .string (ba pa)] 23)) w.heap.size 23 [.string (ba nm), .int .i64 st, .int .i64 am, .int .i64 du, .string (ba po), .string (ba pa)]).alloc (.cells #[.string (ba []), .int .i64 0, .int .i64 0, .int .i64 0, .string (ba []), .string (ba [])] 23)).through hb); have HXa : Hid (Below w.heap.size w w1) := Lib.hid (below_step (below2 w _ _) hb); have HLa : Hid (Led w1) := Lib.hid (HL2.out.through hb); have c1 := (HBa.out.alloc (.cells #[.string (ba q.nm), .int .i64 q.st, .int .i64 q.am, .int .i64 q.du, .string (ba q.po), .string (ba q.pa)] 23)).cellAt (i := 1) rfl; clear hb)
      | (go_at_call 8; (with_reducible refine (HN.out _ (HLa.out.alloc (.cells #[.string (ba q.nm), .int .i64 q.st, .int .i64 q.am, .int .i64 q.du, .string (ba q.po), .string (ba q.pa)] 23))).mono ?_); rintro e w2 ⟨rfl, rfl⟩)
      | (refine wpList_store_blk rfl 23 (.tmp 10) (.tmp 42) rfl (w.heap.size + 1) [.string (ba q.nm), .int .i64 n, .int .i64 q.am, .int .i64 q.du, .string (ba q.po), .string (ba q.pa)] rfl rfl 23 [.string (ba []), .int .i64 0, .int .i64 0, .int .i64 0, .string (ba []), .string (ba [])] (HRa.out.alloc _) (by kernel_rfl) rfl (one6 _ _ _ _ _ _) ?_; intro wb hbb hgb; have HRb := Lib.hid hbb; have HXb : Hid (Below w.heap.size w wb) := Lib.hid ((HXa.out.alloc HXa.out.size _).grown hgb (by have := HXa.out.size; simp; omega) (fun k hk => by have := Option.some.inj hk; omega)); clear hbb hgb))
    exact bodyPost_ret (results_cell_row_tmp1 rfl _ _ (w.heap.size + 1) 23 _ (0, 0) _ rfl HRb.out Tryd.underlying23 rfl (by kernel_rfl)) rfl ⟨rfl, HXb.out⟩
  · simp only [ne_eq, hx, not_false_eq_true, if_true]
    have hxb := beq_nope hx
    clear hx
    go_enter Tryd.func6, Tryd.ntmps6
    go_wp2_with (first
      | (go_at_call 12; (with_reducible refine (HI.out _).mono ?_); rintro e w1 ⟨rfl, rfl⟩)
      | (go_at_call 10; (with_reducible refine (HK.out _ HL2.out).mono ?_); rintro e w1 ⟨rfl, rfl⟩)
      | (go_at_call 13; (with_reducible refine (HC.out _).mono ?_); rintro e w1 ⟨rfl, hb⟩; have HRa : Hid (Blk w1 (w.heap.size + 1) 23 [.string (ba []), .int .i64 0, .int .i64 0, .int .i64 0, .string (ba []), .string (ba [])]) := Lib.hid ((Blk.fresh (by simp) rfl : Blk ((w.alloc (.cells #[.string (ba nm), .int .i64 st, .int .i64 am, .int .i64 du, .string (ba po), .string (ba pa)] 23)).alloc (.cells #[.string (ba []), .int .i64 0, .int .i64 0, .int .i64 0, .string (ba []), .string (ba [])] 23)) (w.heap.size + 1) 23 [.string (ba []), .int .i64 0, .int .i64 0, .int .i64 0, .string (ba []), .string (ba [])]).through hb); have HBa : Hid (Blk w1 w.heap.size 23 [.string (ba nm), .int .i64 st, .int .i64 am, .int .i64 du, .string (ba po), .string (ba pa)]) := Lib.hid (((Blk.fresh rfl rfl : Blk (w.alloc (.cells #[.string (ba nm), .int .i64 st, .int .i64 am, .int .i64 du, .string (ba po), .string (ba pa)] 23)) w.heap.size 23 [.string (ba nm), .int .i64 st, .int .i64 am, .int .i64 du, .string (ba po), .string (ba pa)]).alloc (.cells #[.string (ba []), .int .i64 0, .int .i64 0, .int .i64 0, .string (ba []), .string (ba [])] 23)).through hb); have HXa : Hid (Below w.heap.size w w1) := Lib.hid (below_step (below2 w _ _) hb); have HLa : Hid (Led w1) := Lib.hid (HL2.out.through hb); have c1 := (HBa.out.alloc (.cells #[.string (ba q.nm), .int .i64 q.st, .int .i64 q.am, .int .i64 q.du, .string (ba q.po), .string (ba q.pa)] 23)).cellAt (i := 1) rfl; clear hb)
      | (refine wpList_store_blk rfl 23 (.tmp 10) (.tmp 35) rfl (w.heap.size + 1) [.string (ba []), .int .i64 0, .int .i64 0, .int .i64 0, .string (ba []), .string (ba [])] rfl rfl 23 [.string (ba []), .int .i64 0, .int .i64 0, .int .i64 0, .string (ba []), .string (ba [])] (HRa.out.alloc _) (by kernel_rfl) rfl (one6 _ _ _ _ _ _) ?_; intro wb hbb hgb; have HRb := Lib.hid hbb; have HXb : Hid (Below w.heap.size w wb) := Lib.hid ((HXa.out.alloc HXa.out.size _).grown hgb (by have := HXa.out.size; simp; omega) (fun k hk => by have := Option.some.inj hk; omega)); clear hbb hgb))
    exact bodyPost_ret (results_cell_row_tmp1 rfl _ _ (w.heap.size + 1) 23 _ (0, 0) _ rfl HRb.out Tryd.underlying23 rfl (by kernel_rfl)) rfl ⟨rfl, HXb.out⟩

end Go.Proofs.YtjdglfjbfejcdaaDoor
