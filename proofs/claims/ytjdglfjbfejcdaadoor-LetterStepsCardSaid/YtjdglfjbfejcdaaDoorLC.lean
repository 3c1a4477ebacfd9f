/-
  What a step does beside the state: the program's change, walked.
-/
import Derived.Test.YtjdglfjbfejcdaaDoorLP
namespace Go.Proofs.YtjdglfjbfejcdaaDoor
open Go.RowKit

theorem one6 (a b c : ByteArray) (i j k : Int) : ([.string a, .int .i64 i, .int .i64 j, .int .i64 k, .string b, .string c] : List Value).toArray.all (·.oneCell') = true := by kernel_rfl
theorem fin2d (w : World) (A B : Obj) : ((w.alloc A).alloc B).drew.heap[w.heap.size + 1]? = some B := fin2 w A B
theorem beq_nope {a b : Int} (h : a ≠ b) : (a == b) = false := by simpa using h

set_option maxHeartbeats 4000000 in
set_option maxRecDepth 100000 in
theorem change_any (l : Lt) (op a b : Int) (t : List UInt8) (w : World) : Calls Tryd.prog 13 #[l.val, .int .i64 op, .int .i64 a, .int .i64 b, .string (ba t)] w fun e w' => e = .returned (ltE (changeL l op a b t)) ∧ Below w.heap.size w w' := by
  have hz := Tryd.zero_lt
  have hbn := Tryd.build_no
  unfold changeL
  by_cases h1 : op = 1
  · subst h1
    rw [if_pos rfl]
    have hc : ∀ W, Calls Tryd.prog 17 #[.string (ba l.nm), .int .i64 a, .int .i64 b, .string (ba t)] W fun e w' => e = .returned (ltE (applyL l.nm a b t)) ∧ Below W.heap.size W w' := fun W => apply_any _ a b t W
    obtain ⟨nm, st, am, du, po, pa⟩ := l
    unfold ltE at hc ⊢
    simp only at hc ⊢
    generalize (applyL nm a b t).1 = q at *
    generalize (applyL nm a b t).2 = x at *
    unfold Lt.val at hc ⊢
    have HC := Lib.hid hc
    clear hc
    go_enter Tryd.func13, Tryd.ntmps13
    go_wp2_with (first
      | (go_at_call 17; (with_reducible refine (HC.out _).mono ?_); rintro e w1 ⟨rfl, hb⟩; have HRa : Hid (Blk w1 (w.heap.size + 1) 23 [.string (ba []), .int .i64 0, .int .i64 0, .int .i64 0, .string (ba []), .string (ba [])]) := Lib.hid ((Blk.fresh (by simp) rfl : Blk ((w.alloc (.cells #[.string (ba nm), .int .i64 st, .int .i64 am, .int .i64 du, .string (ba po), .string (ba pa)] 23)).alloc (.cells #[.string (ba []), .int .i64 0, .int .i64 0, .int .i64 0, .string (ba []), .string (ba [])] 23)) (w.heap.size + 1) 23 [.string (ba []), .int .i64 0, .int .i64 0, .int .i64 0, .string (ba []), .string (ba [])]).through hb); have HXa : Hid (Below w.heap.size w w1) := Lib.hid (below_step (below2 w _ _) hb); clear hb)
      | (refine wpList_store_blk rfl 23 (.tmp 10) (.tmp 21) rfl (w.heap.size + 1) [.string (ba q.nm), .int .i64 q.st, .int .i64 q.am, .int .i64 q.du, .string (ba q.po), .string (ba q.pa)] rfl rfl 23 [.string (ba []), .int .i64 0, .int .i64 0, .int .i64 0, .string (ba []), .string (ba [])] HRa.out (by kernel_rfl) rfl (one6 _ _ _ _ _ _) ?_; intro wb hbb hgb; have HRb := Lib.hid hbb; have HXb : Hid (Below w.heap.size w wb) := Lib.hid (HXa.out.grown hgb HXa.out.size (fun k hk => by have := Option.some.inj hk; omega)); clear hbb hgb))
    exact bodyPost_ret (results_cell_row_tmp1 rfl _ _ (w.heap.size + 1) 23 _ (0, 0) _ rfl HRb.out Tryd.underlying23 rfl (by kernel_rfl)) rfl ⟨rfl, HXb.out⟩
  rw [if_neg h1]
  have n1 := beq_nope h1
  clear h1
  by_cases h3 : op = 3
  · subst h3
    rw [if_pos rfl]
    have hc : ∀ W, Calls Tryd.prog 18 #[l.val, .int .i64 a, .int .i64 b] W fun e w' => e = .returned (ltE (amendL l a b)) ∧ Below W.heap.size W w' := fun W => amend_any l a b W
    unfold ltE at hc ⊢
    generalize (amendL l a b).1 = q at *
    generalize (amendL l a b).2 = x at *
    obtain ⟨nm, st, am, du, po, pa⟩ := l
    unfold Lt.val at hc ⊢
    have HC := Lib.hid hc
    clear hc n1
    go_enter Tryd.func13, Tryd.ntmps13
    go_wp2_with (first
      | (go_at_call 18; (with_reducible refine (HC.out _).mono ?_); rintro e w1 ⟨rfl, hb⟩; have HRa : Hid (Blk w1 (w.heap.size + 1) 23 [.string (ba []), .int .i64 0, .int .i64 0, .int .i64 0, .string (ba []), .string (ba [])]) := Lib.hid ((Blk.fresh (by simp) rfl : Blk ((w.alloc (.cells #[.string (ba nm), .int .i64 st, .int .i64 am, .int .i64 du, .string (ba po), .string (ba pa)] 23)).alloc (.cells #[.string (ba []), .int .i64 0, .int .i64 0, .int .i64 0, .string (ba []), .string (ba [])] 23)) (w.heap.size + 1) 23 [.string (ba []), .int .i64 0, .int .i64 0, .int .i64 0, .string (ba []), .string (ba [])]).through hb); have HXa : Hid (Below w.heap.size w w1) := Lib.hid (below_step (below2 w _ _) hb); clear hb)
      | (refine wpList_store_blk rfl 23 (.tmp 10) (.tmp 29) rfl (w.heap.size + 1) [.string (ba q.nm), .int .i64 q.st, .int .i64 q.am, .int .i64 q.du, .string (ba q.po), .string (ba q.pa)] rfl rfl 23 [.string (ba []), .int .i64 0, .int .i64 0, .int .i64 0, .string (ba []), .string (ba [])] HRa.out (by kernel_rfl) rfl (one6 _ _ _ _ _ _) ?_; intro wb hbb hgb; have HRb := Lib.hid hbb; have HXb : Hid (Below w.heap.size w wb) := Lib.hid (HXa.out.grown hgb HXa.out.size (fun k hk => by have := Option.some.inj hk; omega)); clear hbb hgb))
    exact bodyPost_ret (results_cell_row_tmp1 rfl _ _ (w.heap.size + 1) 23 _ (0, 0) _ rfl HRb.out Tryd.underlying23 rfl (by kernel_rfl)) rfl ⟨rfl, HXb.out⟩
  rw [if_neg h3]
  have n3 := beq_nope h3
  clear h3
  by_cases h4 : op = 4
  · subst h4
    rw [if_pos rfl]
    have hc : ∀ W, Calls Tryd.prog 19 #[l.val, .string (ba t)] W fun e w' => e = .returned (ltE (presentL l t)) ∧ Below W.heap.size W w' := fun W => present_any l t W
    unfold ltE at hc ⊢
    generalize (presentL l t).1 = q at *
    generalize (presentL l t).2 = x at *
    obtain ⟨nm, st, am, du, po, pa⟩ := l
    unfold Lt.val at hc ⊢
    have HC := Lib.hid hc
    clear hc n1 n3
    go_enter Tryd.func13, Tryd.ntmps13
    go_wp2_with (first
      | (go_at_call 19; (with_reducible refine (HC.out _).mono ?_); rintro e w1 ⟨rfl, hb⟩; have HRa : Hid (Blk w1 (w.heap.size + 1) 23 [.string (ba []), .int .i64 0, .int .i64 0, .int .i64 0, .string (ba []), .string (ba [])]) := Lib.hid ((Blk.fresh (by simp) rfl : Blk ((w.alloc (.cells #[.string (ba nm), .int .i64 st, .int .i64 am, .int .i64 du, .string (ba po), .string (ba pa)] 23)).alloc (.cells #[.string (ba []), .int .i64 0, .int .i64 0, .int .i64 0, .string (ba []), .string (ba [])] 23)) (w.heap.size + 1) 23 [.string (ba []), .int .i64 0, .int .i64 0, .int .i64 0, .string (ba []), .string (ba [])]).through hb); have HXa : Hid (Below w.heap.size w w1) := Lib.hid (below_step (below2 w _ _) hb); clear hb)
      | (refine wpList_store_blk rfl 23 (.tmp 10) (.tmp 36) rfl (w.heap.size + 1) [.string (ba q.nm), .int .i64 q.st, .int .i64 q.am, .int .i64 q.du, .string (ba q.po), .string (ba q.pa)] rfl rfl 23 [.string (ba []), .int .i64 0, .int .i64 0, .int .i64 0, .string (ba []), .string (ba [])] HRa.out (by kernel_rfl) rfl (one6 _ _ _ _ _ _) ?_; intro wb hbb hgb; have HRb := Lib.hid hbb; have HXb : Hid (Below w.heap.size w wb) := Lib.hid (HXa.out.grown hgb HXa.out.size (fun k hk => by have := Option.some.inj hk; omega)); clear hbb hgb))
    exact bodyPost_ret (results_cell_row_tmp1 rfl _ _ (w.heap.size + 1) 23 _ (0, 0) _ rfl HRb.out Tryd.underlying23 rfl (by kernel_rfl)) rfl ⟨rfl, HXb.out⟩
  rw [if_neg h4]
  have n4 := beq_nope h4
  clear h4
  by_cases h6 : op = 6
  · subst h6
    rw [if_pos rfl]
    obtain ⟨nm, st, am, du, po, pa⟩ := l
    unfold Lt.val
    clear n1 n3 n4
    go_enter Tryd.func13, Tryd.ntmps13
    go_wp2
    exact bodyPost_ret (results_cell_row_tmp1 rfl _ _ (w.heap.size + 1) 23 _ (0, 0) _ rfl (fin2 w _ _) Tryd.underlying23 rfl (by kernel_rfl)) rfl ⟨rfl, below2 w _ _⟩
  rw [if_neg h6]
  have n6 := beq_nope h6
  clear h6
  by_cases h8 : op = 8
  · subst h8
    rw [if_pos rfl]
    have hc : ∀ W, Calls Tryd.prog 20 #[.int .i64 l.du, .int .i64 a] W fun e w' => e = .returned (.int .i64 (expiryL l.du a)) ∧ w' = W := fun W => expiry_any l.du a W
    obtain ⟨nm, st, am, du, po, pa⟩ := l
    simp only at hc ⊢
    generalize expiryL du a = x at *
    unfold Lt.val
    have HC := Lib.hid hc
    clear hc n1 n3 n4 n6
    go_enter Tryd.func13, Tryd.ntmps13
    go_wp2
    go_region_with ((go_at_call 20; (with_reducible refine (HC.out _).mono ?_); rintro e w1 ⟨rfl, rfl⟩))
    all_goals go_wp2
    all_goals exact bodyPost_ret (results_cell_row_tmp1 rfl _ _ (w.heap.size + 1) 23 _ (0, 0) _ rfl (fin2d w _ _) Tryd.underlying23 rfl (by kernel_rfl)) rfl ⟨rfl, (below2 w _ _).drew⟩
  rw [if_neg h8]
  have n8 := beq_nope h8
  clear h8
  obtain ⟨nm, st, am, du, po, pa⟩ := l
  unfold Lt.val
  go_enter Tryd.func13, Tryd.ntmps13
  go_wp2
  exact bodyPost_ret (results_cell_row_tmp1 rfl _ _ (w.heap.size + 1) 23 _ (0, 0) _ rfl (fin2 w _ _) Tryd.underlying23 rfl (by kernel_rfl)) rfl ⟨rfl, below2 w _ _⟩

end Go.Proofs.YtjdglfjbfejcdaaDoor
