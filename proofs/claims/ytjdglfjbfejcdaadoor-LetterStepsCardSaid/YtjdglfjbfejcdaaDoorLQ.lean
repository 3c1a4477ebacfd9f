/-
  The document's apply, amend, walked.
-/
import Derived.Test.YtjdglfjbfejcdaaDoorLP
namespace Go.Proofs.YtjdglfjbfejcdaaDoor
open Go.RowKit

def rapplyL (l : Lt) (a b : Int) (t : List UInt8) : Lt × Int :=
  if a < 1 then (l, 5) else if 1099511627776 < a then (l, 6) else if isM b = false then (l, 5) else (⟨l.nm, 0, a, b, t, []⟩, 0)
def ramendL (l : Lt) (a b : Int) : Lt × Int :=
  if (chgM l.am a).2 ≠ 0 then (l, (chgM l.am a).2) else if (chgM l.am a).1 = 0 then (l, 5) else if isM b = false then (l, 5)
  else (⟨l.nm, l.st, (chgM l.am a).1, if b = 0 then l.du else b, l.po, l.pa⟩, 0)
theorem rapply_same (l : Lt) (a b : Int) (t : List UInt8) (h : ¬ 200 < t.length) : (rapplyL l a b t).2 = (applyL l.nm a b t).2 ∧ ((applyL l.nm a b t).2 = 0 → (rapplyL l a b t).1 = (applyL l.nm a b t).1) := by
  unfold rapplyL applyL
  rw [if_neg h]
  by_cases h1 : a < 1
  · simp [h1]
  rw [if_neg h1, if_neg h1]
  by_cases h2 : 1099511627776 < a
  · have hm : isM a = false := by simp [isM]; omega
    simp [h2, hm]
  have hm : isM a = true := by simp [isM]; omega
  simp only [if_neg h2, hm, Bool.true_eq_false, if_false]
  cases isM b <;> simp
theorem ramend_same (l : Lt) (a b : Int) : (ramendL l a b).2 = (amendL l a b).2 ∧ ((amendL l a b).2 = 0 → (ramendL l a b).1 = (amendL l a b).1) := by
  unfold ramendL amendL
  by_cases h1 : (chgM l.am a).2 ≠ 0
  · simp [h1]
  rw [if_neg h1, if_neg h1]
  by_cases h2 : (chgM l.am a).1 = 0
  · simp [h2]
  rw [if_neg h2, if_neg h2]
  cases isM b <;> simp

set_option maxHeartbeats 4000000 in
theorem rapply_any (l : Lt) (a b : Int) (t : List UInt8) (w : World) : Calls Tryd.prog 14 #[l.val, .int .i64 a, .int .i64 b, .string (ba t)] w fun e w' => e = .returned (ltE (rapplyL l a b t)) ∧ Below w.heap.size w w' := by
  obtain ⟨nm, st, am, du, po, pa⟩ := l
  have hz := Tryd.zero_lt
  have hbl := Tryd.build_lt
  have hd : ∀ W, Calls Tryd.prog 16 #[.int .i64 b] W fun e w' => e = .returned (.bool (isM b)) ∧ w' = W := fun W => rday_any b W
  unfold rapplyL Lt.val
  simp only
  by_cases ha : a < 1
  · rw [if_pos ha]
    clear hd
    go_enter Tryd.func14, Tryd.ntmps14
    go_wp2
    exact bodyPost_ret (results_cell_row_tmp1 rfl _ _ (w.heap.size + 1) 23 _ (0, 0) _ rfl (fin2 w _ _) Tryd.underlying23 rfl (by kernel_rfl)) rfl ⟨rfl, below2 w _ _⟩
  rw [if_neg ha]
  by_cases hb : 1099511627776 < a
  · rw [if_pos hb]
    clear hd
    go_enter Tryd.func14, Tryd.ntmps14
    go_wp2
    exact bodyPost_ret (results_cell_row_tmp1 rfl _ _ (w.heap.size + 1) 23 _ (0, 0) _ rfl (fin2 w _ _) Tryd.underlying23 rfl (by kernel_rfl)) rfl ⟨rfl, below2 w _ _⟩
  rw [if_neg hb]
  cases hbm : isM b <;> rw [hbm] at hd
  all_goals
    simp only [if_true, if_false, Bool.true_eq_false]
    have HD := Lib.hid hd
    clear hd hbm
    go_enter Tryd.func14, Tryd.ntmps14
    go_wp2_with (go_at_call 16; (with_reducible refine (HD.out _).mono ?_); rintro e w1 ⟨rfl, rfl⟩)
    exact bodyPost_ret (results_cell_row_tmp1 rfl _ _ (w.heap.size + 1) 23 _ (0, 0) _ rfl (fin2 w _ _) Tryd.underlying23 rfl (by kernel_rfl)) rfl ⟨rfl, below2 w _ _⟩

set_option maxHeartbeats 4000000 in
theorem ramend_any (l : Lt) (a b : Int) (w : World) : Calls Tryd.prog 15 #[l.val, .int .i64 a, .int .i64 b] w fun e w' => e = .returned (ltE (ramendL l a b)) ∧ Below w.heap.size w w' := by
  obtain ⟨nm, st, am, du, po, pa⟩ := l
  have hz := Tryd.zero_lt
  have hc : ∀ W, Calls Tryd.prog 21 #[.int .i64 am, .int .i64 a] W fun e w' => e = .returned (two (chgM am a)) ∧ w' = W := fun W => rchg_any am a W
  have hd : ∀ W, Calls Tryd.prog 16 #[.int .i64 b] W fun e w' => e = .returned (.bool (isM b)) ∧ w' = W := fun W => rday_any b W
  unfold ramendL Lt.val
  simp only
  unfold two at hc
  generalize (chgM am a).1 = x at *
  generalize (chgM am a).2 = y at *
  by_cases hy : y = 0
  · subst hy
    simp only [ne_eq, not_true_eq_false, if_false]
    by_cases hx : x = 0
    · subst hx
      simp only [if_true]
      have HC := Lib.hid hc
      clear hc hd
      go_enter Tryd.func15, Tryd.ntmps15
      go_wp2_with (go_at_call 21; (with_reducible refine (HC.out _).mono ?_); rintro e w1 ⟨rfl, rfl⟩)
      exact bodyPost_ret (results_cell_row_tmp1 rfl _ _ (w.heap.size + 1) 23 _ (0, 0) _ rfl (fin2 w _ _) Tryd.underlying23 rfl (by kernel_rfl)) rfl ⟨rfl, below2 w _ _⟩
    · simp only [if_neg hx]
      have hxb : (x == 0) = false := by simpa using hx
      clear hx
      cases hbm : isM b <;> rw [hbm] at hd
      · simp only [if_true]
        have HC := Lib.hid hc
        have HD := Lib.hid hd
        clear hc hd hbm
        go_enter Tryd.func15, Tryd.ntmps15
        go_wp2_with (first
          | (go_at_call 21; (with_reducible refine (HC.out _).mono ?_); rintro e w1 ⟨rfl, rfl⟩)
          | (go_at_call 16; (with_reducible refine (HD.out _).mono ?_); rintro e w1 ⟨rfl, rfl⟩))
        exact bodyPost_ret (results_cell_row_tmp1 rfl _ _ (w.heap.size + 1) 23 _ (0, 0) _ rfl (fin2 w _ _) Tryd.underlying23 rfl (by kernel_rfl)) rfl ⟨rfl, below2 w _ _⟩
      · simp only [Bool.true_eq_false, if_false]
        have HC := Lib.hid hc
        have HD := Lib.hid hd
        clear hc hd hbm
        by_cases hb0 : b = 0
        · subst hb0
          simp only [if_true]
          go_enter Tryd.func15, Tryd.ntmps15
          go_wp2_with (first
            | (go_at_call 21; (with_reducible refine (HC.out _).mono ?_); rintro e w1 ⟨rfl, rfl⟩)
            | (go_at_call 16; (with_reducible refine (HD.out _).mono ?_); rintro e w1 ⟨rfl, rfl⟩))
          exact bodyPost_ret (results_cell_row_tmp1 rfl _ _ (w.heap.size + 1) 23 _ (0, 0) _ rfl (fin2 w _ _) Tryd.underlying23 rfl (by kernel_rfl)) rfl ⟨rfl, below2 w _ _⟩
        · simp only [if_neg hb0]
          have hbb : (b == 0) = false := by simpa using hb0
          clear hb0
          go_enter Tryd.func15, Tryd.ntmps15
          go_wp2_with (first
            | (go_at_call 21; (with_reducible refine (HC.out _).mono ?_); rintro e w1 ⟨rfl, rfl⟩)
            | (go_at_call 16; (with_reducible refine (HD.out _).mono ?_); rintro e w1 ⟨rfl, rfl⟩))
          exact bodyPost_ret (results_cell_row_tmp1 rfl _ _ (w.heap.size + 1) 23 _ (0, 0) _ rfl (fin2 w _ _) Tryd.underlying23 rfl (by kernel_rfl)) rfl ⟨rfl, below2 w _ _⟩
  · simp only [ne_eq, hy, not_false_eq_true, if_true]
    have hyb : (y == 0) = false := by simpa using hy
    have HC := Lib.hid hc
    clear hc hd hy
    go_enter Tryd.func15, Tryd.ntmps15
    go_wp2_with (go_at_call 21; (with_reducible refine (HC.out _).mono ?_); rintro e w1 ⟨rfl, rfl⟩)
    exact bodyPost_ret (results_cell_row_tmp1 rfl _ _ (w.heap.size + 1) 23 _ (0, 0) _ rfl (fin2 w _ _) Tryd.underlying23 rfl (by kernel_rfl)) rfl ⟨rfl, below2 w _ _⟩

end Go.Proofs.YtjdglfjbfejcdaaDoor
