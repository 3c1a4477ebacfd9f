/-
  Where steps lead, walked: the program's Next, Can, Over; the document's Next, Day.
-/
import Derived.Test.YtjdglfjbfejcdaaDoorLt
namespace Go.Proofs.YtjdglfjbfejcdaaDoor
open Go.RowKit

theorem ret_i64 {a b : Int} (h : a = b) : Ending.returned (Value.int .i64 a) = .returned (.int .i64 b) := by rw [h]
theorem ret_b {a b : Bool} (h : a = b) : Ending.returned (Value.bool a) = .returned (.bool b) := by rw [h]

set_option maxHeartbeats 1000000 in
theorem isstep_any (op : Int) (w : World) : Calls Tryd.prog 12 #[.int .i64 op] w fun e w' => e = .returned (.bool (decide (1 ≤ op) && decide (op ≤ 9))) ∧ w' = w := by
  go_enter Tryd.func12, Tryd.ntmps12
  go_wp2
  all_goals go_ret
  all_goals refine ⟨?_, rfl⟩
  all_goals (congr 2; simp <;> omega)

set_option maxHeartbeats 1000000 in
theorem isday_any (a : Int) (w : World) : Calls Tryd.prog 23 #[.int .i64 a] w fun e w' => e = .returned (.bool (isM a)) ∧ w' = w := by
  go_enter Tryd.func23, Tryd.ntmps23
  go_wp2
  all_goals go_ret
  all_goals refine ⟨?_, rfl⟩
  all_goals (simp only [isM]; congr 2; simp <;> omega)

set_option maxHeartbeats 1000000 in
theorem rday_any (a : Int) (w : World) : Calls Tryd.prog 16 #[.int .i64 a] w fun e w' => e = .returned (.bool (isM a)) ∧ w' = w := by
  go_enter Tryd.func16, Tryd.ntmps16
  go_wp2
  all_goals go_ret
  all_goals refine ⟨?_, rfl⟩
  all_goals (simp only [isM]; congr 2; simp <;> omega)

set_option maxHeartbeats 2000000 in
theorem next_any (st op : Int) (w : World) (ht : Led w) : Calls Tryd.prog 8 #[.int .i64 st, .int .i64 op] w fun e w' => e = .returned (.int .i64 (nextL st op)) ∧ w' = w := by
  have h1 := isstep_any op w
  by_cases hop : op < 1 ∨ 9 < op
  · rw [nextL_out hop]
    have hb : (decide (1 ≤ op) && decide (op ≤ 9)) = false := by simp; omega
    rw [hb] at h1
    go_enter Tryd.func8, Tryd.ntmps8
    go_wp2_with (go_at_call 12; (with_reducible refine h1.mono ?_); rintro e w1 ⟨rfl, rfl⟩)
    go_ret
    exact ⟨rfl, rfl⟩
  · have hb : (decide (1 ≤ op) && decide (op ≤ 9)) = true := by simp; omega
    rw [hb] at h1
    by_cases hst : st < 0
    · rw [nextL_far (.inl hst)]
      go_enter Tryd.func8, Tryd.ntmps8
      go_wp2_with (go_at_call 12; (with_reducible refine h1.mono ?_); rintro e w1 ⟨rfl, rfl⟩)
      go_ret
      exact ⟨rfl, rfl⟩
    by_cases hst2 : 7 < st
    · rw [nextL_far (.inr hst2)]
      go_enter Tryd.func8, Tryd.ntmps8
      go_wp2_with (go_at_call 12; (with_reducible refine h1.mono ?_); rintro e w1 ⟨rfl, rfl⟩)
      go_ret
      exact ⟨rfl, rfl⟩
    obtain ⟨j, rfl⟩ : ∃ j : Nat, op = (j : Int) := ⟨op.toNat, by omega⟩
    obtain ⟨k, rfl⟩ : ∃ k : Nat, st = (k : Int) := ⟨st.toNat, by omega⟩
    have hj : j < 10 := by omega
    have hk : k < 8 := by omega
    have hc := ht (j * 8 + k) (by omega)
    rw [leads_next j k hj hk] at hc
    generalize nextL (k : Int) (j : Int) = v at *
    clear ht hop hb
    go_enter Tryd.func8, Tryd.ntmps8
    go_wp2_with (go_at_call 12; (with_reducible refine h1.mono ?_); rintro e w1 ⟨rfl, rfl⟩)
    go_ret
    exact ⟨rfl, rfl⟩

set_option maxHeartbeats 2000000 in
theorem can_any (st op : Int) (w : World) (ht : Led w) : Calls Tryd.prog 10 #[.int .i64 st, .int .i64 op] w fun e w' => e = .returned (.bool (!(nextL st op == 0))) ∧ w' = w := by
  have h1 := next_any st op w ht
  generalize nextL st op = v at *
  clear ht
  go_enter Tryd.func10, Tryd.ntmps10
  go_wp2_with (go_at_call 8; (with_reducible refine h1.mono ?_); rintro e w1 ⟨rfl, rfl⟩)
  go_ret
  exact ⟨rfl, rfl⟩

end Go.Proofs.YtjdglfjbfejcdaaDoor
