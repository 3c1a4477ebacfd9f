/-
  The program's Over; the document's Next.
-/
import Derived.Test.YtjdglfjbfejcdaaDoorLN
namespace Go.Proofs.YtjdglfjbfejcdaaDoor
open Go.RowKit

set_option maxHeartbeats 4000000 in
theorem over_any (st : Int) (w : World) (ht : Led w) : Calls Tryd.prog 11 #[.int .i64 st] w fun e w' => e = .returned (.bool (overL st)) ∧ w' = w := by
  have hcan : ∀ (k : Nat) (W : World), W = w → Calls Tryd.prog 10 #[.int .i64 st, .int .i64 k] W fun e w' => e = .returned (.bool (!(nextL st k == 0))) ∧ w' = W := fun k W h => can_any st k W (by rw [h]; exact ht)
  have HC := Lib.hid hcan
  clear hcan ht
  by_cases h1 : st < 1
  · have hb : overL st = false := by simp [overL]; omega
    rw [hb]
    clear hb
    go_enter Tryd.func11, Tryd.ntmps11
    go_wp2
    go_ret
    exact ⟨rfl, rfl⟩
  by_cases h7 : 7 < st
  · have hb : overL st = false := by simp [overL]; omega
    rw [hb]
    clear hb
    go_enter Tryd.func11, Tryd.ntmps11
    go_wp2
    go_ret
    exact ⟨rfl, rfl⟩
  have h01 : 1 ≤ st := by omega
  have h07 : st ≤ 7 := by omega
  cases ho : overL st
  · have hn := over_not ho h01 h07
    have HN := Lib.hid hn
    clear hn ho
    go_enter Tryd.func11, Tryd.ntmps11
    go_wp2
    go_loopw [3] (fun iv wr => ∃ k : Nat, 1 ≤ k ∧ k ≤ 10 ∧ iv = .int .i64 k ∧ (∀ j : Nat, 1 ≤ j → j < k → nextL st (j : Int) = 0) ∧ wr = w) (fun iv _ => 10 - (intOf iv).toNat)
    case atStart => exact ⟨1, by omega, by omega, rfl, fun j h1 h2 => by omega, rfl⟩
    case round =>
      obtain ⟨k, hk1, hk2, rfl, hz, rfl⟩ := hrel
      have HZ := Lib.hid hz
      clear hz
      by_cases hlt : k ≤ 9
      · have hcc := HC.out k _ rfl
        by_cases hv : nextL st (k : Int) = 0
        · rw [hv] at hcc
          have HV := Lib.hid hv
          clear hv
          go_wp2_with (go_at_call 10; (with_reducible refine hcc.mono ?_); rintro e w1 ⟨rfl, rfl⟩)
          go_roundw
          case rel => exact ⟨k + 1, by omega, by omega, by go_num, fun j h1 h2 => by by_cases e : j = k; exact e ▸ HV.out; exact HZ.out j h1 (by omega), trivial⟩
          case measure => simp [intOf]; omega
        · have hb : (!(nextL st (k : Int) == 0)) = true := by simpa using hv
          rw [hb] at hcc
          clear hv hb
          go_wp2_with (go_at_call 10; (with_reducible refine hcc.mono ?_); rintro e w1 ⟨rfl, rfl⟩)
          go_ret
          exact ⟨rfl, rfl⟩
      · exfalso
        rcases HN.out with h | h
        · exact h (HZ.out 8 (by omega) (by omega))
        · exact h (HZ.out 7 (by omega) (by omega))
  · have hz : ∀ k : Nat, nextL st (k : Int) = 0 := fun k => over_next _ ho
    have HZ := Lib.hid hz
    clear hz ho
    go_enter Tryd.func11, Tryd.ntmps11
    go_wp2
    go_loopw [3] (fun iv wr => ∃ k : Nat, 1 ≤ k ∧ k ≤ 10 ∧ iv = .int .i64 k ∧ wr = w) (fun iv _ => 10 - (intOf iv).toNat)
    case atStart => exact ⟨1, by omega, by omega, rfl, rfl⟩
    case round =>
      obtain ⟨k, hk1, hk2, rfl, rfl⟩ := hrel
      by_cases hlt : k ≤ 9
      · have hcc := HC.out k _ rfl
        rw [HZ.out k] at hcc
        go_wp2_with (go_at_call 10; (with_reducible refine hcc.mono ?_); rintro e w1 ⟨rfl, rfl⟩)
        go_roundw
        case rel => exact ⟨k + 1, by omega, by omega, by go_num, trivial⟩
        case measure => simp [intOf]; omega
      · go_wp2
        go_ret
        exact ⟨rfl, rfl⟩

theorem beq_no {a b : Int} (h : a ≠ b) : (a == b) = false := by simpa using h

set_option maxHeartbeats 8000000 in
set_option maxRecDepth 100000 in
theorem rnext_any (st op : Int) (w : World) : Calls Tryd.prog 9 #[.int .i64 st, .int .i64 op] w fun e w' => e = .returned (.int .i64 (nextL st op)) ∧ w' = w := by
  have one : ∀ (s : Int), st = s → (∀ r, nextL s op = r → nextL st op = r) := fun s h r hr => by rw [h]; exact hr
  clear one
  by_cases hop : op < 1 ∨ 9 < op
  · rw [nextL_out hop]
    have a1 := beq_no (a := op) (b := 1) (by omega)
    have a2 := beq_no (a := op) (b := 2) (by omega)
    have a3 := beq_no (a := op) (b := 3) (by omega)
    have a4 := beq_no (a := op) (b := 4) (by omega)
    have a5 := beq_no (a := op) (b := 5) (by omega)
    have a6 := beq_no (a := op) (b := 6) (by omega)
    have a7 := beq_no (a := op) (b := 7) (by omega)
    have a8 := beq_no (a := op) (b := 8) (by omega)
    have a9 := beq_no (a := op) (b := 9) (by omega)
    clear hop
    go_enter Tryd.func9, Tryd.ntmps9
    go_wp2
    go_ret
    exact ⟨rfl, rfl⟩
  · have hc : op = 1 ∨ op = 2 ∨ op = 3 ∨ op = 4 ∨ op = 5 ∨ op = 6 ∨ op = 7 ∨ op = 8 ∨ op = 9 := by omega
    have hs : st = 0 ∨ st = 1 ∨ st = 2 ∨ st = 3 ∨ st = 4 ∨ (st ≠ 0 ∧ st ≠ 1 ∧ st ≠ 2 ∧ st ≠ 3 ∧ st ≠ 4) := by omega
    clear hop
    rcases hs with rfl | rfl | rfl | rfl | rfl | ⟨h0, h1, h2, h3, h4⟩
    case inr.inr.inr.inr.inr =>
      have hv : nextL st op = 0 := by
        unfold nextL
        repeat' split
        all_goals first | rfl | contradiction
      rw [hv]
      have b0 := beq_no h0
      have b1 := beq_no h1
      have b2 := beq_no h2
      have b3 := beq_no h3
      have b4 := beq_no h4
      clear h0 h1 h2 h3 h4 hv
      rcases hc with rfl | rfl | rfl | rfl | rfl | rfl | rfl | rfl | rfl
      all_goals
        go_enter Tryd.func9, Tryd.ntmps9
        go_wp2
        go_ret
        exact ⟨rfl, rfl⟩
    all_goals
      rcases hc with rfl | rfl | rfl | rfl | rfl | rfl | rfl | rfl | rfl
      all_goals
        go_enter Tryd.func9, Tryd.ntmps9
        go_wp2
        go_ret
        exact ⟨rfl, rfl⟩

end Go.Proofs.YtjdglfjbfejcdaaDoor
