/-
  Amounts, by plain functions; the program's calls and the document's are these. No memory is read.
-/
import Derived.Test.YtkildlonenjmaaaRows
import Derived.Handy
import Derived.WalkSpells
import Derived.Deep.Draws
import Derived.Deep.RegionLaw
import Derived.Lib.Hide
import Derived.RegionTactic
import Derived.ChangeAlike
import Derived.StillTailTactics
import Derived.Deep.QuietTactic
import Derived.Outline
namespace Go.Proofs.Ytkildlonenjmaaa
open Go.RowKit

/-- An amount. -/
def isM (a : Int) : Bool := decide (0 ≤ a) && decide (a ≤ 1099511627776)
def isBy (a : Int) : Bool := decide (-1099511627776 ≤ a) && decide (a ≤ 1099511627776)
/-- What came out, if it is an amount. -/
def outM (x : Int) : Int × Int := if isM x then (x, 0) else (0, 6)
def addM (a b : Int) : Int × Int := if isM a && isM b then outM (a + b) else (0, 5)
def subM (a b : Int) : Int × Int := if isM a && isM b then outM (a - b) else (0, 5)
def chgM (a b : Int) : Int × Int := if isM a && isBy b then outM (a + b) else (0, 5)
theorem isM_out (x : Int) : isM (outM x).1 = true := by unfold outM; split <;> simp_all [isM]
theorem isM_add (a b : Int) : isM (addM a b).1 = true := by unfold addM; split <;> first | exact isM_out _ | rfl
theorem isM_sub (a b : Int) : isM (subM a b).1 = true := by unfold subM; split <;> first | exact isM_out _ | rfl
theorem isM_chg (a b : Int) : isM (chgM a b).1 = true := by unfold chgM; split <;> first | exact isM_out _ | rfl
/-- Two numbers, as a call hands them back. -/
def two (p : Int × Int) : Value := .tuple #[.int .i64 p.1, .int .i64 p.2]

set_option maxHeartbeats 1000000 in
theorem is_any (a : Int) (w : World) : Calls Try.prog 16 #[.int .i64 a] w fun e w' => e = .returned (.bool (isM a)) ∧ w' = w := by
  go_enter Try.func16, Try.ntmps16
  go_wp2
  all_goals go_ret
  all_goals refine ⟨?_, rfl⟩
  all_goals (simp only [isM]; congr 2; simp <;> omega)

set_option maxHeartbeats 1000000 in
theorem ris_any (a : Int) (w : World) : Calls Try.prog 17 #[.int .i64 a] w fun e w' => e = .returned (.bool (isM a)) ∧ w' = w := by
  go_enter Try.func17, Try.ntmps17
  go_wp2
  all_goals go_ret
  all_goals refine ⟨?_, rfl⟩
  all_goals (simp only [isM]; congr 2; simp <;> omega)

set_option maxHeartbeats 1000000 in
theorem amount_any (a : Int) (w : World) : Calls Try.prog 36 #[.int .i64 a] w fun e w' => e = .returned (two (outM a)) ∧ w' = w := by
  have h1 := is_any a w
  unfold outM
  cases ha : isM a <;> rw [ha] at h1
  all_goals
    go_enter Try.func36, Try.ntmps36
    go_wp2_with (go_at_call 16; (with_reducible refine h1.mono ?_); rintro e w1 ⟨rfl, rfl⟩)
    go_ret2
    exact ⟨rfl, rfl⟩

set_option maxHeartbeats 1000000 in
theorem add_any (a b : Int) (w : World) : Calls Try.prog 10 #[.int .i64 a, .int .i64 b] w fun e w' => e = .returned (two (addM a b)) ∧ w' = w := by
  have h1 := is_any a w
  have h2 := is_any b w
  have h3 := amount_any (a + b) w
  unfold addM
  cases ha : isM a <;> rw [ha] at h1 <;> cases hb : isM b <;> rw [hb] at h2
  all_goals
    try (have ho : 0 ≤ a ∧ a ≤ 1099511627776 ∧ 0 ≤ b ∧ b ≤ 1099511627776 := by simp [isM] at ha hb; omega)
    go_enter Try.func10, Try.ntmps10
    go_wp2_with (first
      | (go_at_call 16; (with_reducible refine h1.mono ?_); rintro e w1 ⟨rfl, rfl⟩)
      | (go_at_call 16; (with_reducible refine h2.mono ?_); rintro e w1 ⟨rfl, rfl⟩)
      | (go_at_call 36; (with_reducible refine h3.mono ?_); rintro e w1 ⟨rfl, rfl⟩; simp only [two]))
    go_ret2
    exact ⟨rfl, rfl⟩

set_option maxHeartbeats 1000000 in
theorem sub_any (a b : Int) (w : World) : Calls Try.prog 12 #[.int .i64 a, .int .i64 b] w fun e w' => e = .returned (two (subM a b)) ∧ w' = w := by
  have h1 := is_any a w
  have h2 := is_any b w
  have h3 := amount_any (a - b) w
  unfold subM
  cases ha : isM a <;> rw [ha] at h1 <;> cases hb : isM b <;> rw [hb] at h2
  all_goals
    try (have ho : 0 ≤ a ∧ a ≤ 1099511627776 ∧ 0 ≤ b ∧ b ≤ 1099511627776 := by simp [isM] at ha hb; omega)
    go_enter Try.func12, Try.ntmps12
    go_wp2_with (first
      | (go_at_call 16; (with_reducible refine h1.mono ?_); rintro e w1 ⟨rfl, rfl⟩)
      | (go_at_call 16; (with_reducible refine h2.mono ?_); rintro e w1 ⟨rfl, rfl⟩)
      | (go_at_call 36; (with_reducible refine h3.mono ?_); rintro e w1 ⟨rfl, rfl⟩; simp only [two]))
    go_ret2
    exact ⟨rfl, rfl⟩


theorem isBy_no {b : Int} (h : isBy b = false) : b < -1099511627776 ∨ 1099511627776 < b := by simp [isBy] at h; omega
theorem isBy_yes {b : Int} (h : isBy b = true) : -1099511627776 ≤ b ∧ b ≤ 1099511627776 := by simpa [isBy] using h
theorem isM_yes {b : Int} (h : isM b = true) : 0 ≤ b ∧ b ≤ 1099511627776 := by simpa [isM] using h

set_option maxHeartbeats 1000000 in
theorem chg_any (a b : Int) (w : World) : Calls Try.prog 14 #[.int .i64 a, .int .i64 b] w fun e w' => e = .returned (two (chgM a b)) ∧ w' = w := by
  have h1 := is_any a w
  have h3 := amount_any (a + b) w
  unfold chgM
  cases ha : isM a <;> rw [ha] at h1 <;> cases hb : isBy b
  case' true.false => have ho := isBy_no hb
  case' true.true => have ho := isBy_yes hb; have ho2 := isM_yes ha
  case' true.false => rcases ho with ho | ho
  all_goals
    go_enter Try.func14, Try.ntmps14
    go_wp2_with (first
      | (go_at_call 16; (with_reducible refine h1.mono ?_); rintro e w1 ⟨rfl, rfl⟩)
      | (go_at_call 36; (with_reducible refine h3.mono ?_); rintro e w1 ⟨rfl, rfl⟩; simp only [two]))
    all_goals go_ret2
    all_goals exact ⟨rfl, rfl⟩

set_option maxHeartbeats 1000000 in
theorem rchg_any (a b : Int) (w : World) : Calls Try.prog 15 #[.int .i64 a, .int .i64 b] w fun e w' => e = .returned (two (chgM a b)) ∧ w' = w := by
  have h1 := ris_any a w
  have h3 := ris_any (a + b) w
  unfold chgM outM
  cases ha : isM a <;> rw [ha] at h1 <;> cases hb : isBy b <;> cases hc : isM (a + b) <;> rw [hc] at h3
  case' true.false.false | true.false.true => have ho := isBy_no hb
  case' true.true.false | true.true.true => have ho := isBy_yes hb; have ho2 := isM_yes ha
  case' true.false.false | true.false.true => rcases ho with ho | ho
  all_goals
    go_enter Try.func15, Try.ntmps15
    go_wp2_with (first
      | (go_at_call 17; (with_reducible refine h1.mono ?_); rintro e w1 ⟨rfl, rfl⟩)
      | (go_at_call 17; (with_reducible refine h3.mono ?_); rintro e w1 ⟨rfl, rfl⟩))
    all_goals go_ret2
    all_goals exact ⟨rfl, rfl⟩

theorem chg_add (a b : Int) : (if isM b then chgM a b else (0, 5)) = addM a b := by
  unfold chgM addM
  cases ha : isM a <;> cases hb : isM b <;> simp
  have := isM_yes hb
  have hb' : isBy b = true := by simp [isBy]; omega
  simp [hb']
theorem chg_sub (a b : Int) : (if isM b then chgM a (-b) else (0, 5)) = subM a b := by
  unfold chgM subM
  cases ha : isM a <;> cases hb : isM b <;> simp
  have := isM_yes hb
  have hb' : isBy (-b) = true := by simp [isBy]; omega
  simp [hb', Int.sub_eq_add_neg]

set_option maxHeartbeats 1000000 in
theorem radd_any (a b : Int) (w : World) : Calls Try.prog 11 #[.int .i64 a, .int .i64 b] w fun e w' => e = .returned (two (addM a b)) ∧ w' = w := by
  have h1 := ris_any b w
  have h3 := rchg_any a b w
  rw [← chg_add]
  cases hb : isM b <;> rw [hb] at h1
  case' true => have ho := isM_yes hb
  all_goals
    go_enter Try.func11, Try.ntmps11
    go_wp2_with (first
      | (go_at_call 17; (with_reducible refine h1.mono ?_); rintro e w1 ⟨rfl, rfl⟩)
      | (go_at_call 15; (with_reducible refine h3.mono ?_); rintro e w1 ⟨rfl, rfl⟩; simp only [two]))
    all_goals go_ret2
    all_goals exact ⟨rfl, rfl⟩

set_option maxHeartbeats 1000000 in
theorem rsub_any (a b : Int) (w : World) : Calls Try.prog 13 #[.int .i64 a, .int .i64 b] w fun e w' => e = .returned (two (subM a b)) ∧ w' = w := by
  have h1 := ris_any b w
  have h3 := rchg_any a (-b) w
  rw [← chg_sub]
  cases hb : isM b <;> rw [hb] at h1
  case' true => have ho := isM_yes hb
  all_goals
    go_enter Try.func13, Try.ntmps13
    go_wp2_with (first
      | (go_at_call 17; (with_reducible refine h1.mono ?_); rintro e w1 ⟨rfl, rfl⟩)
      | (go_at_call 15; (with_reducible refine h3.mono ?_); rintro e w1 ⟨rfl, rfl⟩; simp only [two]))
    all_goals go_ret2
    all_goals exact ⟨rfl, rfl⟩

set_option maxHeartbeats 1000000 in
theorem mfixed_any (w : World) : Calls Try.prog 9 #[] w fun e w' => e = .returned (.bool true) ∧ w' = w := by
  have h1 : Calls Try.prog 10 #[.int .i64 2, .int .i64 3] w fun e w' => e = .returned (.tuple #[.int .i64 5, .int .i64 0]) ∧ w' = w := add_any 2 3 w
  have h2 : Calls Try.prog 12 #[.int .i64 2, .int .i64 3] w fun e w' => e = .returned (.tuple #[.int .i64 0, .int .i64 6]) ∧ w' = w := sub_any 2 3 w
  have h3 : Calls Try.prog 16 #[.int .i64 0] w fun e w' => e = .returned (.bool true) ∧ w' = w := is_any 0 w
  have h4 : Calls Try.prog 16 #[.int .i64 (-1)] w fun e w' => e = .returned (.bool false) ∧ w' = w := is_any (-1) w
  go_enter Try.func9, Try.ntmps9
  go_wp2_with (first
    | (go_at_call 10; (with_reducible refine h1.mono ?_); rintro e w1 ⟨rfl, rfl⟩)
    | (go_at_call 12; (with_reducible refine h2.mono ?_); rintro e w1 ⟨rfl, rfl⟩)
    | (go_at_call 16; (with_reducible refine h3.mono ?_); rintro e w1 ⟨rfl, rfl⟩)
    | (go_at_call 16; (with_reducible refine h4.mono ?_); rintro e w1 ⟨rfl, rfl⟩))
  go_ret
  exact ⟨rfl, rfl⟩

end Go.Proofs.Ytkildlonenjmaaa
