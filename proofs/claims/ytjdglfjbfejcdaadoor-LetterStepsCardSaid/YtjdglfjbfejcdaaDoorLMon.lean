/-
  Amounts, by plain functions; the calls that a letter makes (out of money). No memory is read.
-/
import Derived.Test.YtjdglfjbfejcdaaDoorBa
namespace Go.Proofs.YtjdglfjbfejcdaaDoor
open Go.RowKit

/-- An amount. -/
def isM (a : Int) : Bool := decide (0 ≤ a) && decide (a ≤ 1099511627776)

def isBy (a : Int) : Bool := decide (-1099511627776 ≤ a) && decide (a ≤ 1099511627776)

/-- What came out, if it is an amount. -/
def outM (x : Int) : Int × Int := if isM x then (x, 0) else (0, 6)

def chgM (a b : Int) : Int × Int := if isM a && isBy b then outM (a + b) else (0, 5)

theorem isM_out (x : Int) : isM (outM x).1 = true := by unfold outM; split <;> simp_all [isM]

theorem isM_chg (a b : Int) : isM (chgM a b).1 = true := by unfold chgM; split <;> first | exact isM_out _ | rfl

/-- Two numbers, as a call hands them back. -/
def two (p : Int × Int) : Value := .tuple #[.int .i64 p.1, .int .i64 p.2]

set_option maxHeartbeats 1000000 in
theorem is_any (a : Int) (w : World) : Calls Tryd.prog 22 #[.int .i64 a] w fun e w' => e = .returned (.bool (isM a)) ∧ w' = w := by
  go_enter Tryd.func22, Tryd.ntmps22
  go_wp2
  all_goals go_ret
  all_goals refine ⟨?_, rfl⟩
  all_goals (simp only [isM]; congr 2; simp <;> omega)

set_option maxHeartbeats 1000000 in
theorem ris_any (a : Int) (w : World) : Calls Tryd.prog 25 #[.int .i64 a] w fun e w' => e = .returned (.bool (isM a)) ∧ w' = w := by
  go_enter Tryd.func25, Tryd.ntmps25
  go_wp2
  all_goals go_ret
  all_goals refine ⟨?_, rfl⟩
  all_goals (simp only [isM]; congr 2; simp <;> omega)

set_option maxHeartbeats 1000000 in
theorem amount_any (a : Int) (w : World) : Calls Tryd.prog 26 #[.int .i64 a] w fun e w' => e = .returned (two (outM a)) ∧ w' = w := by
  have h1 := is_any a w
  unfold outM
  cases ha : isM a <;> rw [ha] at h1
  all_goals
    go_enter Tryd.func26, Tryd.ntmps26
    go_wp2_with (go_at_call 22; (with_reducible refine h1.mono ?_); rintro e w1 ⟨rfl, rfl⟩)
    go_ret2
    exact ⟨rfl, rfl⟩

theorem isBy_no {b : Int} (h : isBy b = false) : b < -1099511627776 ∨ 1099511627776 < b := by simp [isBy] at h; omega

theorem isBy_yes {b : Int} (h : isBy b = true) : -1099511627776 ≤ b ∧ b ≤ 1099511627776 := by simpa [isBy] using h

theorem isM_yes {b : Int} (h : isM b = true) : 0 ≤ b ∧ b ≤ 1099511627776 := by simpa [isM] using h

set_option maxHeartbeats 1000000 in
theorem chg_any (a b : Int) (w : World) : Calls Tryd.prog 24 #[.int .i64 a, .int .i64 b] w fun e w' => e = .returned (two (chgM a b)) ∧ w' = w := by
  have h1 := is_any a w
  have h3 := amount_any (a + b) w
  unfold chgM
  cases ha : isM a <;> rw [ha] at h1 <;> cases hb : isBy b
  case' true.false => have ho := isBy_no hb
  case' true.true => have ho := isBy_yes hb; have ho2 := isM_yes ha
  case' true.false => rcases ho with ho | ho
  all_goals
    go_enter Tryd.func24, Tryd.ntmps24
    go_wp2_with (first
      | (go_at_call 22; (with_reducible refine h1.mono ?_); rintro e w1 ⟨rfl, rfl⟩)
      | (go_at_call 26; (with_reducible refine h3.mono ?_); rintro e w1 ⟨rfl, rfl⟩; simp only [two]))
    all_goals go_ret2
    all_goals exact ⟨rfl, rfl⟩

set_option maxHeartbeats 1000000 in
theorem rchg_any (a b : Int) (w : World) : Calls Tryd.prog 21 #[.int .i64 a, .int .i64 b] w fun e w' => e = .returned (two (chgM a b)) ∧ w' = w := by
  have h1 := ris_any a w
  have h3 := ris_any (a + b) w
  unfold chgM outM
  cases ha : isM a <;> rw [ha] at h1 <;> cases hb : isBy b <;> cases hc : isM (a + b) <;> rw [hc] at h3
  case' true.false.false | true.false.true => have ho := isBy_no hb
  case' true.true.false | true.true.true => have ho := isBy_yes hb; have ho2 := isM_yes ha
  case' true.false.false | true.false.true => rcases ho with ho | ho
  all_goals
    go_enter Tryd.func21, Tryd.ntmps21
    go_wp2_with (first
      | (go_at_call 25; (with_reducible refine h1.mono ?_); rintro e w1 ⟨rfl, rfl⟩)
      | (go_at_call 25; (with_reducible refine h3.mono ?_); rintro e w1 ⟨rfl, rfl⟩))
    all_goals go_ret2
    all_goals exact ⟨rfl, rfl⟩

end Go.Proofs.YtjdglfjbfejcdaaDoor
