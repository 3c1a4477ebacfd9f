/-
  Amounts, by plain functions. No walk here.
-/
import Derived.Test.YtkklgfcmgefedaaBa
namespace Go.Proofs.Ytkklgfcmgefedaa
open Go.RowKit

/-- An amount. -/
def isM (a : Int) : Bool := decide (0 ≤ a) && decide (a ≤ 1099511627776)

def isBy (a : Int) : Bool := decide (-1099511627776 ≤ a) && decide (a ≤ 1099511627776)

/-- What came out, if it is an amount. -/
def outM (x : Int) : Int × Int := if isM x then (x, 0) else (0, 6)

def chgM (a b : Int) : Int × Int := if isM a && isBy b then outM (a + b) else (0, 5)

theorem isM_out (x : Int) : isM (outM x).1 = true := by unfold outM; split <;> simp_all [isM]

theorem isM_chg (a b : Int) : isM (chgM a b).1 = true := by unfold chgM; split <;> first | exact isM_out _ | rfl

/-- Two numbers, as a call hands them back. -/
def two (p : Int × Int) : Value := .tuple #[.int .i64 p.1, .int .i64 p.2]

theorem isBy_no {b : Int} (h : isBy b = false) : b < -1099511627776 ∨ 1099511627776 < b := by simp [isBy] at h; omega

theorem isBy_yes {b : Int} (h : isBy b = true) : -1099511627776 ≤ b ∧ b ≤ 1099511627776 := by simpa [isBy] using h

theorem isM_yes {b : Int} (h : isM b = true) : 0 ≤ b ∧ b ≤ 1099511627776 := by simpa [isM] using h

end Go.Proofs.Ytkklgfcmgefedaa
