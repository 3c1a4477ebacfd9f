/-
  Joined: LtP.
-/
import Derived.Test.YtponmfkddglopaaWU3
namespace Go.Proofs.Ytponmfkddglopaa
open Go.RowKit

/-- A letter: its name, state, amount, day, policy, papers. -/
structure Lt where
 nm : List UInt8
 st : Int
 am : Int
 du : Int
 po : List UInt8
 pa : List UInt8
def Lt.no : Lt := ⟨[], 0, 0, 0, [], []⟩
def Lt.cells (l : Lt) : List Value := [.string (ba l.nm), .int .i64 l.st, .int .i64 l.am, .int .i64 l.du, .string (ba l.po), .string (ba l.pa)]
def Lt.val (l : Lt) : Value := .agg #[.string (ba l.nm), .int .i64 l.st, .int .i64 l.am, .int .i64 l.du, .string (ba l.po), .string (ba l.pa)]
/-- whether two letters are the same -/
def Lt.eqb (a b : Lt) : Bool := (a.nm == b.nm) && (a.st == b.st) && (a.am == b.am) && (a.du == b.du) && (a.po == b.po) && (a.pa == b.pa)
theorem Lt.eqb_iff {a b : Lt} : a.eqb b = true ↔ a = b := by
 obtain ⟨a1, a2, a3, a4, a5, a6⟩ := a
 obtain ⟨b1, b2, b3, b4, b5, b6⟩ := b
 simp only [Lt.eqb, Bool.and_eq_true, beq_iff_eq, Lt.mk.injEq]
 exact ⟨fun ⟨⟨⟨⟨⟨h1, h2⟩, h3⟩, h4⟩, h5⟩, h6⟩ => ⟨h1, h2, h3, h4, h5, h6⟩, fun ⟨h1, h2, h3, h4, h5, h6⟩ => ⟨⟨⟨⟨⟨h1, h2⟩, h3⟩, h4⟩, h5⟩, h6⟩⟩
end Go.Proofs.Ytponmfkddglopaa
