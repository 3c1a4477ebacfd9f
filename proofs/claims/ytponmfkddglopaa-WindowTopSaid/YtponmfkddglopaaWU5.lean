/-
  Joined: Lg.
-/
import Derived.Test.YtponmfkddglopaaWU4
namespace Go.Proofs.Ytponmfkddglopaa
open Go.RowKit

/-- An outcome: its client, number, result. -/
structure Oc where
 cl : Int
 sp : Int
 rs : Int
def Oc.eqb (a b : Oc) : Bool := (a.cl == b.cl) && (a.sp == b.sp) && (a.rs == b.rs)
theorem Oc.eqb_iff {a b : Oc} : a.eqb b = true ↔ a = b := by
 obtain ⟨a1, a2, a3⟩ := a
 obtain ⟨b1, b2, b3⟩ := b
 simp only [Oc.eqb, Bool.and_eq_true, beq_iff_eq, Oc.mk.injEq]
 exact ⟨fun ⟨⟨h1, h2⟩, h3⟩ => ⟨h1, h2, h3⟩, fun ⟨h1, h2, h3⟩ => ⟨⟨h1, h2⟩, h3⟩⟩
def Oc.no : Oc := ⟨0, 0, 0⟩
def Oc.cells (o : Oc) : List Value := [.int .i64 o.cl, .int .i64 o.sp, .int .i64 o.rs]
/-- A ledger. -/
structure Lg where
 sq : Int
 tt : Int
 ls : List Lt
 os : List Oc
def Lg.no : Lg := ⟨0, 0, [], []⟩

/-- a letter, a digit or "-" -/
def nmB (x : UInt8) : Bool := (decide (97 ≤ x.toNat) && decide (x.toNat ≤ 122)) || (decide (48 ≤ x.toNat) && decide (x.toNat ≤ 57)) || (x.toNat == 45)
def isNm (l : List UInt8) : Bool := l.all nmB && decide (1 ≤ l.length) && decide (l.length ≤ 16)
/-- one text ahead of another one -/
def ltS (a b : List UInt8) : Bool := Op.bytesLess a b
/-- a letter that may stand in a ledger -/
def ltOk (x : Lt) : Bool := isNm x.nm && decide (1 ≤ x.st) && decide (x.st ≤ 7) && decide (1 ≤ x.am) && isM x.am && isM x.du && decide (x.po.length ≤ 200) && decide (x.pa.length ≤ 200)
/-- rising by names, behind an earlier one -/
def lsOk : Option Lt → List Lt → Bool
 | _, [] => true
 | none, x :: xs => ltOk x && lsOk (some x) xs
 | some p, x :: xs => ltS p.nm x.nm && ltOk x && lsOk (some x) xs
def ocOk (o : Oc) : Bool := decide (0 ≤ o.cl) && decide (o.cl ≤ 63) && decide (1 ≤ o.sp) && decide (o.sp ≤ 1099511627776) && decide (0 ≤ o.rs) && decide (o.rs ≤ 99)
def osOk : Option Oc → List Oc → Bool
 | _, [] => true
 | none, x :: xs => ocOk x && osOk (some x) xs
 | some p, x :: xs => decide (p.cl < x.cl) && ocOk x && osOk (some x) xs
end Go.Proofs.Ytponmfkddglopaa
