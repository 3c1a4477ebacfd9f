/-
  Joined: Ba, PM, LtP, Lg, LgB.
-/
import Derived.Laws.RangeAny
import Derived.Laws.Strings3
import Derived.Laws.Concat
import Derived.Test.YtponmfkddglopaaWV2
import Derived.Test.YtponmfkddglopaaWV1
namespace Go.Proofs.Ytponmfkddglopaa
open Go.RowKit

/-- the string of these bytes -/
def ba (l : List UInt8) : ByteArray := ⟨l.toArray⟩
section
variable {P : Program} {t : TypeId}
end

end Go.Proofs.Ytponmfkddglopaa

namespace Go.Proofs.Ytponmfkddglopaa
open Go.RowKit

/-- An amount. -/
def isM (a : Int) : Bool := decide (0 ≤ a) && decide (a ≤ 1099511627776)

end Go.Proofs.Ytponmfkddglopaa

namespace Go.Proofs.Ytponmfkddglopaa
open Go.RowKit

/-- A letter: its name, state, amount, day, policy, papers. -/
structure Lt where
 nm : List UInt8
 st : Int
 am : Int
 du : Int
 po : List UInt8
 pa : List UInt8
def Lt.no : Lt := ⟨[], 0, 0, 0, [], []⟩
def Lt.cells (l : Lt) : List Value := [.string (ba l.nm), .int .i64 l.st, .int .i64 l.am, .int .i64 l.du, .string (ba l.po), .string (ba l.pa)]
def Lt.val (l : Lt) : Value := .agg #[.string (ba l.nm), .int .i64 l.st, .int .i64 l.am, .int .i64 l.du, .string (ba l.po), .string (ba l.pa)]
/-- whether two letters are the same -/
def Lt.eqb (a b : Lt) : Bool := (a.nm == b.nm) && (a.st == b.st) && (a.am == b.am) && (a.du == b.du) && (a.po == b.po) && (a.pa == b.pa)
theorem Lt.eqb_iff {a b : Lt} : a.eqb b = true ↔ a = b := by
 obtain ⟨a1, a2, a3, a4, a5, a6⟩ := a
 obtain ⟨b1, b2, b3, b4, b5, b6⟩ := b
 simp only [Lt.eqb, Bool.and_eq_true, beq_iff_eq, Lt.mk.injEq]
 exact ⟨fun ⟨⟨⟨⟨⟨h1, h2⟩, h3⟩, h4⟩, h5⟩, h6⟩ => ⟨h1, h2, h3, h4, h5, h6⟩, fun ⟨h1, h2, h3, h4, h5, h6⟩ => ⟨⟨⟨⟨⟨h1, h2⟩, h3⟩, h4⟩, h5⟩, h6⟩⟩
end Go.Proofs.Ytponmfkddglopaa

namespace Go.Proofs.Ytponmfkddglopaa
open Go.RowKit

/-- An outcome: its client, number, result. -/
structure Oc where
 cl : Int
 sp : Int
 rs : Int
def Oc.eqb (a b : Oc) : Bool := (a.cl == b.cl) && (a.sp == b.sp) && (a.rs == b.rs)
theorem Oc.eqb_iff {a b : Oc} : a.eqb b = true ↔ a = b := by
 obtain ⟨a1, a2, a3⟩ := a
 obtain ⟨b1, b2, b3⟩ := b
 simp only [Oc.eqb, Bool.and_eq_true, beq_iff_eq, Oc.mk.injEq]
 exact ⟨fun ⟨⟨h1, h2⟩, h3⟩ => ⟨h1, h2, h3⟩, fun ⟨h1, h2, h3⟩ => ⟨⟨h1, h2⟩, h3⟩⟩
def Oc.no : Oc := ⟨0, 0, 0⟩
def Oc.cells (o : Oc) : List Value := [.int .i64 o.cl, .int .i64 o.sp, .int .i64 o.rs]
/-- A ledger. -/
structure Lg where
 sq : Int
 tt : Int
 ls : List Lt
 os : List Oc
def Lg.no : Lg := ⟨0, 0, [], []⟩

/-- a letter, a digit or "-" -/
def nmB (x : UInt8) : Bool := (decide (97 ≤ x.toNat) && decide (x.toNat ≤ 122)) || (decide (48 ≤ x.toNat) && decide (x.toNat ≤ 57)) || (x.toNat == 45)
def isNm (l : List UInt8) : Bool := l.all nmB && decide (1 ≤ l.length) && decide (l.length ≤ 16)
/-- one text ahead of another one -/
def ltS (a b : List UInt8) : Bool := Op.bytesLess a b
/-- a letter that may stand in a ledger -/
def ltOk (x : Lt) : Bool := isNm x.nm && decide (1 ≤ x.st) && decide (x.st ≤ 7) && decide (1 ≤ x.am) && isM x.am && isM x.du && decide (x.po.length ≤ 200) && decide (x.pa.length ≤ 200)
/-- rising by names, behind an earlier one -/
def lsOk : Option Lt → List Lt → Bool
 | _, [] => true
 | none, x :: xs => ltOk x && lsOk (some x) xs
 | some p, x :: xs => ltS p.nm x.nm && ltOk x && lsOk (some x) xs
def ocOk (o : Oc) : Bool := decide (0 ≤ o.cl) && decide (o.cl ≤ 63) && decide (1 ≤ o.sp) && decide (o.sp ≤ 1099511627776) && decide (0 ≤ o.rs) && decide (o.rs ≤ 99)
def osOk : Option Oc → List Oc → Bool
 | _, [] => true
 | none, x :: xs => ocOk x && osOk (some x) xs
 | some p, x :: xs => decide (p.cl < x.cl) && ocOk x && osOk (some x) xs
end Go.Proofs.Ytponmfkddglopaa

namespace Go.Proofs.Ytponmfkddglopaa
open Go.RowKit

def encLt (x : Lt) : List UInt8 := rowB x.nm ++ (beB (u64N x.st) 1 ++ (beB (u64N x.am) 8 ++ (beB (u64N x.du) 8 ++ (rowB x.po ++ rowB x.pa))))
def encOc (o : Oc) : List UInt8 := beB (u64N o.cl) 1 ++ (beB (u64N o.sp) 8 ++ beB (u64N o.rs) 1)
/-- a ledger's bytes -/
def Lg.bytes (l : Lg) : List UInt8 := beB (u64N l.sq) 8 ++ (beB (u64N l.tt) 8 ++ (beB l.ls.length 2 ++ (encAll encLt l.ls ++ (beB l.os.length 2 ++ encAll encOc l.os))))

theorem e1 : (256 : Nat) ^ 1 = 256 := by decide
theorem e8 : (256 : Nat) ^ 8 = 18446744073709551616 := by decide
structure Lg.Right (l : Lg) : Prop where
 s0 : 0 ≤ l.sq
 s1 : l.sq ≤ 1048576
 t0 : 0 ≤ l.tt
 t1 : l.tt ≤ 1099511627776
 o4 : l.os.length ≤ 4
 l16 : l.ls.length ≤ 16
 ls : lsOk none l.ls = true
 os : osOk none l.os = true
end Go.Proofs.Ytponmfkddglopaa
