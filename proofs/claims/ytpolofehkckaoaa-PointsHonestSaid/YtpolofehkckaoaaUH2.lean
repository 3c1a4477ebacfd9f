/-
  Joined: Ba, PM, LtP, Lg, LgB, RqP, O4.
-/
import Derived.Laws.RangeAny
import Derived.Laws.Strings3
import Derived.Laws.Concat
import Derived.Test.YtpolofehkckaoaaUH1
import Derived.Test.YtpolofehkckaoaaUH0
import Derived.Deep.RegionLaw
namespace Go.Proofs.Ytpolofehkckaoaa
open Go.RowKit

/-- the string of these bytes -/
def ba (l : List UInt8) : ByteArray := ⟨l.toArray⟩
section
variable {P : Program} {t : TypeId}
end

end Go.Proofs.Ytpolofehkckaoaa

namespace Go.Proofs.Ytpolofehkckaoaa
open Go.RowKit

/-- An amount. -/
def isM (a : Int) : Bool := decide (0 ≤ a) && decide (a ≤ 1099511627776)

end Go.Proofs.Ytpolofehkckaoaa

namespace Go.Proofs.Ytpolofehkckaoaa
open Go.RowKit

/-- A letter: its name, state, amount, day, policy, papers. -/
structure Lt where
 nm : List UInt8
 st : Int
 am : Int
 du : Int
 po : List UInt8
 pa : List UInt8
def Lt.cells (l : Lt) : List Value := [.string (ba l.nm), .int .i64 l.st, .int .i64 l.am, .int .i64 l.du, .string (ba l.po), .string (ba l.pa)]
def Lt.val (l : Lt) : Value := .agg #[.string (ba l.nm), .int .i64 l.st, .int .i64 l.am, .int .i64 l.du, .string (ba l.po), .string (ba l.pa)]
/-- whether two letters are the same -/
def Lt.eqb (a b : Lt) : Bool := (a.nm == b.nm) && (a.st == b.st) && (a.am == b.am) && (a.du == b.du) && (a.po == b.po) && (a.pa == b.pa)
theorem Lt.eqb_iff {a b : Lt} : a.eqb b = true ↔ a = b := by
 obtain ⟨a1, a2, a3, a4, a5, a6⟩ := a
 obtain ⟨b1, b2, b3, b4, b5, b6⟩ := b
 simp only [Lt.eqb, Bool.and_eq_true, beq_iff_eq, Lt.mk.injEq]
 exact ⟨fun ⟨⟨⟨⟨⟨h1, h2⟩, h3⟩, h4⟩, h5⟩, h6⟩ => ⟨h1, h2, h3, h4, h5, h6⟩, fun ⟨h1, h2, h3, h4, h5, h6⟩ => ⟨⟨⟨⟨⟨h1, h2⟩, h3⟩, h4⟩, h5⟩, h6⟩⟩
end Go.Proofs.Ytpolofehkckaoaa

namespace Go.Proofs.Ytpolofehkckaoaa
open Go.RowKit

/-- An outcome: its client, number, result. -/
structure Oc where
 cl : Int
 sp : Int
 rs : Int
def Oc.eqb (a b : Oc) : Bool := (a.cl == b.cl) && (a.sp == b.sp) && (a.rs == b.rs)
theorem Oc.eqb_iff {a b : Oc} : a.eqb b = true ↔ a = b := by
 obtain ⟨a1, a2, a3⟩ := a
 obtain ⟨b1, b2, b3⟩ := b
 simp only [Oc.eqb, Bool.and_eq_true, beq_iff_eq, Oc.mk.injEq]
 exact ⟨fun ⟨⟨h1, h2⟩, h3⟩ => ⟨h1, h2, h3⟩, fun ⟨h1, h2, h3⟩ => ⟨⟨h1, h2⟩, h3⟩⟩
def Oc.cells (o : Oc) : List Value := [.int .i64 o.cl, .int .i64 o.sp, .int .i64 o.rs]
/-- A ledger. -/
structure Lg where
 sq : Int
 tt : Int
 ls : List Lt
 os : List Oc
/-- whether two lists are the same, one by one -/
def allB {α : Type} (p : α → α → Bool) : List α → List α → Bool
 | [], [] => true
 | x :: xs, y :: ys => p x y && allB p xs ys
 | _, _ => false
theorem allB_iff {α : Type} {p : α → α → Bool} (hp : ∀ a b, p a b = true ↔ a = b) : ∀ {xs ys : List α}, allB p xs ys = true ↔ xs = ys
 | [], [] => by simp [allB]
 | [], _ :: _ => by simp [allB]
 | _ :: _, [] => by simp [allB]
 | x :: xs, y :: ys => by simp [allB, hp, allB_iff hp]
/-- whether two ledgers are the same -/
def Lg.same (a b : Lg) : Bool := (a.sq == b.sq) && (a.tt == b.tt) && allB Lt.eqb a.ls b.ls && allB Oc.eqb a.os b.os
/-- a letter, a digit or "-" -/
def nmB (x : UInt8) : Bool := (decide (97 ≤ x.toNat) && decide (x.toNat ≤ 122)) || (decide (48 ≤ x.toNat) && decide (x.toNat ≤ 57)) || (x.toNat == 45)
def isNm (l : List UInt8) : Bool := l.all nmB && decide (1 ≤ l.length) && decide (l.length ≤ 16)
/-- one text ahead of another one -/
def ltS (a b : List UInt8) : Bool := Op.bytesLess a b
/-- a letter that may stand in a ledger -/
def ltOk (x : Lt) : Bool := isNm x.nm && decide (1 ≤ x.st) && decide (x.st ≤ 7) && decide (1 ≤ x.am) && isM x.am && isM x.du && decide (x.po.length ≤ 200) && decide (x.pa.length ≤ 200)
/-- rising by names, behind an earlier one -/
def lsOk : Option Lt → List Lt → Bool
 | _, [] => true
 | none, x :: xs => ltOk x && lsOk (some x) xs
 | some p, x :: xs => ltS p.nm x.nm && ltOk x && lsOk (some x) xs
def ocOk (o : Oc) : Bool := decide (0 ≤ o.cl) && decide (o.cl ≤ 63) && decide (1 ≤ o.sp) && decide (o.sp ≤ 1099511627776) && decide (0 ≤ o.rs) && decide (o.rs ≤ 99)
def osOk : Option Oc → List Oc → Bool
 | _, [] => true
 | none, x :: xs => ocOk x && osOk (some x) xs
 | some p, x :: xs => decide (p.cl < x.cl) && ocOk x && osOk (some x) xs
end Go.Proofs.Ytpolofehkckaoaa

namespace Go.Proofs.Ytpolofehkckaoaa
open Go.RowKit

def encLt (x : Lt) : List UInt8 := rowB x.nm ++ (beB (u64N x.st) 1 ++ (beB (u64N x.am) 8 ++ (beB (u64N x.du) 8 ++ (rowB x.po ++ rowB x.pa))))
def encOc (o : Oc) : List UInt8 := beB (u64N o.cl) 1 ++ (beB (u64N o.sp) 8 ++ beB (u64N o.rs) 1)
/-- a ledger's bytes -/
def Lg.bytes (l : Lg) : List UInt8 := beB (u64N l.sq) 8 ++ (beB (u64N l.tt) 8 ++ (beB l.ls.length 2 ++ (encAll encLt l.ls ++ (beB l.os.length 2 ++ encAll encOc l.os))))

theorem e1 : (256 : Nat) ^ 1 = 256 := by decide
theorem e8 : (256 : Nat) ^ 8 = 18446744073709551616 := by decide
structure Lg.Right (l : Lg) : Prop where
 s0 : 0 ≤ l.sq
 s1 : l.sq ≤ 1048576
 t0 : 0 ≤ l.tt
 t1 : l.tt ≤ 1099511627776
 o4 : l.os.length ≤ 4
 l16 : l.ls.length ≤ 16
 ls : lsOk none l.ls = true
 os : osOk none l.os = true
end Go.Proofs.Ytpolofehkckaoaa

namespace Go.Proofs.Ytpolofehkckaoaa
open Go.RowKit

/-- a core -/
structure Cr where
 cl : Int
 sp : Int
 op : Int
 lt : List UInt8
 a : Int
 b : Int
 tx : List UInt8
def Cr.eqb (c d : Cr) : Bool := (c.cl == d.cl) && (c.sp == d.sp) && (c.op == d.op) && (c.lt == d.lt) && (c.a == d.a) && (c.b == d.b) && (c.tx == d.tx)
theorem Cr.eqb_iff {c d : Cr} : c.eqb d = true ↔ c = d := by
 obtain ⟨c1, c2, c3, c4, c5, c6, c7⟩ := c
 obtain ⟨d1, d2, d3, d4, d5, d6, d7⟩ := d
 simp only [Cr.eqb, Bool.and_eq_true, beq_iff_eq, Cr.mk.injEq, and_assoc]
structure Cr.May (c : Cr) (n : Int) : Prop where
 n1 : 1 ≤ n
 n7 : n ≤ 7
 c0 : n ≤ c.cl
 c1 : c.cl ≤ n + 3
 s0 : 1 ≤ c.sp
 s1 : c.sp ≤ 1099511627776
 o0 : 1 ≤ c.op
 o1 : c.op ≤ 9
 nm : isNm c.lt = true
 tx : c.tx.length ≤ 200
/-- a core's bytes -/
def encCr (c : Cr) : List UInt8 := beB (u64N c.cl) 1 ++ (beB (u64N c.sp) 8 ++ (beB (u64N c.op) 1 ++ (rowB c.lt ++ (beB (u64N c.a) 8 ++ (beB (u64N c.b) 8 ++ rowB c.tx)))))
/-- an endorsement: who, and a tag (32 bytes) to each replica -/
structure En where
 og : Int
 ts : List (List UInt8)
/-- a request -/
structure Rq where
 co : Cr
 es : List En
def En.eqb (e f : En) : Bool := (e.og == f.og) && (e.ts == f.ts)
theorem En.eqb_iff {e f : En} : e.eqb f = true ↔ e = f := by
 obtain ⟨e1, e2⟩ := e
 obtain ⟨f1, f2⟩ := f
 simp only [En.eqb, Bool.and_eq_true, beq_iff_eq, En.mk.injEq]
def Rq.same (p q : Rq) : Bool := p.co.eqb q.co && allB En.eqb p.es q.es
def encTg (t : List UInt8) : List UInt8 := t
def encEn (e : En) : List UInt8 := beB (u64N e.og) 1 ++ encAll encTg e.ts
def Rq.bytes (q : Rq) : List UInt8 := rowB (encCr q.co) ++ (beB q.es.length 2 ++ encAll encEn q.es)
end Go.Proofs.Ytpolofehkckaoaa

namespace Go.Proofs.Ytpolofehkckaoaa
open Go.RowKit

theorem By.one {w : World} {Q : Nat → Prop} {x : Int} {b : UInt8} (t : TypeId) (hQ : Q w.heap.size) (h : u8 b = .int .u8 x) : By (w.alloc (.cells #[.int .u8 x] t)) Q (some ⟨w.heap.size, 0, none⟩) 1 [b] := by
 refine ⟨rfl, fun _ => ⟨_, _, rfl, hQ, fun j u hu => ?_⟩⟩
 match j, hu with
 | 0, hu =>
  simp at hu
  subst hu
  rw [cell_of_row _ w.heap.size _ _ _ _ (heap_alloc_new w _), h]
  rfl

end Go.Proofs.Ytpolofehkckaoaa
