/-
  Joined: RqP, O4.
-/
import Derived.Test.YtponmfkddglopaaWV3
import Derived.Deep.RegionLaw
import Derived.Test.YtponmfkddglopaaWV0
namespace Go.Proofs.Ytponmfkddglopaa
open Go.RowKit

/-- a core -/
structure Cr where
 cl : Int
 sp : Int
 op : Int
 lt : List UInt8
 a : Int
 b : Int
 tx : List UInt8
def Cr.no : Cr := ⟨0, 0, 0, [], 0, 0, []⟩
def Cr.eqb (c d : Cr) : Bool := (c.cl == d.cl) && (c.sp == d.sp) && (c.op == d.op) && (c.lt == d.lt) && (c.a == d.a) && (c.b == d.b) && (c.tx == d.tx)
theorem Cr.eqb_iff {c d : Cr} : c.eqb d = true ↔ c = d := by
 obtain ⟨c1, c2, c3, c4, c5, c6, c7⟩ := c
 obtain ⟨d1, d2, d3, d4, d5, d6, d7⟩ := d
 simp only [Cr.eqb, Bool.and_eq_true, beq_iff_eq, Cr.mk.injEq, and_assoc]
structure Cr.May (c : Cr) (n : Int) : Prop where
 n1 : 1 ≤ n
 n7 : n ≤ 7
 c0 : n ≤ c.cl
 c1 : c.cl ≤ n + 3
 s0 : 1 ≤ c.sp
 s1 : c.sp ≤ 1099511627776
 o0 : 1 ≤ c.op
 o1 : c.op ≤ 9
 nm : isNm c.lt = true
 tx : c.tx.length ≤ 200
/-- a core's bytes -/
def encCr (c : Cr) : List UInt8 := beB (u64N c.cl) 1 ++ (beB (u64N c.sp) 8 ++ (beB (u64N c.op) 1 ++ (rowB c.lt ++ (beB (u64N c.a) 8 ++ (beB (u64N c.b) 8 ++ rowB c.tx)))))
/-- an endorsement: who, and a tag (32 bytes) to each replica -/
structure En where
 og : Int
 ts : List (List UInt8)
/-- a request -/
structure Rq where
 co : Cr
 es : List En
def Rq.no : Rq := ⟨Cr.no, []⟩
def En.eqb (e f : En) : Bool := (e.og == f.og) && (e.ts == f.ts)
theorem En.eqb_iff {e f : En} : e.eqb f = true ↔ e = f := by
 obtain ⟨e1, e2⟩ := e
 obtain ⟨f1, f2⟩ := f
 simp only [En.eqb, Bool.and_eq_true, beq_iff_eq, En.mk.injEq]
def encTg (t : List UInt8) : List UInt8 := t
def encEn (e : En) : List UInt8 := beB (u64N e.og) 1 ++ encAll encTg e.ts
def Rq.bytes (q : Rq) : List UInt8 := rowB (encCr q.co) ++ (beB q.es.length 2 ++ encAll encEn q.es)
end Go.Proofs.Ytponmfkddglopaa

namespace Go.Proofs.Ytponmfkddglopaa
open Go.RowKit

theorem By.one {w : World} {Q : Nat → Prop} {x : Int} {b : UInt8} (t : TypeId) (hQ : Q w.heap.size) (h : u8 b = .int .u8 x) : By (w.alloc (.cells #[.int .u8 x] t)) Q (some ⟨w.heap.size, 0, none⟩) 1 [b] := by
 refine ⟨rfl, fun _ => ⟨_, _, rfl, hQ, fun j u hu => ?_⟩⟩
 match j, hu with
 | 0, hu =>
  simp at hu
  subst hu
  rw [cell_of_row _ w.heap.size _ _ _ _ (heap_alloc_new w _), h]
  rfl

end Go.Proofs.Ytponmfkddglopaa
