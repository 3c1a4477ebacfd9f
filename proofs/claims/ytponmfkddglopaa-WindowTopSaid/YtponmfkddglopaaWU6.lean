/-
  Joined: LgB.
-/
import Derived.Test.YtponmfkddglopaaWU1
import Derived.Test.YtponmfkddglopaaWU5
namespace Go.Proofs.Ytponmfkddglopaa
open Go.RowKit

def encLt (x : Lt) : List UInt8 := rowB x.nm ++ (beB (u64N x.st) 1 ++ (beB (u64N x.am) 8 ++ (beB (u64N x.du) 8 ++ (rowB x.po ++ rowB x.pa))))
def encOc (o : Oc) : List UInt8 := beB (u64N o.cl) 1 ++ (beB (u64N o.sp) 8 ++ beB (u64N o.rs) 1)
/-- a ledger's bytes -/
def Lg.bytes (l : Lg) : List UInt8 := beB (u64N l.sq) 8 ++ (beB (u64N l.tt) 8 ++ (beB l.ls.length 2 ++ (encAll encLt l.ls ++ (beB l.os.length 2 ++ encAll encOc l.os))))

theorem e1 : (256 : Nat) ^ 1 = 256 := by decide
structure Lg.Right (l : Lg) : Prop where
 s0 : 0 ≤ l.sq
 s1 : l.sq ≤ 1048576
 t0 : 0 ≤ l.tt
 t1 : l.tt ≤ 1099511627776
 o4 : l.os.length ≤ 4
 l16 : l.ls.length ≤ 16
 ls : lsOk none l.ls = true
 os : osOk none l.os = true
end Go.Proofs.Ytponmfkddglopaa
