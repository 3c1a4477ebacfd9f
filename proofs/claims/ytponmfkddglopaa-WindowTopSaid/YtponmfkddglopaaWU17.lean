/-
  Joined: VoP.
-/
import Derived.Test.YtponmfkddglopaaWU14
namespace Go.Proofs.Ytponmfkddglopaa
open Go.RowKit

structure Vo where
 vw : Int
 sq : Int
 dg : List UInt8
def Vo.no : Vo := ⟨0, 0, List.replicate 32 0⟩
structure Vu where
 cl : Int
 sp : Int
 dg : List UInt8
 ms : Nat
def Vu.no : Vu := ⟨0, 0, List.replicate 32 0, 0⟩
structure Re where
 vw : Int
 cl : Int
 sp : Int
 rs : Int
def Re.no : Re := ⟨0, 0, 0, 0⟩
structure Pr where
 vw : Int
 sq : Int
 es : List Ey
def Pr.no : Pr := ⟨0, 0, []⟩
end Go.Proofs.Ytponmfkddglopaa
