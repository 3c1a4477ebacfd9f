/-
  Joined: RqR, BaP, VoP, ChP.
-/
import Derived.Deep.CutRange
import Derived.Test.YtpolofehkckaoaaUH3
import Derived.Test.YtpolofehkckaoaaUH5
namespace Go.Proofs.Ytpolofehkckaoaa
open Go.RowKit

theorem results_cell_row_tmp1 {P : Program} {fn : Func} {p u : Tmp} {ty : TypeId} (h : fn.results = #[.cell p ty, .tmp u]) (tmps : Array Value) (w : World) (g : Nat) (t : TypeId) (cs : Array Value) (fr : Nat × Nat) (d : TypeDesc)
  (hp : tmps.getD p undef = .pointer (some ⟨g, 0, none⟩)) (hg : w.heap[g]? = some (.cells cs t fr))
  (hu : P.underlying ty = some d) (hd : (match d with | .struct _ | .array _ _ => true | _ => false) = true) (hi : (P.info? ty).map (·.size) = some cs.size) :
  (results fn tmps).run P w = .ok (.tuple #[.agg cs, tmps.getD u undef]) w := by
 have hp' : tmps[p]?.getD undef = .pointer (some ⟨g, 0, none⟩) := by simpa using hp
 simp [results, h, hp', asAddr, run_loadVar_row w g t ty cs fr d hg hu hd hi]
end Go.Proofs.Ytpolofehkckaoaa

namespace Go.Proofs.Ytpolofehkckaoaa
open Go.RowKit

/-- an entry: its core, and who stands behind it -/
structure Ey where
 co : Cr
 ms : Nat
def Ey.eqb (x y : Ey) : Bool := x.co.eqb y.co && (x.ms == y.ms)
theorem Ey.eqb_iff {x y : Ey} : x.eqb y = true ↔ x = y := by
 obtain ⟨x1, x2⟩ := x
 obtain ⟨y1, y2⟩ := y
 simp only [Ey.eqb, Bool.and_eq_true, Cr.eqb_iff, beq_iff_eq, Ey.mk.injEq]
/-- the same batch? -/
def sameB (a b : List Ey) : Bool := allB Ey.eqb a b
theorem sameB_iff {a b : List Ey} : sameB a b = true ↔ a = b := allB_iff (p := Ey.eqb) (fun _ _ => Ey.eqb_iff)
end Go.Proofs.Ytpolofehkckaoaa

namespace Go.Proofs.Ytpolofehkckaoaa
open Go.RowKit

def In64 (v : Int) : Prop := -9223372036854775808 ≤ v ∧ v ≤ 9223372036854775807

structure Vo where
 vw : Int
 sq : Int
 dg : List UInt8
structure Vu where
 cl : Int
 sp : Int
 dg : List UInt8
 ms : Nat
structure Re where
 vw : Int
 cl : Int
 sp : Int
 rs : Int
structure Pr where
 vw : Int
 sq : Int
 es : List Ey
end Go.Proofs.Ytpolofehkckaoaa

namespace Go.Proofs.Ytpolofehkckaoaa
open Go.RowKit

structure Po where
 sq : Int
 dg : List UInt8
structure Pf where
 sq : Int
 vw : Int
 es : List Ey
structure Ch where
 vw : Int
 lw : Int
 po : List Po
 pp : List Pf
 pd : List Pf
end Go.Proofs.Ytpolofehkckaoaa
