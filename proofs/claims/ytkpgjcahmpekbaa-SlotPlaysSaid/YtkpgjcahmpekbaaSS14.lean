/-
  Joined: Nm, RqC, RqR, BaP, RqV.
-/
import Derived.Test.YtkpgjcahmpekbaaSS4
import Derived.Lib.ConvBytes
import Derived.Test.YtkpgjcahmpekbaaSS6
import Derived.Test.YtkpgjcahmpekbaaSS8
import Derived.Test.YtkpgjcahmpekbaaSS3
import Derived.Deep.CutRange
import Derived.Test.YtkpgjcahmpekbaaSS10
import Derived.Test.YtkpgjcahmpekbaaSS11
namespace Go.Proofs.Ytkpgjcahmpekbaa
open Go.RowKit

theorem ret_b {a b : Bool} (h : a = b) : Ending.returned (Value.bool a) = .returned (.bool b) := by rw [h]

end Go.Proofs.Ytkpgjcahmpekbaa

namespace Go.Proofs.Ytkpgjcahmpekbaa
open Go.RowKit

@[simp] theorem beB_len (v k : Nat) : (beB v k).length = k := beB_length v k
@[simp] theorem rowB_len (xs : List UInt8) : (rowB xs).length = 4 + xs.length := by unfold rowB; rw [List.length_append, beB_length]

end Go.Proofs.Ytkpgjcahmpekbaa

namespace Go.Proofs.Ytkpgjcahmpekbaa
open Go.RowKit

/-- A block of cells that are no bytes is turned. -/
theorem By.far {w w' : World} {A : Option Addr} {n g : Nat} {xs : List UInt8} {t : TypeId} {cs : List Value} (h : By w (fun _ => True) A n xs) (hg : w.grownBy w' (some g)) (hb : Blk w g t cs) (hc : ∀ v ∈ cs, ∀ u : UInt8, v ≠ u8 u) : By w' (fun _ => True) A n xs :=
 ⟨h.1, fun hn => by
  obtain ⟨b, o, e, _, hc1⟩ := h.2 hn
  refine ⟨b, o, e, trivial, fun j u hu => hg.cell (hc1 j u hu) (fun e2 => ?_)⟩
  have e3 : b = g := Option.some.inj e2
  subst e3
  have h2 := hc1 j u hu
  rw [hb.cell] at h2
  exact hc _ (List.mem_of_getElem? h2) u rfl⟩

theorem results_cell_row_tmp1 {P : Program} {fn : Func} {p u : Tmp} {ty : TypeId} (h : fn.results = #[.cell p ty, .tmp u]) (tmps : Array Value) (w : World) (g : Nat) (t : TypeId) (cs : Array Value) (fr : Nat × Nat) (d : TypeDesc)
  (hp : tmps.getD p undef = .pointer (some ⟨g, 0, none⟩)) (hg : w.heap[g]? = some (.cells cs t fr))
  (hu : P.underlying ty = some d) (hd : (match d with | .struct _ | .array _ _ => true | _ => false) = true) (hi : (P.info? ty).map (·.size) = some cs.size) :
  (results fn tmps).run P w = .ok (.tuple #[.agg cs, tmps.getD u undef]) w := by
 have hp' : tmps[p]?.getD undef = .pointer (some ⟨g, 0, none⟩) := by simpa using hp
 simp [results, h, hp', asAddr, run_loadVar_row w g t ty cs fr d hg hu hd hi]
end Go.Proofs.Ytkpgjcahmpekbaa

namespace Go.Proofs.Ytkpgjcahmpekbaa
open Go.RowKit

/-- an entry: its core, and who stands behind it -/
structure Ey where
 co : Cr
 ms : Nat
def Ey.eqb (x y : Ey) : Bool := x.co.eqb y.co && (x.ms == y.ms)
theorem Ey.eqb_iff {x y : Ey} : x.eqb y = true ↔ x = y := by
 obtain ⟨x1, x2⟩ := x
 obtain ⟨y1, y2⟩ := y
 simp only [Ey.eqb, Bool.and_eq_true, Cr.eqb_iff, beq_iff_eq, Ey.mk.injEq]
/-- the same batch? -/
def sameB (a b : List Ey) : Bool := allB Ey.eqb a b
theorem sameB_iff {a b : List Ey} : sameB a b = true ↔ a = b := allB_iff (p := Ey.eqb) (fun _ _ => Ey.eqb_iff)
theorem sameB_self (a : List Ey) : sameB a a = true := sameB_iff.2 rfl
/-- the numbers of a core lie in their types -/
def Ey.In (y : Ey) : Prop := (-9223372036854775808 ≤ y.co.a ∧ y.co.a ≤ 9223372036854775807) ∧ (-9223372036854775808 ≤ y.co.b ∧ y.co.b ≤ 9223372036854775807)
end Go.Proofs.Ytkpgjcahmpekbaa

namespace Go.Proofs.Ytkpgjcahmpekbaa
open Go.RowKit

theorem eqb_ba (a b : List UInt8) : ((ba a).toList == (ba b).toList) = (a == b) := by rw [ba_list, ba_list]
end Go.Proofs.Ytkpgjcahmpekbaa
