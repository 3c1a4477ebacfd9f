/-
  Joined: ChC, ChS, ChT, Flt.
-/
import Derived.Deep.RegionHeld
import Derived.Lib.OthersKept
import Derived.Laws.Cover1
import Derived.Laws.RangeAny
import Derived.Test.YtpolofehkckaoaaUT12
import Derived.Test.YtpolofehkckaoaaUT9
import Derived.Test.YtpolofehkckaoaaUT4
import Derived.Test.YtpolofehkckaoaaUT3
import Derived.Test.YtpolofehkckaoaaUT0
import Derived.BigQuiet
import Derived.BigGuard
import Derived.Test.YtpolofehkckaoaaUT2
namespace Go.Proofs.Ytpolofehkckaoaa
open Go.RowKit

theorem Po.one (p : Po) : (Po.cells p).toArray.all (·.oneCell') = true := Array.all_eq_true_iff_forall_mem.2 (fun u hu => by
 simp only [Po.cells, List.mem_toArray, List.mem_cons] at hu
 rcases hu with rfl | hu
 ·rfl
 ·exact vs_one u hu)

end Go.Proofs.Ytpolofehkckaoaa

namespace Go.Proofs.Ytpolofehkckaoaa
open Go.RowKit

def Po.eqb (a b : Po) : Bool := (a.sq == b.sq) && (a.dg == b.dg)
def Pf.eqb (a b : Pf) : Bool := (a.sq == b.sq) && (a.vw == b.vw) && sameB a.es b.es
theorem Po.eqb_iff {a b : Po} : a.eqb b = true ↔ a = b := by
 obtain ⟨x, y⟩ := a
 obtain ⟨x', y'⟩ := b
 simp [Po.eqb]
theorem Pf.eqb_iff {a b : Pf} : a.eqb b = true ↔ a = b := by
 obtain ⟨x, y, z⟩ := a
 obtain ⟨x', y', z'⟩ := b
 simp [Pf.eqb, sameB_iff, and_assoc]
def Ch.eqb (a b : Ch) : Bool := (a.vw == b.vw) && (a.lw == b.lw) && allB Po.eqb a.po b.po && allB Pf.eqb a.pp b.pp && allB Pf.eqb a.pd b.pd
theorem Ch.eqb_iff {a b : Ch} : a.eqb b = true ↔ a = b := by
 obtain ⟨v, l, x, y, z⟩ := a
 obtain ⟨v', l', x', y', z'⟩ := b
 simp [Ch.eqb, allB_iff (p := Po.eqb) (fun _ _ => Po.eqb_iff), allB_iff (p := Pf.eqb) (fun _ _ => Pf.eqb_iff), and_assoc]
end Go.Proofs.Ytpolofehkckaoaa

namespace Go.Proofs.Ytpolofehkckaoaa
open Go.RowKit

theorem eq_dgx (x y : List UInt8) (hx : x.length = 32) (hy : y.length = 32) (w : World) : (Op.equalIn 9999 28 (.agg (vs x).toArray) (.agg (vs y).toArray)).run Try.prog w = .ok (x == y) w := by
 obtain ⟨i, hi⟩ := Option.isSome_iff_exists.1 (show (Try.prog.info? 5).isSome = true by kernel_rfl)
 rw [show (9999 : Nat) = 9997 + 1 + 1 from rfl, run_equalIn_array w (9997 + 1) _ _ Try.underlying28 hi, show Try.prog.cellsOf 5 = 1 by kernel_rfl, List.range_eq_range', run_eqItems_bytes 9997 5 w Try.underlying5 x y 32 0 (by omega) (by omega)]
 rfl
set_option maxRecDepth 100000 in
set_option maxHeartbeats 8000000 in
theorem eq_po (p q : Po) (hp : p.dg.length = 32) (hq : q.dg.length = 32) (w : World) : (binOp .eql 31 (.agg (Po.cells p).toArray) (.agg (Po.cells q).toArray)).run Try.prog w = .ok (.bool (p.eqb q)) w := by
 obtain ⟨a, d⟩ := p
 obtain ⟨b, e⟩ := q
 have hdq := eq_dgx d e hp hq w
 unfold Po.eqb
 simp only
 generalize (d == e) = bb at *
 obtain ⟨x0, x1, x2, x3, x4, x5, x6, x7, x8, x9, x10, x11, x12, x13, x14, x15, x16, x17, x18, x19, x20, x21, x22, x23, x24, x25, x26, x27, x28, x29, x30, x31, rfl⟩ := vs_lit d hp
 obtain ⟨y0, y1, y2, y3, y4, y5, y6, y7, y8, y9, y10, y11, y12, y13, y14, y15, y16, y17, y18, y19, y20, y21, y22, y23, y24, y25, y26, y27, y28, y29, y30, y31, rfl⟩ := vs_lit e hq
 simp only [vs, u8, List.map_cons, List.map_nil] at hdq
 cases h0 : (a == b) with
 | false => simp [go_sem, Po.cells, vs, u8, h0]
 | true => cases bb <;> simp [go_sem, Po.cells, vs, u8, h0, hdq]
end Go.Proofs.Ytpolofehkckaoaa

namespace Go.Proofs.Ytpolofehkckaoaa
open Go.RowKit

def fltN (n : Int) : Int := if n < 4 then 0 else (n - 1) / 3

end Go.Proofs.Ytpolofehkckaoaa
