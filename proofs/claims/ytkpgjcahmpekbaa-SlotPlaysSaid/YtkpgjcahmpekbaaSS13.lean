/-
  Joined: RqOp.
-/
import Derived.ProofKit
import Derived.OpenShut
import Derived.ChangeMaps5
import Derived.Deep.Slices
import Derived.Deep.Fields
import Derived.Test.YtkpgjcahmpekbaaSS12
import Derived.Test.YtkpgjcahmpekbaaSS0
namespace Go.Proofs.Ytkpgjcahmpekbaa
open Go.ChangeShapes Go.WideShapes Go.ChangeAt Go.RowKit Go.Deep

theorem Try.own : ownKnob Try.prog.godebug = none := by kernel_rfl
theorem Try.laidOut : laidOutB Try.prog = true := by kernel_rfl
theorem Try.cells_u8 : Try.prog.cellsOf 5 = 1 := by kernel_rfl

set_option maxRecDepth 100000 in
theorem opened_int {H : Type} {enc : TypeId × Value → H} {W : World} {b : Nat} {v : Value} {d : DataW H} {p : List MemPlace}
  (hv : Value.okWide Try.prog W .any b 3 v) (h0 : DataW.Trod enc Try.prog W 0 (fun _ => true) true 3 v d p) : ∃ y : Int, v = .int .i64 y ∧ -9223372036854775808 ≤ y ∧ y ≤ 9223372036854775807 := by
 obtain ⟨x, rfl, rfl, rfl, wx⟩ := open_int Try.underlying3 hv h0
 exact ⟨x, rfl, by simpa [Lit.wf, IntKind.min, IntKind.max, IntKind.signed, IntKind.bits] using wx⟩
set_option maxRecDepth 100000 in
/-- A core's cells. -/
theorem cr_of_trod {H : Type} {enc : TypeId × Value → H} {W : World} {base : Nat} {sp : Nat → Bool} {held : Bool} {fuel : Nat} {cs : List Value} {x : DataW H × List MemPlace} (hf : DataW.trod enc Try.prog W base sp held fuel 126 cs = some x) :
  ∃ (y0 : Int) (y1 : Int) (y2 : Int) (s3 : List UInt8) (y4 : Int) (y5 : Int) (s6 : List UInt8), cs = [.int .i64 y0, .int .i64 y1, .int .i64 y2, .string (ba s3), .int .i64 y4, .int .i64 y5, .string (ba s6)] ∧ (-9223372036854775808 ≤ y0 ∧ y0 ≤ 9223372036854775807) ∧ (-9223372036854775808 ≤ y1 ∧ y1 ≤ 9223372036854775807) ∧ (-9223372036854775808 ≤ y2 ∧ y2 ≤ 9223372036854775807) ∧ s3.length ≤ maxLen ∧ (-9223372036854775808 ≤ y4 ∧ y4 ≤ 9223372036854775807) ∧ (-9223372036854775808 ≤ y5 ∧ y5 ≤ 9223372036854775807) ∧ s6.length ≤ maxLen := by
 obtain ⟨xs, m, rfl, _, hl, hlen, hg⟩ := DataW.trod_struct Try.underlying126 hf
 have e7 : Try.prog.cellsOf 126 = 7 := by kernel_rfl
 have hcl : cs.length = 7 := by rw [e7] at hl; exact hl
 match cs, hcl with
 | [c0, c1, c2, c3, c4, c5, c6], _ =>
  have hx : ∀ i, i < 7 → ∃ y, xs[i]? = some y := fun i hi => ⟨_, List.getElem?_eq_getElem (by have := hlen; simp at this; omega)⟩
  have g0 := hg 0 _ rfl
  obtain ⟨z0, hz0⟩ := hx 0 (by omega)
  rw [hz0] at g0
  have g1 := hg 1 _ rfl
  obtain ⟨z1, hz1⟩ := hx 1 (by omega)
  rw [hz1] at g1
  have g2 := hg 2 _ rfl
  obtain ⟨z2, hz2⟩ := hx 2 (by omega)
  rw [hz2] at g2
  have g3 := hg 3 _ rfl
  obtain ⟨z3, hz3⟩ := hx 3 (by omega)
  rw [hz3] at g3
  have g4 := hg 4 _ rfl
  obtain ⟨z4, hz4⟩ := hx 4 (by omega)
  rw [hz4] at g4
  have g5 := hg 5 _ rfl
  obtain ⟨z5, hz5⟩ := hx 5 (by omega)
  rw [hz5] at g5
  have g6 := hg 6 _ rfl
  obtain ⟨z6, hz6⟩ := hx 6 (by omega)
  rw [hz6] at g6
  have k0 : Try.prog.cellsOf 2 = 1 := by kernel_rfl
  have k1 : Try.prog.cellsOf 3 = 1 := by kernel_rfl
  have k2 : Try.prog.cellsOf 9 = 1 := by kernel_rfl
  simp only [List.getElem_toArray, List.getElem_cons_zero, List.getElem_cons_succ] at g0 g1 g2 g3 g4 g5 g6
  rw [k1] at g0
  rw [k0] at g1
  rw [k1] at g2
  rw [k2] at g3
  rw [k0] at g4
  rw [k0] at g5
  rw [k2] at g6
  obtain ⟨v0, hv0, _, hw0⟩ := DataW.trod_int Try.underlying3 g0
  have d0 : c0 = .int .i64 v0 := by simpa using hv0
  obtain ⟨v1, hv1, _, hw1⟩ := DataW.trod_int Try.underlying2 g1
  have d1 : c1 = .int .i64 v1 := by simpa using hv1
  obtain ⟨v2, hv2, _, hw2⟩ := DataW.trod_int Try.underlying3 g2
  have d2 : c2 = .int .i64 v2 := by simpa using hv2
  obtain ⟨v3, hv3, _, hw3⟩ := DataW.trod_string Try.underlying9 g3
  have d3 : c3 = .string (ba v3.data.toList) := by rw [← ba_of v3]; simpa using hv3
  obtain ⟨v4, hv4, _, hw4⟩ := DataW.trod_int Try.underlying2 g4
  have d4 : c4 = .int .i64 v4 := by simpa using hv4
  obtain ⟨v5, hv5, _, hw5⟩ := DataW.trod_int Try.underlying2 g5
  have d5 : c5 = .int .i64 v5 := by simpa using hv5
  obtain ⟨v6, hv6, _, hw6⟩ := DataW.trod_string Try.underlying9 g6
  have d6 : c6 = .string (ba v6.data.toList) := by rw [← ba_of v6]; simpa using hv6
  subst d0 d1 d2 d3 d4 d5 d6
  exact ⟨v0, v1, v2, v3.data.toList, v4, v5, v6.data.toList, rfl, by simpa [Lit.wf, IntKind.min, IntKind.max, IntKind.signed, IntKind.bits] using hw0, by simpa [Lit.wf, IntKind.min, IntKind.max, IntKind.signed, IntKind.bits] using hw1, by simpa [Lit.wf, IntKind.min, IntKind.max, IntKind.signed, IntKind.bits] using hw2, by rw [← ba_size, ← ba_of v3]; exact hw3, by simpa [Lit.wf, IntKind.min, IntKind.max, IntKind.signed, IntKind.bits] using hw4, by simpa [Lit.wf, IntKind.min, IntKind.max, IntKind.signed, IntKind.bits] using hw5, by rw [← ba_size, ← ba_of v6]; exact hw6⟩

def Cr.cells (c : Cr) : List Value := [.int .i64 c.cl, .int .i64 c.sp, .int .i64 c.op, .string (ba c.lt), .int .i64 c.a, .int .i64 c.b, .string (ba c.tx)]
end Go.Proofs.Ytkpgjcahmpekbaa
