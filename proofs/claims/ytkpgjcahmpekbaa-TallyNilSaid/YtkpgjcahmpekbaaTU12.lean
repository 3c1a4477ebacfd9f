/-
  Joined: RqOp.
-/
import Derived.ProofKit
import Derived.OpenShut
import Derived.ChangeMaps5
import Derived.Deep.Slices
import Derived.Deep.Fields
import Derived.Test.YtkpgjcahmpekbaaTU11
import Derived.Test.YtkpgjcahmpekbaaTU0
namespace Go.Proofs.Ytkpgjcahmpekbaa
open Go.ChangeShapes Go.WideShapes Go.ChangeAt Go.RowKit Go.Deep

theorem Try.own : ownKnob Try.prog.godebug = none := by kernel_rfl
theorem Try.laidOut : laidOutB Try.prog = true := by kernel_rfl
theorem Try.cells_u8 : Try.prog.cellsOf 5 = 1 := by kernel_rfl

set_option maxRecDepth 100000 in
/-- An argument of type []byte, nil or not, reads as bytes. -/
theorem opened_by {H : Type} {enc : TypeId × Value → H} {W : World} {a0 : Option Addr} {len cap : Nat} {d0 : DataW H} {p : List MemPlace}
  (h0 : DataW.Trod enc Try.prog W 0 (fun _ => true) true 45 (.slice a0 len cap) d0 p) :
  ∃ xs : List UInt8, By W (fun _ => True) a0 len xs ∧ len ≤ cap ∧ cap ≤ maxLen := by
 obtain ⟨fuel, hf⟩ := h0
 rcases open_ints Try.underlying45 Try.underlying5 Try.cells_u8 hf with ⟨hcs, hx⟩ | ⟨a, len', cap', zs, hcs, _, hl, hm, hz, hx, hcell, hwz⟩
 ·simp [Value.cells] at hcs
  obtain ⟨rfl, rfl, rfl⟩ := hcs
  exact ⟨[], By.none_, Nat.le_refl _, Nat.zero_le _⟩
 ·simp [Value.cells] at hcs
  obtain ⟨rfl, rfl, rfl⟩ := hcs
  simp only [if_true] at hz
  refine ⟨(zs.take len).map fun x => UInt8.ofNat x.toNat, ⟨by simp; omega, fun hn => ?_⟩, by omega, by omega⟩
  obtain ⟨b, o, s⟩ := a
  obtain rfl : s = none := by simpa [Addr.add] using World.cell?_spot (hcell 0 (by omega))
  refine ⟨b, o, rfl, trivial, fun j u hu => ?_⟩
  have hj : j < len := by
   have := (List.getElem?_eq_some_iff.1 hu).1
   simp at this
   omega
  have hjz : j < zs.length := by omega
  have e := hcell j (by omega)
  rw [Go.WideShapes.add_plain] at e
  rw [e]
  have hw := hwz zs[j] (List.getElem_mem _)
  have hb : 0 ≤ zs[j] ∧ zs[j] ≤ 255 := by simpa [Lit.wf, IntKind.min, IntKind.max, IntKind.signed, IntKind.bits] using hw
  simp [hj, hjz] at hu
  subst hu
  simp [List.getD, hjz, u8]
  omega

set_option maxRecDepth 100000 in
theorem opened_int {H : Type} {enc : TypeId × Value → H} {W : World} {b : Nat} {v : Value} {d : DataW H} {p : List MemPlace}
  (hv : Value.okWide Try.prog W .any b 3 v) (h0 : DataW.Trod enc Try.prog W 0 (fun _ => true) true 3 v d p) : ∃ y : Int, v = .int .i64 y ∧ -9223372036854775808 ≤ y ∧ y ≤ 9223372036854775807 := by
 obtain ⟨x, rfl, rfl, rfl, wx⟩ := open_int Try.underlying3 hv h0
 exact ⟨x, rfl, by simpa [Lit.wf, IntKind.min, IntKind.max, IntKind.signed, IntKind.bits] using wx⟩
def Cr.cells (c : Cr) : List Value := [.int .i64 c.cl, .int .i64 c.sp, .int .i64 c.op, .string (ba c.lt), .int .i64 c.a, .int .i64 c.b, .string (ba c.tx)]
end Go.Proofs.Ytkpgjcahmpekbaa
