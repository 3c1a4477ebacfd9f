/-
  A message opened out of an argument's reading. No walk here.
-/
import Derived.Test.YtkklgfcmgefedaaRqOp2
import Derived.Test.YtkklgfcmgefedaaWiS
namespace Go.Proofs.Ytkklgfcmgefedaa
open Go.ChangeShapes Go.WideShapes Go.ChangeAt Go.RowKit Go.Deep

set_option maxRecDepth 100000 in
/-- A slice of bytes, nil or not, in a cell. -/
theorem sl_by {H : Type} {enc : TypeId × Value → H} {W : World} {fuel : Nat} {c0 : Value} {x : DataW H × List MemPlace} (hf : DataW.trod enc Try.prog W 0 (fun _ => true) true fuel 22 [c0] = some x) :
    ∃ (A : Option Addr) (n c : Nat) (xs : List UInt8), c0 = .slice A n c ∧ By W (fun _ => True) A n xs ∧ n ≤ c ∧ c ≤ maxLen := by
  obtain ⟨d, p⟩ := x
  have hs : ∃ (A : Option Addr) (n c : Nat), c0 = .slice A n c := by
    rcases DataW.trod_slice Try.underlying22 hf with ⟨hcs, _⟩ | ⟨a, len, cap, elems, rest, m', _, hcs, _⟩
    · exact ⟨none, 0, 0, by simpa using hcs⟩
    · exact ⟨some a, len, cap, by simpa using hcs⟩
  obtain ⟨A, n, c, rfl⟩ := hs
  obtain ⟨xs, h1, h2, h3⟩ := opened_by (a0 := A) (len := n) (cap := c) (d0 := d) (p := p) ⟨fuel, by simpa [Value.cells] using hf⟩
  exact ⟨A, n, c, xs, rfl, h1, h2, h3⟩
set_option maxRecDepth 100000 in
/-- An argument of type Message. -/
theorem opened_ms {H : Type} {enc : TypeId × Value → H} {W : World} {b : Nat} {v : Value} {d : DataW H} {p : List MemPlace} (hv : Value.okWide Try.prog W .any b 25 v)
    (h0 : DataW.Trod enc Try.prog W 0 (fun _ => true) true 25 v d p) :
    ∃ (m : Ms) (B : Option Addr) (nb cb : Nat) (A : Option Addr) (nt ct : Nat), v = .agg #[.int .i64 m.kd, .int .i64 m.fr, .slice B nb cb, .slice A nt ct] ∧ MsIn W B nb A nt ct m ∧ (nb ≤ cb ∧ cb ≤ maxLen) ∧ (-9223372036854775808 ≤ m.kd ∧ m.kd ≤ 9223372036854775807) ∧ (-9223372036854775808 ≤ m.fr ∧ m.fr ≤ 9223372036854775807) := by
  simp only [Value.okWide, Try.underlying25] at hv
  obtain ⟨cs, rfl, hsz, _⟩ := hv
  obtain ⟨fuel, hf⟩ := h0
  obtain ⟨xs, m, rfl, _, hl, hlen, hg⟩ := DataW.trod_struct Try.underlying25 hf
  have e8 : Try.prog.cellsOf 25 = 4 := by kernel_rfl
  have hcl : (Value.agg cs).cells.toList.length = 4 := by rw [e8] at hl; exact hl
  obtain ⟨cs⟩ := cs
  have e0 : (Value.agg ⟨cs⟩).cells.toList = cs := by simp [Value.cells]
  rw [e0] at hcl hg
  match cs, hcl with
  | [c0, c1, c2, c3], _ =>
    have hx : ∀ i, i < 4 → ∃ y, xs[i]? = some y := fun i hi => ⟨_, List.getElem?_eq_getElem (by have := hlen; simp at this; omega)⟩
    have g0 := hg 0 _ rfl
    obtain ⟨z0, hz0⟩ := hx 0 (by omega)
    rw [hz0] at g0
    have g1 := hg 1 _ rfl
    obtain ⟨z1, hz1⟩ := hx 1 (by omega)
    rw [hz1] at g1
    have g2 := hg 2 _ rfl
    obtain ⟨z2, hz2⟩ := hx 2 (by omega)
    rw [hz2] at g2
    have g3 := hg 3 _ rfl
    obtain ⟨z3, hz3⟩ := hx 3 (by omega)
    rw [hz3] at g3
    have k0 : Try.prog.cellsOf 3 = 1 := by kernel_rfl
    have k2 : Try.prog.cellsOf 22 = 1 := by kernel_rfl
    have k3 : Try.prog.cellsOf 23 = 1 := by kernel_rfl
    simp only [List.getElem_toArray, List.getElem_cons_zero, List.getElem_cons_succ] at g0 g1 g2 g3
    rw [k0] at g0 g1
    rw [k2] at g2
    rw [k3] at g3
    obtain ⟨v0, hv0, _, hw0⟩ := DataW.trod_int Try.underlying3 g0
    obtain ⟨v1, hv1, _, hw1⟩ := DataW.trod_int Try.underlying3 g1
    have d0 : c0 = .int .i64 v0 := by simpa using hv0
    have d1 : c1 = .int .i64 v1 := by simpa using hv1
    obtain ⟨B, nb, cb, bs, d2, h1, h2, h3⟩ := sl_by (c0 := c2) (by simpa using g2)
    obtain ⟨A, n, c, ts, d3, h4⟩ := sl_tg (c0 := c3) (by simpa using g3)
    subst d0 d1 d2 d3
    exact ⟨⟨v0, v1, bs, ts⟩, B, nb, cb, A, n, c, rfl, ⟨h1, h4⟩, ⟨h2, h3⟩, by simpa [Lit.wf, IntKind.min, IntKind.max, IntKind.signed, IntKind.bits] using hw0, by simpa [Lit.wf, IntKind.min, IntKind.max, IntKind.signed, IntKind.bits] using hw1⟩

end Go.Proofs.Ytkklgfcmgefedaa
