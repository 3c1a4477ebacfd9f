/-
  Joined: WlO.
-/
import Derived.Test.YtponmfkddglopaaWV18
import Derived.Test.YtponmfkddglopaaWV45
namespace Go.Proofs.Ytponmfkddglopaa
open Go.ChangeShapes Go.WideShapes Go.ChangeAt Go.RowKit Go.Deep

set_option maxRecDepth 100000 in
/-- What a log is told: its cells. -/
theorem wa_of_trod {H : Type} {enc : TypeId × Value → H} {W : World} {fuel : Nat} {cs : List Value} {x : DataW H × List MemPlace} (hf : DataW.trod enc Try.prog W 0 (fun _ => true) true fuel 42 cs = some x) :
  (∃ a : Wa, cs = a.cells ∧ WaOk a) ∧ cs.length = 35 := by
 obtain ⟨xs, m, rfl, _, hl, hlen, hg⟩ := DataW.trod_struct Try.underlying42 hf
 have e8 : Try.prog.cellsOf 42 = 35 := by kernel_rfl
 have hcl : cs.length = 35 := by rw [e8] at hl; exact hl
 obtain ⟨c0, c1, c2, rest, rfl⟩ : ∃ c0 c1 c2 rest, cs = c0 :: c1 :: c2 :: rest := by
  match cs, hcl with
  | c0 :: c1 :: c2 :: rest, _ => exact ⟨c0, c1, c2, rest, rfl⟩
 have hr : rest.length = 32 := by simpa using hcl
 have hx : ∀ i, i < 4 → ∃ y, xs[i]? = some y := fun i hi => ⟨_, List.getElem?_eq_getElem (by have := hlen; simp at this; omega)⟩
 have g0 := hg 0 _ rfl
 obtain ⟨z0, hz0⟩ := hx 0 (by omega)
 rw [hz0] at g0
 have g1 := hg 1 _ rfl
 obtain ⟨z1, hz1⟩ := hx 1 (by omega)
 rw [hz1] at g1
 have g2 := hg 2 _ rfl
 obtain ⟨z2, hz2⟩ := hx 2 (by omega)
 rw [hz2] at g2
 have g3 := hg 3 _ rfl
 obtain ⟨z3, hz3⟩ := hx 3 (by omega)
 rw [hz3] at g3
 have k0 : Try.prog.cellsOf 5 = 1 := by kernel_rfl
 have k1 : Try.prog.cellsOf 2 = 1 := by kernel_rfl
 have k2 : Try.prog.cellsOf 3 = 1 := by kernel_rfl
 have k3 : Try.prog.cellsOf 40 = 32 := by kernel_rfl
 simp only [List.getElem_toArray, List.getElem_cons_zero, List.getElem_cons_succ] at g0 g1 g2 g3
 rw [k0] at g0
 rw [k1] at g1
 rw [k2] at g2
 rw [k3] at g3
 obtain ⟨v0, hv0, _, hw0⟩ := DataW.trod_int Try.underlying5 g0
 obtain ⟨v1, hv1, _, _⟩ := DataW.trod_int Try.underlying2 g1
 obtain ⟨v2, hv2, _, _⟩ := DataW.trod_int Try.underlying3 g2
 have d0 : c0 = .int .u8 v0 := by simpa using hv0
 have d1 : c1 = .int .i64 v1 := by simpa using hv1
 have d2 : c2 = .int .i64 v2 := by simpa using hv2
 obtain ⟨tg, h4, h5⟩ := dig_of_trod g3
 have e2 : rest = vs tg := by
  rw [← h5, List.drop_succ_cons, List.drop_succ_cons, List.drop_succ_cons, List.drop_zero, List.take_of_length_le (by omega)]
 subst d0 d1 d2 e2
 have hb : 0 ≤ v0 ∧ v0 ≤ 255 := by simpa [Lit.wf, IntKind.min, IntKind.max, IntKind.signed, IntKind.bits] using hw0
 exact ⟨⟨⟨v0, v1, v2, tg⟩, rfl, h4, hb.1⟩, hcl⟩
set_option maxRecDepth 100000 in
/-- An argument of type []Act (of logs). -/
theorem opened_was {H : Type} {enc : TypeId × Value → H} {W : World} {a0 : Option Addr} {len cap : Nat} {d0 : DataW H} {p : List MemPlace}
  (h0 : DataW.Trod enc Try.prog W 0 (fun _ => true) true 22 (.slice a0 len cap) d0 p) : ∃ l : List Wa, WasIn W a0 len l := by
 obtain ⟨fuel, hf⟩ := h0
 obtain ⟨A, n, c, rows, e, h1, h2, _, _⟩ := sl_rows (c0 := .slice a0 len cap) Try.underlying22 (show Try.prog.cellsOf 42 = 35 by kernel_rfl) (by omega) (fun _ _ _ h => wa_of_trod h) (by simpa [Value.cells] using hf)
 injection e with e1 e2 e3
 subst e1 e2 e3
 obtain ⟨l, e4, h3⟩ := rows_as h2
 exact ⟨l, e4 ▸ h1, h3⟩
set_option maxRecDepth 100000 in
theorem opened_int_ {H : Type} {enc : TypeId × Value → H} {W : World} {b : Nat} {v : Value} {d : DataW H} {p : List MemPlace}
  (hv : Value.okWide Try.prog W .any b 3 v) (h0 : DataW.Trod enc Try.prog W 0 (fun _ => true) true 3 v d p) : ∃ y : Int, v = .int .i64 y := by
 obtain ⟨x, rfl, rfl, rfl, _⟩ := open_int Try.underlying3 hv h0
 exact ⟨x, rfl⟩
end Go.Proofs.Ytponmfkddglopaa
