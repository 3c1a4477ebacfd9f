/-
  A slice of steps, opened. No walk here.
-/
import Derived.Test.YtjdglfjbfejcdaaDoorLOp
import Derived.Test.YtjdglfjbfejcdaaDoorLL
namespace Go.Proofs.YtjdglfjbfejcdaaDoor
open Go.ChangeShapes Go.WideShapes Go.ChangeAt Go.RowKit Go.Deep

set_option maxRecDepth 100000 in
/-- A step's cells. -/
theorem st_of_trod {H : Type} {enc : TypeId × Value → H} {W : World} {base : Nat} {sp : Nat → Bool} {held : Bool} {fuel : Nat} {cs : List Value} {x : DataW H × List MemPlace} (hf : DataW.trod enc Tryd.prog W base sp held fuel 33 cs = some x) :
    ∃ (y0 : Int) (y1 : Int) (y2 : Int) (s3 : List UInt8), cs = [.int .i64 y0, .int .i64 y1, .int .i64 y2, .string (ba s3)] ∧ (-9223372036854775808 ≤ y0 ∧ y0 ≤ 9223372036854775807) ∧ (-9223372036854775808 ≤ y1 ∧ y1 ≤ 9223372036854775807) ∧ (-9223372036854775808 ≤ y2 ∧ y2 ≤ 9223372036854775807) ∧ s3.length ≤ maxLen := by
  obtain ⟨xs, m, rfl, _, hl, hlen, hg⟩ := DataW.trod_struct Tryd.underlying33 hf
  have e4 : Tryd.prog.cellsOf 33 = 4 := by kernel_rfl
  have hcl : cs.length = 4 := by rw [e4] at hl; exact hl
  match cs, hcl with
  | [c0, c1, c2, c3], _ =>
    have hx : ∀ i, i < 4 → ∃ y, xs[i]? = some y := fun i hi => ⟨_, List.getElem?_eq_getElem (by have := hlen; simp at this; omega)⟩
    have g0 := hg 0 _ rfl
    obtain ⟨z0, hz0⟩ := hx 0 (by omega)
    rw [hz0] at g0
    have g1 := hg 1 _ rfl
    obtain ⟨z1, hz1⟩ := hx 1 (by omega)
    rw [hz1] at g1
    have g2 := hg 2 _ rfl
    obtain ⟨z2, hz2⟩ := hx 2 (by omega)
    rw [hz2] at g2
    have g3 := hg 3 _ rfl
    obtain ⟨z3, hz3⟩ := hx 3 (by omega)
    rw [hz3] at g3
    have k0 : Tryd.prog.cellsOf 2 = 1 := by kernel_rfl
    have k1 : Tryd.prog.cellsOf 3 = 1 := by kernel_rfl
    have k2 : Tryd.prog.cellsOf 9 = 1 := by kernel_rfl
    simp only [List.getElem_toArray, List.getElem_cons_zero, List.getElem_cons_succ] at g0 g1 g2 g3
    rw [k1] at g0
    rw [k0] at g1
    rw [k0] at g2
    rw [k2] at g3
    obtain ⟨v0, hv0, _, hw0⟩ := DataW.trod_int Tryd.underlying3 g0
    have d0 : c0 = .int .i64 v0 := by simpa using hv0
    obtain ⟨v1, hv1, _, hw1⟩ := DataW.trod_int Tryd.underlying2 g1
    have d1 : c1 = .int .i64 v1 := by simpa using hv1
    obtain ⟨v2, hv2, _, hw2⟩ := DataW.trod_int Tryd.underlying2 g2
    have d2 : c2 = .int .i64 v2 := by simpa using hv2
    obtain ⟨v3, hv3, _, hw3⟩ := DataW.trod_string Tryd.underlying9 g3
    have d3 : c3 = .string (ba v3.data.toList) := by rw [← ba_of v3]; simpa using hv3
    subst d0 d1 d2 d3
    exact ⟨v0, v1, v2, v3.data.toList, rfl, by simpa [Lit.wf, IntKind.min, IntKind.max, IntKind.signed, IntKind.bits] using hw0, by simpa [Lit.wf, IntKind.min, IntKind.max, IntKind.signed, IntKind.bits] using hw1, by simpa [Lit.wf, IntKind.min, IntKind.max, IntKind.signed, IntKind.bits] using hw2, by rw [← ba_size, ← ba_of v3]; exact hw3⟩

theorem Tryd.cells_st : Tryd.prog.cellsOf 33 = 4 := by kernel_rfl
set_option maxRecDepth 100000 in
/-- An argument of type []Step, nil or not. -/
theorem opened_steps {H : Type} {enc : TypeId × Value → H} {W : World} {a0 : Option Addr} {len cap : Nat} {d0 : DataW H} {p : List MemPlace}
    (h0 : DataW.Trod enc Tryd.prog W 0 (fun _ => true) true 31 (.slice a0 len cap) d0 p) : Sts W a0 len := by
  obtain ⟨fuel, hf⟩ := h0
  rcases open_slice Tryd.underlying31 hf with ⟨hcs, hx⟩ | ⟨a, len', cap', m, n, D, Pl, hcs, _, hl, hm, hmm, hx, hi⟩
  · simp [Value.cells] at hcs
    obtain ⟨rfl, rfl, rfl⟩ := hcs
    exact fun h => absurd h (by omega)
  · simp [Value.cells] at hcs
    obtain ⟨rfl, rfl, rfl⟩ := hcs
    simp only [if_true] at hmm
    subst hmm
    rw [Tryd.cells_st] at hi
    intro hn
    have key : ∀ i, i < len → ∃ op b c t, ∀ k u, (stC op b c t)[k]? = some u → W.cell? ((a.add (i * 4)).add k) = some u := fun i hil => by
      obtain ⟨cs', hc, ht⟩ := hi i (by omega)
      obtain ⟨_, hlen, hcell⟩ := World.cells?_some hc
      obtain ⟨y0, y1, y2, s3, rfl, _⟩ := st_of_trod ht
      refine ⟨y0, y1, y2, s3, fun k u hu => ?_⟩
      have hk : k < 4 := (List.getElem?_eq_some_iff.1 hu).1
      exact (hcell k hk).trans hu
    obtain ⟨b, o, s⟩ := a
    obtain ⟨_, _, _, _, k0⟩ := key 0 hn
    obtain rfl : s = none := by simpa [Addr.add] using World.cell?_spot (k0 0 _ rfl)
    refine ⟨b, o, rfl, fun i hil => ?_⟩
    obtain ⟨op, x, y, t, hk⟩ := key i hil
    refine ⟨op, x, y, t, fun j v hv => ?_⟩
    have h1 := hk j v hv
    rw [Go.WideShapes.add_plain, Go.WideShapes.add_plain] at h1
    exact h1

end Go.Proofs.YtjdglfjbfejcdaaDoor
