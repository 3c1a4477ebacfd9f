/-
  Joined: BaOp.
-/
import Derived.Test.YtkpgjcahmpekbaaSS13
import Derived.Test.YtkpgjcahmpekbaaSS15
namespace Go.Proofs.Ytkpgjcahmpekbaa
open Go.ChangeShapes Go.WideShapes Go.ChangeAt Go.RowKit Go.Deep

theorem Try.cells_ey : Try.prog.cellsOf 129 = 8 := by kernel_rfl
set_option maxRecDepth 100000 in
/-- An entry's cells. -/
theorem ey_of_trod {H : Type} {enc : TypeId × Value → H} {W : World} {base : Nat} {sp : Nat → Bool} {held : Bool} {fuel : Nat} {cs : List Value} {x : DataW H × List MemPlace} (hf : DataW.trod enc Try.prog W base sp held fuel 129 cs = some x) :
  ∃ y : Ey, cs = y.cells ∧ y.ms < 4294967296 ∧ y.In := by
 obtain ⟨xs, m, rfl, _, hl, hlen, hg⟩ := DataW.trod_struct Try.underlying129 hf
 have hcl : cs.length = 8 := by rw [Try.cells_ey] at hl; exact hl
 match cs, hcl with
 | [c0, c1, c2, c3, c4, c5, c6, c7], _ =>
  have hx : ∀ i, i < 2 → ∃ y, xs[i]? = some y := fun i hi => ⟨_, List.getElem?_eq_getElem (by have := hlen; simp at this; omega)⟩
  have g0 := hg 0 _ rfl
  obtain ⟨z0, hz0⟩ := hx 0 (by omega)
  rw [hz0] at g0
  have g1 := hg 1 _ rfl
  obtain ⟨z1, hz1⟩ := hx 1 (by omega)
  rw [hz1] at g1
  have k0 : Try.prog.cellsOf 126 = 7 := by kernel_rfl
  have k1 : Try.prog.cellsOf 127 = 1 := by kernel_rfl
  simp only [List.getElem_toArray, List.getElem_cons_zero, List.getElem_cons_succ] at g0 g1
  rw [k0] at g0
  rw [k1] at g1
  obtain ⟨y0, y1, y2, s3, y4, y5, s6, hcs, _, _, _, _, r4, r5, _⟩ := cr_of_trod g0
  obtain ⟨v7, hv7, _, hw7⟩ := DataW.trod_int Try.underlying127 g1
  have hb : 0 ≤ v7 ∧ v7 ≤ 4294967295 := by simpa [Lit.wf, IntKind.min, IntKind.max, IntKind.signed, IntKind.bits] using hw7
  have d7 : c7 = .int .u32 ((v7.toNat : Nat) : Int) := by
   rw [Int.toNat_of_nonneg hb.1]
   simpa using hv7
  refine ⟨⟨⟨y0, y1, y2, s3, y4, y5, s6⟩, v7.toNat⟩, ?_, by show v7.toNat < 4294967296; omega, ⟨r4, r5⟩⟩
  simp at hcs
  obtain ⟨rfl, rfl, rfl, rfl, rfl, rfl, rfl⟩ := hcs
  rw [d7]
  rfl
set_option maxRecDepth 100000 in
/-- A slice's cell among others, nil or not. -/
theorem sl_ey {H : Type} {enc : TypeId × Value → H} {W : World} {fuel : Nat} {c0 : Value} {x : DataW H × List MemPlace} (hf : DataW.trod enc Try.prog W 0 (fun _ => true) true fuel 68 [c0] = some x) :
  ∃ (A : Option Addr) (n c : Nat) (ls : List Ey), c0 = .slice A n c ∧ EysIn W A n ls ∧ (∀ y ∈ ls, y.In) ∧ n ≤ c ∧ c ≤ maxLen := by
 rcases DataW.trod_slice Try.underlying68 hf with ⟨hcs, _⟩ | ⟨a, len, cap, elems, rest, m', rfl, hcs, _, _, hle, hmx, hel, hin, _, _⟩
 ·have e2 : c0 = .slice none 0 0 := by simpa using hcs
  subst e2
  exact ⟨none, 0, 0, [], rfl, ⟨Sl.none_, fun _ h => nomatch h⟩, (fun _ h => nomatch h), Nat.le_refl _, Nat.zero_le _⟩
 ·have e2 : c0 = .slice (some a) len cap := by simpa using hcs
  subst e2
  rw [Try.cells_ey] at hin
  have all : ∀ i, ∃ z : Ey, i < len → ∃ cs', W.cells? 0 (a.add (i * 8)) 8 = some cs' ∧ cs' = z.cells ∧ z.ms < 4294967296 ∧ z.In := fun i => by
   by_cases hil : i < len
   ·have h1 := hin i hil
    rw [List.getElem?_eq_getElem (by omega)] at h1
    obtain ⟨cs', h2, h3⟩ := Option.bind_eq_some_iff.1 h1
    obtain ⟨y, h4, h5⟩ := ey_of_trod h3
    exact ⟨y, fun _ => ⟨cs', h2, h4, h5⟩⟩
   ·exact ⟨⟨Cr.no, 0⟩, fun h => absurd h hil⟩
  obtain ⟨z, hz⟩ := Classical.axiomOfChoice all
  refine ⟨some a, len, cap, (List.range len).map z, rfl, ⟨⟨by simp, fun hn => ?_⟩, fun y hy => by
   obtain ⟨i, hi, rfl⟩ := List.mem_map.1 hy
   obtain ⟨_, _, _, h9, _⟩ := hz i (by simpa using hi)
   exact h9⟩, (fun y hy => by
   obtain ⟨i, hi, rfl⟩ := List.mem_map.1 hy
   obtain ⟨_, _, _, _, h9⟩ := hz i (by simpa using hi)
   exact h9), by omega, by omega⟩
  have hcell : ∀ i, i < len → ∀ j v, (z i).cells[j]? = some v → W.cell? ((a.add (i * 8)).add j) = some v := fun i hi j v hv => by
   obtain ⟨cs', h1, h2, _⟩ := hz i hi
   obtain ⟨_, hlen', hc⟩ := World.cells?_some h1
   have hj : j < 8 := (List.getElem?_eq_some_iff.1 hv).1
   rw [hc j hj, h2]
   exact hv
  obtain ⟨b, o, s⟩ := a
  have hc0 := hcell 0 hn 0 _ rfl
  obtain rfl : s = none := by simpa [Addr.add] using World.cell?_spot hc0
  refine ⟨b, o, rfl, fun i cs hi => ?_⟩
  have hil : i < len := by
   have := (List.getElem?_eq_some_iff.1 hi).1
   simpa using this
  have ek : (z i).cells = cs := by simpa [hil] using hi
  subst ek
  intro j v hv
  have h1 := hcell i hil j v hv
  rw [Go.WideShapes.add_plain, Go.WideShapes.add_plain] at h1
  exact h1

end Go.Proofs.Ytkpgjcahmpekbaa
