/-
  What the rows list: the table of states, and that ErrSyntax holds an error; the laws' arguments, opened: a ledger, an entry, a slice of entries. No walk here.
-/
import Derived.Test.YtfflkodgojiklaaGreatDoorCoLW
import Derived.Test.YtfflkodgojiklaaGreatDoorTie
import Derived.Test.YtfflkodgojiklaaGreatDoorCards
import Derived.ProofKit
import Derived.LaidMore
import Derived.OpenShut
import Derived.Stop.Joined
import Derived.Stop.LaidErr
import Derived.Lib.LaidTab
import Derived.ChangeMaps5
import Derived.Deep.Slices
import Derived.Deep.Fields
namespace Go.Proofs.YtfflkodgojiklaaGreatDoor
open Go.ChangeShapes Go.WideShapes Go.ChangeAt Go.RowKit Go.Deep

theorem Tryz.own : ownKnob Tryz.prog.godebug = none := by kernel_rfl
theorem Tryz.laidOut : laidOutB Tryz.prog = true := by kernel_rfl
set_option maxRecDepth 100000 in
/-- An argument of type string. -/
theorem opened_str {H : Type} {enc : TypeId × Value → H} {W : World} {b : Nat} {v : Value} {d : DataW H} {p : List MemPlace}
    (hv : Value.okWide Tryz.prog W .any b 9 v) (h0 : DataW.Trod enc Tryz.prog W 0 (fun _ => true) true 9 v d p) : ∃ t : List UInt8, v = .string (ba t) ∧ t.length ≤ maxLen := by
  obtain ⟨s, rfl, _, _, hs⟩ := Go.ChangeMaps.open_string Tryz.underlying9 hv h0
  refine ⟨s.data.toList, by rw [← ba_of s], ?_⟩
  rw [← ba_size, ← ba_of s]
  exact hs
set_option maxRecDepth 100000 in
theorem opened_int {H : Type} {enc : TypeId × Value → H} {W : World} {b : Nat} {v : Value} {d : DataW H} {p : List MemPlace}
    (hv : Value.okWide Tryz.prog W .any b 3 v) (h0 : DataW.Trod enc Tryz.prog W 0 (fun _ => true) true 3 v d p) : ∃ y : Int, v = .int .i64 y ∧ -9223372036854775808 ≤ y ∧ y ≤ 9223372036854775807 := by
  obtain ⟨x, rfl, rfl, rfl, wx⟩ := open_int Tryz.underlying3 hv h0
  exact ⟨x, rfl, by simpa [Lit.wf, IntKind.min, IntKind.max, IntKind.signed, IntKind.bits] using wx⟩
set_option maxRecDepth 100000 in
/-- A letter's cells. -/
theorem lt_of_trod {H : Type} {enc : TypeId × Value → H} {W : World} {base : Nat} {sp : Nat → Bool} {held : Bool} {fuel : Nat} {cs : List Value} {x : DataW H × List MemPlace} (hf : DataW.trod enc Tryz.prog W base sp held fuel 39 cs = some x) :
    ∃ (s0 : List UInt8) (y1 : Int) (y2 : Int) (y3 : Int) (s4 : List UInt8) (s5 : List UInt8), cs = [.string (ba s0), .int .i64 y1, .int .i64 y2, .int .i64 y3, .string (ba s4), .string (ba s5)] ∧ s0.length ≤ maxLen ∧ (-9223372036854775808 ≤ y1 ∧ y1 ≤ 9223372036854775807) ∧ (-9223372036854775808 ≤ y2 ∧ y2 ≤ 9223372036854775807) ∧ (-9223372036854775808 ≤ y3 ∧ y3 ≤ 9223372036854775807) ∧ s4.length ≤ maxLen ∧ s5.length ≤ maxLen := by
  obtain ⟨xs, m, rfl, _, hl, hlen, hg⟩ := DataW.trod_struct Tryz.underlying39 hf
  have e6 : Tryz.prog.cellsOf 39 = 6 := by kernel_rfl
  have hcl : cs.length = 6 := by rw [e6] at hl; exact hl
  match cs, hcl with
  | [c0, c1, c2, c3, c4, c5], _ =>
    have hx : ∀ i, i < 6 → ∃ y, xs[i]? = some y := fun i hi => ⟨_, List.getElem?_eq_getElem (by have := hlen; simp at this; omega)⟩
    have g0 := hg 0 _ rfl
    obtain ⟨z0, hz0⟩ := hx 0 (by omega)
    rw [hz0] at g0
    have g1 := hg 1 _ rfl
    obtain ⟨z1, hz1⟩ := hx 1 (by omega)
    rw [hz1] at g1
    have g2 := hg 2 _ rfl
    obtain ⟨z2, hz2⟩ := hx 2 (by omega)
    rw [hz2] at g2
    have g3 := hg 3 _ rfl
    obtain ⟨z3, hz3⟩ := hx 3 (by omega)
    rw [hz3] at g3
    have g4 := hg 4 _ rfl
    obtain ⟨z4, hz4⟩ := hx 4 (by omega)
    rw [hz4] at g4
    have g5 := hg 5 _ rfl
    obtain ⟨z5, hz5⟩ := hx 5 (by omega)
    rw [hz5] at g5
    have k0 : Tryz.prog.cellsOf 2 = 1 := by kernel_rfl
    have k1 : Tryz.prog.cellsOf 3 = 1 := by kernel_rfl
    have k2 : Tryz.prog.cellsOf 9 = 1 := by kernel_rfl
    simp only [List.getElem_toArray, List.getElem_cons_zero, List.getElem_cons_succ] at g0 g1 g2 g3 g4 g5
    rw [k2] at g0
    rw [k1] at g1
    rw [k0] at g2
    rw [k0] at g3
    rw [k2] at g4
    rw [k2] at g5
    obtain ⟨v0, hv0, _, hw0⟩ := DataW.trod_string Tryz.underlying9 g0
    have d0 : c0 = .string (ba v0.data.toList) := by rw [← ba_of v0]; simpa using hv0
    obtain ⟨v1, hv1, _, hw1⟩ := DataW.trod_int Tryz.underlying3 g1
    have d1 : c1 = .int .i64 v1 := by simpa using hv1
    obtain ⟨v2, hv2, _, hw2⟩ := DataW.trod_int Tryz.underlying2 g2
    have d2 : c2 = .int .i64 v2 := by simpa using hv2
    obtain ⟨v3, hv3, _, hw3⟩ := DataW.trod_int Tryz.underlying2 g3
    have d3 : c3 = .int .i64 v3 := by simpa using hv3
    obtain ⟨v4, hv4, _, hw4⟩ := DataW.trod_string Tryz.underlying9 g4
    have d4 : c4 = .string (ba v4.data.toList) := by rw [← ba_of v4]; simpa using hv4
    obtain ⟨v5, hv5, _, hw5⟩ := DataW.trod_string Tryz.underlying9 g5
    have d5 : c5 = .string (ba v5.data.toList) := by rw [← ba_of v5]; simpa using hv5
    subst d0 d1 d2 d3 d4 d5
    exact ⟨v0.data.toList, v1, v2, v3, v4.data.toList, v5.data.toList, rfl, by rw [← ba_size, ← ba_of v0]; exact hw0, by simpa [Lit.wf, IntKind.min, IntKind.max, IntKind.signed, IntKind.bits] using hw1, by simpa [Lit.wf, IntKind.min, IntKind.max, IntKind.signed, IntKind.bits] using hw2, by simpa [Lit.wf, IntKind.min, IntKind.max, IntKind.signed, IntKind.bits] using hw3, by rw [← ba_size, ← ba_of v4]; exact hw4, by rw [← ba_size, ← ba_of v5]; exact hw5⟩
set_option maxRecDepth 100000 in
/-- An outcome's cells. -/
theorem oc_of_trod {H : Type} {enc : TypeId × Value → H} {W : World} {base : Nat} {sp : Nat → Bool} {held : Bool} {fuel : Nat} {cs : List Value} {x : DataW H × List MemPlace} (hf : DataW.trod enc Tryz.prog W base sp held fuel 56 cs = some x) :
    ∃ (y0 : Int) (y1 : Int) (y2 : Int), cs = [.int .i64 y0, .int .i64 y1, .int .i64 y2] ∧ (-9223372036854775808 ≤ y0 ∧ y0 ≤ 9223372036854775807) ∧ (-9223372036854775808 ≤ y1 ∧ y1 ≤ 9223372036854775807) ∧ (-9223372036854775808 ≤ y2 ∧ y2 ≤ 9223372036854775807) := by
  obtain ⟨xs, m, rfl, _, hl, hlen, hg⟩ := DataW.trod_struct Tryz.underlying56 hf
  have e3 : Tryz.prog.cellsOf 56 = 3 := by kernel_rfl
  have hcl : cs.length = 3 := by rw [e3] at hl; exact hl
  match cs, hcl with
  | [c0, c1, c2], _ =>
    have hx : ∀ i, i < 3 → ∃ y, xs[i]? = some y := fun i hi => ⟨_, List.getElem?_eq_getElem (by have := hlen; simp at this; omega)⟩
    have g0 := hg 0 _ rfl
    obtain ⟨z0, hz0⟩ := hx 0 (by omega)
    rw [hz0] at g0
    have g1 := hg 1 _ rfl
    obtain ⟨z1, hz1⟩ := hx 1 (by omega)
    rw [hz1] at g1
    have g2 := hg 2 _ rfl
    obtain ⟨z2, hz2⟩ := hx 2 (by omega)
    rw [hz2] at g2
    have k0 : Tryz.prog.cellsOf 34 = 1 := by kernel_rfl
    have k1 : Tryz.prog.cellsOf 2 = 1 := by kernel_rfl
    have k2 : Tryz.prog.cellsOf 3 = 1 := by kernel_rfl
    simp only [List.getElem_toArray, List.getElem_cons_zero, List.getElem_cons_succ] at g0 g1 g2
    rw [k2] at g0
    rw [k1] at g1
    rw [k0] at g2
    obtain ⟨v0, hv0, _, hw0⟩ := DataW.trod_int Tryz.underlying3 g0
    have d0 : c0 = .int .i64 v0 := by simpa using hv0
    obtain ⟨v1, hv1, _, hw1⟩ := DataW.trod_int Tryz.underlying2 g1
    have d1 : c1 = .int .i64 v1 := by simpa using hv1
    obtain ⟨v2, hv2, _, hw2⟩ := DataW.trod_int Tryz.underlying34 g2
    have d2 : c2 = .int .i64 v2 := by simpa using hv2
    subst d0 d1 d2
    exact ⟨v0, v1, v2, rfl, by simpa [Lit.wf, IntKind.min, IntKind.max, IntKind.signed, IntKind.bits] using hw0, by simpa [Lit.wf, IntKind.min, IntKind.max, IntKind.signed, IntKind.bits] using hw1, by simpa [Lit.wf, IntKind.min, IntKind.max, IntKind.signed, IntKind.bits] using hw2⟩
theorem Tryz.cells_lt : Tryz.prog.cellsOf 39 = 6 := by kernel_rfl
set_option maxRecDepth 100000 in
/-- A slice's cell among others, nil or not. -/
theorem sl_lt {H : Type} {enc : TypeId × Value → H} {W : World} {fuel : Nat} {c0 : Value} {x : DataW H × List MemPlace} (hf : DataW.trod enc Tryz.prog W 0 (fun _ => true) true fuel 22 [c0] = some x) :
    ∃ (A : Option Addr) (n c : Nat) (ls : List Lt), c0 = .slice A n c ∧ Sl W 6 A n (ls.map Lt.cells) ∧ n ≤ c ∧ c ≤ maxLen := by
  rcases DataW.trod_slice Tryz.underlying22 hf with ⟨hcs, _⟩ | ⟨a, len, cap, elems, rest, m', rfl, hcs, _, _, hle, hmx, hel, hin, _, _⟩
  · have e2 : c0 = .slice none 0 0 := by simpa using hcs
    subst e2
    exact ⟨none, 0, 0, [], rfl, Sl.none_, Nat.le_refl _, Nat.zero_le _⟩
  · have e2 : c0 = .slice (some a) len cap := by simpa using hcs
    subst e2
    rw [Tryz.cells_lt] at hin
    have all : ∀ i, ∃ z : Lt, i < len → ∃ cs', W.cells? 0 (a.add (i * 6)) 6 = some cs' ∧ cs' = z.cells := fun i => by
      by_cases hil : i < len
      · have h1 := hin i hil
        rw [List.getElem?_eq_getElem (by omega)] at h1
        obtain ⟨cs', h2, h3⟩ := Option.bind_eq_some_iff.1 h1
        obtain ⟨s0, y1, y2, y3, s4, s5, h4, _⟩ := lt_of_trod h3
        exact ⟨⟨s0, y1, y2, y3, s4, s5⟩, fun _ => ⟨cs', h2, h4⟩⟩
      · exact ⟨Lt.no, fun h => absurd h hil⟩
    obtain ⟨z, hz⟩ := Classical.axiomOfChoice all
    refine ⟨some a, len, cap, (List.range len).map z, rfl, ⟨by simp, fun hn => ?_⟩, by omega, by omega⟩
    have hcell : ∀ i, i < len → ∀ j v, (z i).cells[j]? = some v → W.cell? ((a.add (i * 6)).add j) = some v := fun i hi j v hv => by
      obtain ⟨cs', h1, h2⟩ := hz i hi
      obtain ⟨_, hlen', hc⟩ := World.cells?_some h1
      have hj : j < 6 := (List.getElem?_eq_some_iff.1 hv).1
      rw [hc j hj, h2]
      exact hv
    obtain ⟨b, o, s⟩ := a
    have hc0 := hcell 0 hn 0 _ rfl
    obtain rfl : s = none := by simpa [Addr.add] using World.cell?_spot hc0
    refine ⟨b, o, rfl, fun i cs hi => ?_⟩
    have hil : i < len := by
      have := (List.getElem?_eq_some_iff.1 hi).1
      simpa using this
    have ek : (z i).cells = cs := by simpa [hil] using hi
    subst ek
    intro j v hv
    have h1 := hcell i hil j v hv
    rw [Go.WideShapes.add_plain, Go.WideShapes.add_plain] at h1
    exact h1
theorem Tryz.cells_oc : Tryz.prog.cellsOf 56 = 3 := by kernel_rfl
set_option maxRecDepth 100000 in
/-- A slice's cell among others, nil or not. -/
theorem sl_oc {H : Type} {enc : TypeId × Value → H} {W : World} {fuel : Nat} {c0 : Value} {x : DataW H × List MemPlace} (hf : DataW.trod enc Tryz.prog W 0 (fun _ => true) true fuel 23 [c0] = some x) :
    ∃ (A : Option Addr) (n c : Nat) (ls : List Oc), c0 = .slice A n c ∧ Sl W 3 A n (ls.map Oc.cells) ∧ n ≤ c ∧ c ≤ maxLen := by
  rcases DataW.trod_slice Tryz.underlying23 hf with ⟨hcs, _⟩ | ⟨a, len, cap, elems, rest, m', rfl, hcs, _, _, hle, hmx, hel, hin, _, _⟩
  · have e2 : c0 = .slice none 0 0 := by simpa using hcs
    subst e2
    exact ⟨none, 0, 0, [], rfl, Sl.none_, Nat.le_refl _, Nat.zero_le _⟩
  · have e2 : c0 = .slice (some a) len cap := by simpa using hcs
    subst e2
    rw [Tryz.cells_oc] at hin
    have all : ∀ i, ∃ z : Oc, i < len → ∃ cs', W.cells? 0 (a.add (i * 3)) 3 = some cs' ∧ cs' = z.cells := fun i => by
      by_cases hil : i < len
      · have h1 := hin i hil
        rw [List.getElem?_eq_getElem (by omega)] at h1
        obtain ⟨cs', h2, h3⟩ := Option.bind_eq_some_iff.1 h1
        obtain ⟨y0, y1, y2, h4, _⟩ := oc_of_trod h3
        exact ⟨⟨y0, y1, y2⟩, fun _ => ⟨cs', h2, h4⟩⟩
      · exact ⟨Oc.no, fun h => absurd h hil⟩
    obtain ⟨z, hz⟩ := Classical.axiomOfChoice all
    refine ⟨some a, len, cap, (List.range len).map z, rfl, ⟨by simp, fun hn => ?_⟩, by omega, by omega⟩
    have hcell : ∀ i, i < len → ∀ j v, (z i).cells[j]? = some v → W.cell? ((a.add (i * 3)).add j) = some v := fun i hi j v hv => by
      obtain ⟨cs', h1, h2⟩ := hz i hi
      obtain ⟨_, hlen', hc⟩ := World.cells?_some h1
      have hj : j < 3 := (List.getElem?_eq_some_iff.1 hv).1
      rw [hc j hj, h2]
      exact hv
    obtain ⟨b, o, s⟩ := a
    have hc0 := hcell 0 hn 0 _ rfl
    obtain rfl : s = none := by simpa [Addr.add] using World.cell?_spot hc0
    refine ⟨b, o, rfl, fun i cs hi => ?_⟩
    have hil : i < len := by
      have := (List.getElem?_eq_some_iff.1 hi).1
      simpa using this
    have ek : (z i).cells = cs := by simpa [hil] using hi
    subst ek
    intro j v hv
    have h1 := hcell i hil j v hv
    rw [Go.WideShapes.add_plain, Go.WideShapes.add_plain] at h1
    exact h1
theorem Tryz.cells_lg : Tryz.prog.cellsOf 25 = 4 := by kernel_rfl
set_option maxRecDepth 100000 in
/-- An argument of type Ledger. -/
theorem opened_lg {H : Type} {enc : TypeId × Value → H} {W : World} {b : Nat} {v : Value} {d : DataW H} {p : List MemPlace} (hv : Value.okWide Tryz.prog W .any b 25 v)
    (h0 : DataW.Trod enc Tryz.prog W 0 (fun _ => true) true 25 v d p) : ∃ (l : Lg) (A : Option Addr) (n c : Nat) (B : Option Addr) (m d : Nat), v = l.val A n c B m d ∧ LgIn W A n B m l ∧ n ≤ c ∧ c ≤ maxLen ∧ m ≤ d ∧ d ≤ maxLen := by
  simp only [Value.okWide, Tryz.underlying25] at hv
  obtain ⟨cs, rfl, hsz, _⟩ := hv
  obtain ⟨fuel, hf⟩ := h0
  obtain ⟨xs, m, rfl, _, hl, hlen, hg⟩ := DataW.trod_struct Tryz.underlying25 hf
  have hcl : (Value.agg cs).cells.toList.length = 4 := by rw [Tryz.cells_lg] at hl; exact hl
  obtain ⟨cs⟩ := cs
  have e0 : (Value.agg ⟨cs⟩).cells.toList = cs := by simp [Value.cells]
  rw [e0] at hcl hg
  match cs, hcl with
  | [c0, c1, c2, c3], _ =>
    have hx : ∀ i, i < 4 → ∃ y, xs[i]? = some y := fun i hi => ⟨_, List.getElem?_eq_getElem (by have := hlen; simp at this; omega)⟩
    have g0 := hg 0 _ rfl
    obtain ⟨z0, hz0⟩ := hx 0 (by omega)
    rw [hz0] at g0
    have g1 := hg 1 _ rfl
    obtain ⟨z1, hz1⟩ := hx 1 (by omega)
    rw [hz1] at g1
    have g2 := hg 2 _ rfl
    obtain ⟨z2, hz2⟩ := hx 2 (by omega)
    rw [hz2] at g2
    have g3 := hg 3 _ rfl
    obtain ⟨z3, hz3⟩ := hx 3 (by omega)
    rw [hz3] at g3
    have k0 : Tryz.prog.cellsOf 2 = 1 := by kernel_rfl
    have k1 : Tryz.prog.cellsOf 22 = 1 := by kernel_rfl
    have k2 : Tryz.prog.cellsOf 23 = 1 := by kernel_rfl
    simp only [List.getElem_toArray, List.getElem_cons_zero, List.getElem_cons_succ] at g0 g1 g2 g3
    rw [k0] at g0 g1
    rw [k1] at g2
    rw [k2] at g3
    obtain ⟨v0, hv0, _, _⟩ := DataW.trod_int Tryz.underlying2 g0
    obtain ⟨v1, hv1, _, _⟩ := DataW.trod_int Tryz.underlying2 g1
    have d0 : c0 = .int .i64 v0 := by simpa using hv0
    have d1 : c1 = .int .i64 v1 := by simpa using hv1
    obtain ⟨A, n, c, ls, d2, h1, h2, h3⟩ := sl_lt (c0 := c2) (by simpa using g2)
    obtain ⟨B, m2, d, os, d3, h4, h5, h6⟩ := sl_oc (c0 := c3) (by simpa using g3)
    subst d0 d1 d2 d3
    exact ⟨⟨v0, v1, ls, os⟩, A, n, c, B, m2, d, rfl, ⟨h1, h4⟩, h2, h3, h5, h6⟩
set_option maxRecDepth 100000 in
/-- A core's cells. -/
theorem cr_of_trod {H : Type} {enc : TypeId × Value → H} {W : World} {base : Nat} {sp : Nat → Bool} {held : Bool} {fuel : Nat} {cs : List Value} {x : DataW H × List MemPlace} (hf : DataW.trod enc Tryz.prog W base sp held fuel 27 cs = some x) :
    ∃ (y0 : Int) (y1 : Int) (y2 : Int) (s3 : List UInt8) (y4 : Int) (y5 : Int) (s6 : List UInt8), cs = [.int .i64 y0, .int .i64 y1, .int .i64 y2, .string (ba s3), .int .i64 y4, .int .i64 y5, .string (ba s6)] ∧ (-9223372036854775808 ≤ y0 ∧ y0 ≤ 9223372036854775807) ∧ (-9223372036854775808 ≤ y1 ∧ y1 ≤ 9223372036854775807) ∧ (-9223372036854775808 ≤ y2 ∧ y2 ≤ 9223372036854775807) ∧ s3.length ≤ maxLen ∧ (-9223372036854775808 ≤ y4 ∧ y4 ≤ 9223372036854775807) ∧ (-9223372036854775808 ≤ y5 ∧ y5 ≤ 9223372036854775807) ∧ s6.length ≤ maxLen := by
  obtain ⟨xs, m, rfl, _, hl, hlen, hg⟩ := DataW.trod_struct Tryz.underlying27 hf
  have e7 : Tryz.prog.cellsOf 27 = 7 := by kernel_rfl
  have hcl : cs.length = 7 := by rw [e7] at hl; exact hl
  match cs, hcl with
  | [c0, c1, c2, c3, c4, c5, c6], _ =>
    have hx : ∀ i, i < 7 → ∃ y, xs[i]? = some y := fun i hi => ⟨_, List.getElem?_eq_getElem (by have := hlen; simp at this; omega)⟩
    have g0 := hg 0 _ rfl
    obtain ⟨z0, hz0⟩ := hx 0 (by omega)
    rw [hz0] at g0
    have g1 := hg 1 _ rfl
    obtain ⟨z1, hz1⟩ := hx 1 (by omega)
    rw [hz1] at g1
    have g2 := hg 2 _ rfl
    obtain ⟨z2, hz2⟩ := hx 2 (by omega)
    rw [hz2] at g2
    have g3 := hg 3 _ rfl
    obtain ⟨z3, hz3⟩ := hx 3 (by omega)
    rw [hz3] at g3
    have g4 := hg 4 _ rfl
    obtain ⟨z4, hz4⟩ := hx 4 (by omega)
    rw [hz4] at g4
    have g5 := hg 5 _ rfl
    obtain ⟨z5, hz5⟩ := hx 5 (by omega)
    rw [hz5] at g5
    have g6 := hg 6 _ rfl
    obtain ⟨z6, hz6⟩ := hx 6 (by omega)
    rw [hz6] at g6
    have k0 : Tryz.prog.cellsOf 2 = 1 := by kernel_rfl
    have k1 : Tryz.prog.cellsOf 3 = 1 := by kernel_rfl
    have k2 : Tryz.prog.cellsOf 9 = 1 := by kernel_rfl
    simp only [List.getElem_toArray, List.getElem_cons_zero, List.getElem_cons_succ] at g0 g1 g2 g3 g4 g5 g6
    rw [k1] at g0
    rw [k0] at g1
    rw [k1] at g2
    rw [k2] at g3
    rw [k0] at g4
    rw [k0] at g5
    rw [k2] at g6
    obtain ⟨v0, hv0, _, hw0⟩ := DataW.trod_int Tryz.underlying3 g0
    have d0 : c0 = .int .i64 v0 := by simpa using hv0
    obtain ⟨v1, hv1, _, hw1⟩ := DataW.trod_int Tryz.underlying2 g1
    have d1 : c1 = .int .i64 v1 := by simpa using hv1
    obtain ⟨v2, hv2, _, hw2⟩ := DataW.trod_int Tryz.underlying3 g2
    have d2 : c2 = .int .i64 v2 := by simpa using hv2
    obtain ⟨v3, hv3, _, hw3⟩ := DataW.trod_string Tryz.underlying9 g3
    have d3 : c3 = .string (ba v3.data.toList) := by rw [← ba_of v3]; simpa using hv3
    obtain ⟨v4, hv4, _, hw4⟩ := DataW.trod_int Tryz.underlying2 g4
    have d4 : c4 = .int .i64 v4 := by simpa using hv4
    obtain ⟨v5, hv5, _, hw5⟩ := DataW.trod_int Tryz.underlying2 g5
    have d5 : c5 = .int .i64 v5 := by simpa using hv5
    obtain ⟨v6, hv6, _, hw6⟩ := DataW.trod_string Tryz.underlying9 g6
    have d6 : c6 = .string (ba v6.data.toList) := by rw [← ba_of v6]; simpa using hv6
    subst d0 d1 d2 d3 d4 d5 d6
    exact ⟨v0, v1, v2, v3.data.toList, v4, v5, v6.data.toList, rfl, by simpa [Lit.wf, IntKind.min, IntKind.max, IntKind.signed, IntKind.bits] using hw0, by simpa [Lit.wf, IntKind.min, IntKind.max, IntKind.signed, IntKind.bits] using hw1, by simpa [Lit.wf, IntKind.min, IntKind.max, IntKind.signed, IntKind.bits] using hw2, by rw [← ba_size, ← ba_of v3]; exact hw3, by simpa [Lit.wf, IntKind.min, IntKind.max, IntKind.signed, IntKind.bits] using hw4, by simpa [Lit.wf, IntKind.min, IntKind.max, IntKind.signed, IntKind.bits] using hw5, by rw [← ba_size, ← ba_of v6]; exact hw6⟩
theorem Tryz.gLeads : Tryz.prog.globalNamed "bottomry/letter.leads" = some 0 := by kernel_rfl
theorem Tryz.tLeads : (Tryz.prog.globals[0]?).map (·.type) = some 124 := by kernel_rfl
theorem Tryz.cells_row : Tryz.prog.cellsOf 123 = 8 := by kernel_rfl
theorem Tryz.cells_int : Tryz.prog.cellsOf 3 = 1 := by kernel_rfl
/-- The table's rows. -/
def leadsR : List (List Int) := (List.range 10).map fun i => (leadsT.drop (i * 8)).take 8
theorem leads_rows : (Rows.laid_bottomry_letter_leads : DataW Unit) = .agg (leadsR.map fun r => Lib.tabData .i64 r) := by kernel_rfl
theorem leads_at (i : Nat) (hi : i < 80) : ∃ r, leadsR[i / 8]? = some r ∧ r.length = 8 ∧ r[i % 8]? = some (leadsT.getD i 0) := by
  have h : ∀ i : Fin 80, (leadsR[i.val / 8]?.map fun r => (r.length, r[i.val % 8]?)) = some (8, some (leadsT.getD i.val 0)) := by decide +kernel
  obtain ⟨r, h1, h2⟩ := Option.map_eq_some_iff.1 (h ⟨i, hi⟩)
  simp only [Prod.mk.injEq] at h2
  exact ⟨r, h1, h2.1, h2.2⟩
/-- What the rows list. -/
noncomputable def laid14 : List (String × DataW Unit) := Rows.contractMetRow.laid
/-- WHAT THE CONDITION GIVES THE WALKS. -/
theorem led_of {W : World} (h : laidMetH Tryz.prog laid14 W) : Led W := by
  rw [MakeChecks.laidMetH_plain _ _ _ (by kernel_rfl)] at h
  have h0 : laidMet Tryz.prog (("bottomry/letter.leads", Rows.laid_bottomry_letter_leads) :: laid14.tail) W := h
  clear h
  rw [leads_rows] at h0
  obtain ⟨ps, ⟨g', t', cs, fuel, p, q, hg', ht', hvar, hd, _, _⟩, _⟩ := h0
  obtain rfl := Option.some.inj (Tryz.gLeads.symm.trans hg')
  obtain rfl := Option.some.inj (Tryz.tLeads.symm.trans ht')
  obtain ⟨xs, m, rfl, hx, hl, hn, hi⟩ := DataW.trod_array Tryz.underlying124 hd
  rw [Tryz.cells_row] at hi
  intro i h80
  obtain ⟨r, hr, hrl, hri⟩ := leads_at i h80
  have h10 : i / 8 < 10 := by omega
  have h1 := hi (i / 8) h10
  have hxs : xs.map (·.1) = leadsR.map fun r => Lib.tabData .i64 r := by
    have := congrArg Prod.fst hx
    simpa using this.symm
  have h2 : (xs.map (·.1))[i / 8]? = some (Lib.tabData .i64 r) := by rw [hxs, List.getElem?_map, hr]; rfl
  rw [List.getElem?_map, Option.map_eq_some_iff] at h2
  obtain ⟨⟨d, pl⟩, h3, rfl⟩ := h2
  rw [h3] at h1
  have h4 := Lib.cells_of_tab Tryz.underlying123 Tryz.underlying3 Tryz.cells_int Tryz.cells_row h1
  have h5 : cs.toList[i]? = some (.int .i64 (leadsT.getD i 0)) := by
    have h6 := congrArg (·[i % 8]?) h4
    simp only [List.getElem?_map, hri, Option.map_some] at h6
    rw [List.getElem?_take, if_pos (by omega), List.getElem?_drop] at h6
    rw [show i / 8 * 8 + i % 8 = i by omega] at h6
    exact h6
  have h7 := World.var?_cell Tryz.gLeads hvar i
  rw [h7]
  simpa using h5
set_option maxRecDepth 100000 in
theorem Tryz.cells_es : Tryz.prog.cellsOf 168 = 1 := by kernel_rfl
set_option maxRecDepth 100000 in
theorem Tryz.cells_str : Tryz.prog.cellsOf 9 = 1 := by kernel_rfl
set_option maxRecDepth 100000 in
theorem Tryz.gES : Tryz.prog.globalNamed "strconv.ErrSyntax" = some 1 := by kernel_rfl
set_option maxRecDepth 100000 in
theorem Tryz.tES : (Tryz.prog.globals[1]?).map (·.type) = some 140 := by kernel_rfl
set_option maxRecDepth 100000 in
theorem Tryz.star : "*" ++ "errors.errorString" = "*errors.errorString" := by decide
set_option maxRecDepth 100000 in
/-- The one type of that name. -/
theorem Tryz.rowES (u : TypeId) (h : Tryz.prog.typeName? 3 u = some "*errors.errorString") : u = 166 :=
  typeName_ptr_named (nm := "errors.errorString") (by rw [Tryz.star]; kernel_rfl) (by kernel_rfl) (by decide) u (by rw [Tryz.star]; exact h)
set_option maxRecDepth 100000 in
/-- WHAT THE CONDITION GIVES THE WALKS. -/
theorem ev_of {W : World} (h : laidMetH Tryz.prog laid14 W) : EV W := by
  rw [MakeChecks.laidMetH_plain _ _ _ (by kernel_rfl)] at h
  have h1 : laidMet Tryz.prog ([Rows.contractMetRow.laid.getLast!]) W := laidMet.tail (laidMet.tail (laidMet.tail (laidMet.tail (laidMet.tail (show laidMet Tryz.prog (_ :: _ :: _ :: _ :: _ :: [Rows.contractMetRow.laid.getLast!]) W from h)))))
  obtain ⟨a, s, hv, _, _, _⟩ := laid_sentinel (show laidMet Tryz.prog (("strconv.ErrSyntax", .iface "*errors.errorString" (.ptr (.agg [.lit (.string [105, 110, 118, 97, 108, 105, 100, 32, 115, 121, 110, 116, 97, 120])]))) :: []) W from h1) Tryz.gES Tryz.tES Tryz.underlying140 Tryz.rowES Tryz.underlying166 Tryz.underlying168 rfl rfl Tryz.underlying9 Tryz.cells_es Tryz.cells_str
  exact ⟨_, _, by have h0 := World.var?_cell Tryz.gES hv 0; simpa using h0⟩
set_option maxRecDepth 100000 in
/-- The door's own heap meets the condition. -/
theorem door_met (os : Go.Os) (args : Array Value) : laidMetH Tryz.prog laid14 ((World.doorLaid Tryz.prog 400 os).forCall (fun _ _ => 0) ⟨#[], args, []⟩).memory :=
  laidMetH_of_parts3 (fuel := 8) (laidMet_of_run' 8 (by kernel_rfl) (by kernel_rfl)) (by kernel_rfl) (by kernel_rfl)

theorem Tryz.cells_ey : Tryz.prog.cellsOf 30 = 8 := by kernel_rfl
set_option maxRecDepth 100000 in
/-- An entry's cells. -/
theorem ey_of_trod {H : Type} {enc : TypeId × Value → H} {W : World} {base : Nat} {sp : Nat → Bool} {held : Bool} {fuel : Nat} {cs : List Value} {x : DataW H × List MemPlace} (hf : DataW.trod enc Tryz.prog W base sp held fuel 30 cs = some x) :
    ∃ y : Ey, cs = y.cells ∧ y.ms < 4294967296 := by
  obtain ⟨xs, m, rfl, _, hl, hlen, hg⟩ := DataW.trod_struct Tryz.underlying30 hf
  have hcl : cs.length = 8 := by rw [Tryz.cells_ey] at hl; exact hl
  match cs, hcl with
  | [c0, c1, c2, c3, c4, c5, c6, c7], _ =>
    have hx : ∀ i, i < 2 → ∃ y, xs[i]? = some y := fun i hi => ⟨_, List.getElem?_eq_getElem (by have := hlen; simp at this; omega)⟩
    have g0 := hg 0 _ rfl
    obtain ⟨z0, hz0⟩ := hx 0 (by omega)
    rw [hz0] at g0
    have g1 := hg 1 _ rfl
    obtain ⟨z1, hz1⟩ := hx 1 (by omega)
    rw [hz1] at g1
    have k0 : Tryz.prog.cellsOf 27 = 7 := by kernel_rfl
    have k1 : Tryz.prog.cellsOf 28 = 1 := by kernel_rfl
    simp only [List.getElem_toArray, List.getElem_cons_zero, List.getElem_cons_succ] at g0 g1
    rw [k0] at g0
    rw [k1] at g1
    obtain ⟨y0, y1, y2, s3, y4, y5, s6, hcs, _⟩ := cr_of_trod g0
    obtain ⟨v7, hv7, _, hw7⟩ := DataW.trod_int Tryz.underlying28 g1
    have hb : 0 ≤ v7 ∧ v7 ≤ 4294967295 := by simpa [Lit.wf, IntKind.min, IntKind.max, IntKind.signed, IntKind.bits] using hw7
    have d7 : c7 = .int .u32 ((v7.toNat : Nat) : Int) := by
      rw [Int.toNat_of_nonneg hb.1]
      simpa using hv7
    refine ⟨⟨⟨y0, y1, y2, s3, y4, y5, s6⟩, v7.toNat⟩, ?_, by show v7.toNat < 4294967296; omega⟩
    simp at hcs
    obtain ⟨rfl, rfl, rfl, rfl, rfl, rfl, rfl⟩ := hcs
    rw [d7]
    rfl
set_option maxRecDepth 100000 in
/-- An argument of type Entry. -/
theorem opened_ey {H : Type} {enc : TypeId × Value → H} {W : World} {b : Nat} {v : Value} {d : DataW H} {p : List MemPlace} (hv : Value.okWide Tryz.prog W .any b 30 v)
    (h0 : DataW.Trod enc Tryz.prog W 0 (fun _ => true) true 30 v d p) : ∃ y : Ey, v = .agg y.cells.toArray ∧ y.ms < 4294967296 := by
  simp only [Value.okWide, Tryz.underlying30] at hv
  obtain ⟨cs, rfl, hsz, _⟩ := hv
  obtain ⟨fuel, hf⟩ := h0
  obtain ⟨y, hcs, hb⟩ := ey_of_trod hf
  refine ⟨y, ?_, hb⟩
  obtain ⟨cs⟩ := cs
  have h3 : cs = y.cells := by simpa [Value.cells] using hcs
  rw [h3]
set_option maxRecDepth 100000 in
/-- A slice's cell among others, nil or not. -/
theorem sl_ey {H : Type} {enc : TypeId × Value → H} {W : World} {fuel : Nat} {c0 : Value} {x : DataW H × List MemPlace} (hf : DataW.trod enc Tryz.prog W 0 (fun _ => true) true fuel 33 [c0] = some x) :
    ∃ (A : Option Addr) (n c : Nat) (ls : List Ey), c0 = .slice A n c ∧ EysIn W A n ls ∧ n ≤ c ∧ c ≤ maxLen := by
  rcases DataW.trod_slice Tryz.underlying33 hf with ⟨hcs, _⟩ | ⟨a, len, cap, elems, rest, m', rfl, hcs, _, _, hle, hmx, hel, hin, _, _⟩
  · have e2 : c0 = .slice none 0 0 := by simpa using hcs
    subst e2
    exact ⟨none, 0, 0, [], rfl, ⟨Sl.none_, fun _ h => nomatch h⟩, Nat.le_refl _, Nat.zero_le _⟩
  · have e2 : c0 = .slice (some a) len cap := by simpa using hcs
    subst e2
    rw [Tryz.cells_ey] at hin
    have all : ∀ i, ∃ z : Ey, i < len → ∃ cs', W.cells? 0 (a.add (i * 8)) 8 = some cs' ∧ cs' = z.cells ∧ z.ms < 4294967296 := fun i => by
      by_cases hil : i < len
      · have h1 := hin i hil
        rw [List.getElem?_eq_getElem (by omega)] at h1
        obtain ⟨cs', h2, h3⟩ := Option.bind_eq_some_iff.1 h1
        obtain ⟨y, h4, h5⟩ := ey_of_trod h3
        exact ⟨y, fun _ => ⟨cs', h2, h4, h5⟩⟩
      · exact ⟨⟨Cr.no, 0⟩, fun h => absurd h hil⟩
    obtain ⟨z, hz⟩ := Classical.axiomOfChoice all
    refine ⟨some a, len, cap, (List.range len).map z, rfl, ⟨⟨by simp, fun hn => ?_⟩, fun y hy => by
      obtain ⟨i, hi, rfl⟩ := List.mem_map.1 hy
      obtain ⟨_, _, _, h9⟩ := hz i (by simpa using hi)
      exact h9⟩, by omega, by omega⟩
    have hcell : ∀ i, i < len → ∀ j v, (z i).cells[j]? = some v → W.cell? ((a.add (i * 8)).add j) = some v := fun i hi j v hv => by
      obtain ⟨cs', h1, h2, _⟩ := hz i hi
      obtain ⟨_, hlen', hc⟩ := World.cells?_some h1
      have hj : j < 8 := (List.getElem?_eq_some_iff.1 hv).1
      rw [hc j hj, h2]
      exact hv
    obtain ⟨b, o, s⟩ := a
    have hc0 := hcell 0 hn 0 _ rfl
    obtain rfl : s = none := by simpa [Addr.add] using World.cell?_spot hc0
    refine ⟨b, o, rfl, fun i cs hi => ?_⟩
    have hil : i < len := by
      have := (List.getElem?_eq_some_iff.1 hi).1
      simpa using this
    have ek : (z i).cells = cs := by simpa [hil] using hi
    subst ek
    intro j v hv
    have h1 := hcell i hil j v hv
    rw [Go.WideShapes.add_plain, Go.WideShapes.add_plain] at h1
    exact h1

set_option maxRecDepth 100000 in
/-- An argument of type []Entry. -/
theorem opened_eys {H : Type} {enc : TypeId × Value → H} {W : World} {a0 : Option Addr} {len cap : Nat} {d0 : DataW H} {p : List MemPlace}
    (h0 : DataW.Trod enc Tryz.prog W 0 (fun _ => true) true 33 (.slice a0 len cap) d0 p) : ∃ es : List Ey, EysIn W a0 len es ∧ len ≤ cap ∧ cap ≤ maxLen := by
  obtain ⟨fuel, hf⟩ := h0
  obtain ⟨A, n, c, ls, e, h1, h2, h3⟩ := sl_ey (c0 := .slice a0 len cap) (by simpa [Value.cells] using hf)
  injection e with e1 e2 e3
  subst e1 e2 e3
  exact ⟨ls, h1, h2, h3⟩

end Go.Proofs.YtfflkodgojiklaaGreatDoor
