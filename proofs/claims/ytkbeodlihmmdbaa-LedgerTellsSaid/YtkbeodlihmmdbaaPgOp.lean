/-
  The laws' arguments, opened: bytes, a text, numbers, a letter, an outcome, a ledger. No walk here.
-/
import Derived.Test.YtkbeodlihmmdbaaLgM
import Derived.Test.YtkbeodlihmmdbaaMem
import Derived.ProofKit
import Derived.OpenShut
import Derived.ChangeMaps5
import Derived.Deep.Slices
import Derived.Deep.Fields
namespace Go.Proofs.Ytkbeodlihmmdbaa
open Go.ChangeShapes Go.WideShapes Go.ChangeAt Go.RowKit Go.Deep

theorem Try.own : ownKnob Try.prog.godebug = none := by kernel_rfl
theorem Try.laidOut : laidOutB Try.prog = true := by kernel_rfl
theorem Try.cells_u8 : Try.prog.cellsOf 5 = 1 := by kernel_rfl

set_option maxRecDepth 100000 in
/-- An argument of type []byte, nil or not, reads as bytes. -/
theorem opened_by {H : Type} {enc : TypeId × Value → H} {W : World} {a0 : Option Addr} {len cap : Nat} {d0 : DataW H} {p : List MemPlace}
    (h0 : DataW.Trod enc Try.prog W 0 (fun _ => true) true 43 (.slice a0 len cap) d0 p) :
    ∃ xs : List UInt8, By W (fun _ => True) a0 len xs ∧ len ≤ cap ∧ cap ≤ maxLen := by
  obtain ⟨fuel, hf⟩ := h0
  rcases open_ints Try.underlying43 Try.underlying5 Try.cells_u8 hf with ⟨hcs, hx⟩ | ⟨a, len', cap', zs, hcs, _, hl, hm, hz, hx, hcell, hwz⟩
  · simp [Value.cells] at hcs
    obtain ⟨rfl, rfl, rfl⟩ := hcs
    exact ⟨[], By.none_, Nat.le_refl _, Nat.zero_le _⟩
  · simp [Value.cells] at hcs
    obtain ⟨rfl, rfl, rfl⟩ := hcs
    simp only [if_true] at hz
    refine ⟨(zs.take len).map fun x => UInt8.ofNat x.toNat, ⟨by simp; omega, fun hn => ?_⟩, by omega, by omega⟩
    obtain ⟨b, o, s⟩ := a
    obtain rfl : s = none := by simpa [Addr.add] using World.cell?_spot (hcell 0 (by omega))
    refine ⟨b, o, rfl, trivial, fun j u hu => ?_⟩
    have hj : j < len := by
      have := (List.getElem?_eq_some_iff.1 hu).1
      simp at this
      omega
    have hjz : j < zs.length := by omega
    have e := hcell j (by omega)
    rw [Go.WideShapes.add_plain] at e
    rw [e]
    have hw := hwz zs[j] (List.getElem_mem _)
    have hb : 0 ≤ zs[j] ∧ zs[j] ≤ 255 := by simpa [Lit.wf, IntKind.min, IntKind.max, IntKind.signed, IntKind.bits] using hw
    simp [hj, hjz] at hu
    subst hu
    simp [List.getD, hjz, u8]
    omega

set_option maxRecDepth 100000 in
/-- An argument of type string. -/
theorem opened_str {H : Type} {enc : TypeId × Value → H} {W : World} {b : Nat} {v : Value} {d : DataW H} {p : List MemPlace}
    (hv : Value.okWide Try.prog W .any b 9 v) (h0 : DataW.Trod enc Try.prog W 0 (fun _ => true) true 9 v d p) : ∃ t : List UInt8, v = .string (ba t) ∧ t.length ≤ maxLen := by
  obtain ⟨s, rfl, _, _, hs⟩ := Go.ChangeMaps.open_string Try.underlying9 hv h0
  refine ⟨s.data.toList, by rw [← ba_of s], ?_⟩
  rw [← ba_size, ← ba_of s]
  exact hs
set_option maxRecDepth 100000 in
theorem opened_int {H : Type} {enc : TypeId × Value → H} {W : World} {b : Nat} {v : Value} {d : DataW H} {p : List MemPlace}
    (hv : Value.okWide Try.prog W .any b 3 v) (h0 : DataW.Trod enc Try.prog W 0 (fun _ => true) true 3 v d p) : ∃ y : Int, v = .int .i64 y ∧ -9223372036854775808 ≤ y ∧ y ≤ 9223372036854775807 := by
  obtain ⟨x, rfl, rfl, rfl, wx⟩ := open_int Try.underlying3 hv h0
  exact ⟨x, rfl, by simpa [Lit.wf, IntKind.min, IntKind.max, IntKind.signed, IntKind.bits] using wx⟩
set_option maxRecDepth 100000 in
/-- A letter's cells. -/
theorem lt_of_trod {H : Type} {enc : TypeId × Value → H} {W : World} {base : Nat} {sp : Nat → Bool} {held : Bool} {fuel : Nat} {cs : List Value} {x : DataW H × List MemPlace} (hf : DataW.trod enc Try.prog W base sp held fuel 27 cs = some x) :
    ∃ (s0 : List UInt8) (y1 : Int) (y2 : Int) (y3 : Int) (s4 : List UInt8) (s5 : List UInt8), cs = [.string (ba s0), .int .i64 y1, .int .i64 y2, .int .i64 y3, .string (ba s4), .string (ba s5)] ∧ s0.length ≤ maxLen ∧ (-9223372036854775808 ≤ y1 ∧ y1 ≤ 9223372036854775807) ∧ (-9223372036854775808 ≤ y2 ∧ y2 ≤ 9223372036854775807) ∧ (-9223372036854775808 ≤ y3 ∧ y3 ≤ 9223372036854775807) ∧ s4.length ≤ maxLen ∧ s5.length ≤ maxLen := by
  obtain ⟨xs, m, rfl, _, hl, hlen, hg⟩ := DataW.trod_struct Try.underlying27 hf
  have e6 : Try.prog.cellsOf 27 = 6 := by kernel_rfl
  have hcl : cs.length = 6 := by rw [e6] at hl; exact hl
  match cs, hcl with
  | [c0, c1, c2, c3, c4, c5], _ =>
    have hx : ∀ i, i < 6 → ∃ y, xs[i]? = some y := fun i hi => ⟨_, List.getElem?_eq_getElem (by have := hlen; simp at this; omega)⟩
    have g0 := hg 0 _ rfl
    obtain ⟨z0, hz0⟩ := hx 0 (by omega)
    rw [hz0] at g0
    have g1 := hg 1 _ rfl
    obtain ⟨z1, hz1⟩ := hx 1 (by omega)
    rw [hz1] at g1
    have g2 := hg 2 _ rfl
    obtain ⟨z2, hz2⟩ := hx 2 (by omega)
    rw [hz2] at g2
    have g3 := hg 3 _ rfl
    obtain ⟨z3, hz3⟩ := hx 3 (by omega)
    rw [hz3] at g3
    have g4 := hg 4 _ rfl
    obtain ⟨z4, hz4⟩ := hx 4 (by omega)
    rw [hz4] at g4
    have g5 := hg 5 _ rfl
    obtain ⟨z5, hz5⟩ := hx 5 (by omega)
    rw [hz5] at g5
    have k0 : Try.prog.cellsOf 2 = 1 := by kernel_rfl
    have k1 : Try.prog.cellsOf 3 = 1 := by kernel_rfl
    have k2 : Try.prog.cellsOf 9 = 1 := by kernel_rfl
    simp only [List.getElem_toArray, List.getElem_cons_zero, List.getElem_cons_succ] at g0 g1 g2 g3 g4 g5
    rw [k2] at g0
    rw [k1] at g1
    rw [k0] at g2
    rw [k0] at g3
    rw [k2] at g4
    rw [k2] at g5
    obtain ⟨v0, hv0, _, hw0⟩ := DataW.trod_string Try.underlying9 g0
    have d0 : c0 = .string (ba v0.data.toList) := by rw [← ba_of v0]; simpa using hv0
    obtain ⟨v1, hv1, _, hw1⟩ := DataW.trod_int Try.underlying3 g1
    have d1 : c1 = .int .i64 v1 := by simpa using hv1
    obtain ⟨v2, hv2, _, hw2⟩ := DataW.trod_int Try.underlying2 g2
    have d2 : c2 = .int .i64 v2 := by simpa using hv2
    obtain ⟨v3, hv3, _, hw3⟩ := DataW.trod_int Try.underlying2 g3
    have d3 : c3 = .int .i64 v3 := by simpa using hv3
    obtain ⟨v4, hv4, _, hw4⟩ := DataW.trod_string Try.underlying9 g4
    have d4 : c4 = .string (ba v4.data.toList) := by rw [← ba_of v4]; simpa using hv4
    obtain ⟨v5, hv5, _, hw5⟩ := DataW.trod_string Try.underlying9 g5
    have d5 : c5 = .string (ba v5.data.toList) := by rw [← ba_of v5]; simpa using hv5
    subst d0 d1 d2 d3 d4 d5
    exact ⟨v0.data.toList, v1, v2, v3, v4.data.toList, v5.data.toList, rfl, by rw [← ba_size, ← ba_of v0]; exact hw0, by simpa [Lit.wf, IntKind.min, IntKind.max, IntKind.signed, IntKind.bits] using hw1, by simpa [Lit.wf, IntKind.min, IntKind.max, IntKind.signed, IntKind.bits] using hw2, by simpa [Lit.wf, IntKind.min, IntKind.max, IntKind.signed, IntKind.bits] using hw3, by rw [← ba_size, ← ba_of v4]; exact hw4, by rw [← ba_size, ← ba_of v5]; exact hw5⟩

set_option maxRecDepth 100000 in
/-- An outcome's cells. -/
theorem oc_of_trod {H : Type} {enc : TypeId × Value → H} {W : World} {base : Nat} {sp : Nat → Bool} {held : Bool} {fuel : Nat} {cs : List Value} {x : DataW H × List MemPlace} (hf : DataW.trod enc Try.prog W base sp held fuel 30 cs = some x) :
    ∃ (y0 : Int) (y1 : Int) (y2 : Int), cs = [.int .i64 y0, .int .i64 y1, .int .i64 y2] ∧ (-9223372036854775808 ≤ y0 ∧ y0 ≤ 9223372036854775807) ∧ (-9223372036854775808 ≤ y1 ∧ y1 ≤ 9223372036854775807) ∧ (-9223372036854775808 ≤ y2 ∧ y2 ≤ 9223372036854775807) := by
  obtain ⟨xs, m, rfl, _, hl, hlen, hg⟩ := DataW.trod_struct Try.underlying30 hf
  have e3 : Try.prog.cellsOf 30 = 3 := by kernel_rfl
  have hcl : cs.length = 3 := by rw [e3] at hl; exact hl
  match cs, hcl with
  | [c0, c1, c2], _ =>
    have hx : ∀ i, i < 3 → ∃ y, xs[i]? = some y := fun i hi => ⟨_, List.getElem?_eq_getElem (by have := hlen; simp at this; omega)⟩
    have g0 := hg 0 _ rfl
    obtain ⟨z0, hz0⟩ := hx 0 (by omega)
    rw [hz0] at g0
    have g1 := hg 1 _ rfl
    obtain ⟨z1, hz1⟩ := hx 1 (by omega)
    rw [hz1] at g1
    have g2 := hg 2 _ rfl
    obtain ⟨z2, hz2⟩ := hx 2 (by omega)
    rw [hz2] at g2
    have k0 : Try.prog.cellsOf 28 = 1 := by kernel_rfl
    have k1 : Try.prog.cellsOf 2 = 1 := by kernel_rfl
    have k2 : Try.prog.cellsOf 3 = 1 := by kernel_rfl
    simp only [List.getElem_toArray, List.getElem_cons_zero, List.getElem_cons_succ] at g0 g1 g2
    rw [k2] at g0
    rw [k1] at g1
    rw [k0] at g2
    obtain ⟨v0, hv0, _, hw0⟩ := DataW.trod_int Try.underlying3 g0
    have d0 : c0 = .int .i64 v0 := by simpa using hv0
    obtain ⟨v1, hv1, _, hw1⟩ := DataW.trod_int Try.underlying2 g1
    have d1 : c1 = .int .i64 v1 := by simpa using hv1
    obtain ⟨v2, hv2, _, hw2⟩ := DataW.trod_int Try.underlying28 g2
    have d2 : c2 = .int .i64 v2 := by simpa using hv2
    subst d0 d1 d2
    exact ⟨v0, v1, v2, rfl, by simpa [Lit.wf, IntKind.min, IntKind.max, IntKind.signed, IntKind.bits] using hw0, by simpa [Lit.wf, IntKind.min, IntKind.max, IntKind.signed, IntKind.bits] using hw1, by simpa [Lit.wf, IntKind.min, IntKind.max, IntKind.signed, IntKind.bits] using hw2⟩

set_option maxRecDepth 100000 in
theorem opened_lt {H : Type} {enc : TypeId × Value → H} {W : World} {b : Nat} {v : Value} {d : DataW H} {p : List MemPlace} (hv : Value.okWide Try.prog W .any b 27 v)
    (h0 : DataW.Trod enc Try.prog W 0 (fun _ => true) true 27 v d p) : ∃ l : Lt, v = .agg l.cells.toArray ∧ l.nm.length ≤ maxLen ∧ l.po.length ≤ maxLen ∧ l.pa.length ≤ maxLen := by
  simp only [Value.okWide, Try.underlying27] at hv
  obtain ⟨cs, rfl, hsz, _⟩ := hv
  obtain ⟨fuel, hf⟩ := h0
  obtain ⟨s0, y1, y2, y3, s4, s5, hcs, f0, f1, f2, f3, f4, f5⟩ := lt_of_trod hf
  refine ⟨⟨s0, y1, y2, y3, s4, s5⟩, ?_, f0, f4, f5⟩
  obtain ⟨cs⟩ := cs
  have h3 : cs = [.string (ba s0), .int .i64 y1, .int .i64 y2, .int .i64 y3, .string (ba s4), .string (ba s5)] := by simpa [Value.cells] using hcs
  rw [h3]
  rfl

set_option maxRecDepth 100000 in
theorem opened_oc {H : Type} {enc : TypeId × Value → H} {W : World} {b : Nat} {v : Value} {d : DataW H} {p : List MemPlace} (hv : Value.okWide Try.prog W .any b 30 v)
    (h0 : DataW.Trod enc Try.prog W 0 (fun _ => true) true 30 v d p) : ∃ l : Oc, v = .agg l.cells.toArray := by
  simp only [Value.okWide, Try.underlying30] at hv
  obtain ⟨cs, rfl, hsz, _⟩ := hv
  obtain ⟨fuel, hf⟩ := h0
  obtain ⟨y0, y1, y2, hcs, f0, f1, f2⟩ := oc_of_trod hf
  refine ⟨⟨y0, y1, y2⟩, ?_⟩
  obtain ⟨cs⟩ := cs
  have h3 : cs = [.int .i64 y0, .int .i64 y1, .int .i64 y2] := by simpa [Value.cells] using hcs
  rw [h3]
  rfl

theorem Try.cells_lt : Try.prog.cellsOf 27 = 6 := by kernel_rfl
set_option maxRecDepth 100000 in
/-- A slice's cell among others, nil or not. -/
theorem sl_lt {H : Type} {enc : TypeId × Value → H} {W : World} {fuel : Nat} {c0 : Value} {x : DataW H × List MemPlace} (hf : DataW.trod enc Try.prog W 0 (fun _ => true) true fuel 22 [c0] = some x) :
    ∃ (A : Option Addr) (n c : Nat) (ls : List Lt), c0 = .slice A n c ∧ Sl W 6 A n (ls.map Lt.cells) ∧ n ≤ c ∧ c ≤ maxLen := by
  rcases DataW.trod_slice Try.underlying22 hf with ⟨hcs, _⟩ | ⟨a, len, cap, elems, rest, m', rfl, hcs, _, _, hle, hmx, hel, hin, _, _⟩
  · have e2 : c0 = .slice none 0 0 := by simpa using hcs
    subst e2
    exact ⟨none, 0, 0, [], rfl, Sl.none_, Nat.le_refl _, Nat.zero_le _⟩
  · have e2 : c0 = .slice (some a) len cap := by simpa using hcs
    subst e2
    rw [Try.cells_lt] at hin
    have all : ∀ i, ∃ z : Lt, i < len → ∃ cs', W.cells? 0 (a.add (i * 6)) 6 = some cs' ∧ cs' = z.cells := fun i => by
      by_cases hil : i < len
      · have h1 := hin i hil
        rw [List.getElem?_eq_getElem (by omega)] at h1
        obtain ⟨cs', h2, h3⟩ := Option.bind_eq_some_iff.1 h1
        obtain ⟨s0, y1, y2, y3, s4, s5, h4, _⟩ := lt_of_trod h3
        exact ⟨⟨s0, y1, y2, y3, s4, s5⟩, fun _ => ⟨cs', h2, h4⟩⟩
      · exact ⟨Lt.no, fun h => absurd h hil⟩
    obtain ⟨z, hz⟩ := Classical.axiomOfChoice all
    refine ⟨some a, len, cap, (List.range len).map z, rfl, ⟨by simp, fun hn => ?_⟩, by omega, by omega⟩
    have hcell : ∀ i, i < len → ∀ j v, (z i).cells[j]? = some v → W.cell? ((a.add (i * 6)).add j) = some v := fun i hi j v hv => by
      obtain ⟨cs', h1, h2⟩ := hz i hi
      obtain ⟨_, hlen', hc⟩ := World.cells?_some h1
      have hj : j < 6 := (List.getElem?_eq_some_iff.1 hv).1
      rw [hc j hj, h2]
      exact hv
    obtain ⟨b, o, s⟩ := a
    have hc0 := hcell 0 hn 0 _ rfl
    obtain rfl : s = none := by simpa [Addr.add] using World.cell?_spot hc0
    refine ⟨b, o, rfl, fun i cs hi => ?_⟩
    have hil : i < len := by
      have := (List.getElem?_eq_some_iff.1 hi).1
      simpa using this
    have ek : (z i).cells = cs := by simpa [hil] using hi
    subst ek
    intro j v hv
    have h1 := hcell i hil j v hv
    rw [Go.WideShapes.add_plain, Go.WideShapes.add_plain] at h1
    exact h1

theorem Try.cells_oc : Try.prog.cellsOf 30 = 3 := by kernel_rfl
set_option maxRecDepth 100000 in
/-- A slice's cell among others, nil or not. -/
theorem sl_oc {H : Type} {enc : TypeId × Value → H} {W : World} {fuel : Nat} {c0 : Value} {x : DataW H × List MemPlace} (hf : DataW.trod enc Try.prog W 0 (fun _ => true) true fuel 23 [c0] = some x) :
    ∃ (A : Option Addr) (n c : Nat) (ls : List Oc), c0 = .slice A n c ∧ Sl W 3 A n (ls.map Oc.cells) ∧ n ≤ c ∧ c ≤ maxLen := by
  rcases DataW.trod_slice Try.underlying23 hf with ⟨hcs, _⟩ | ⟨a, len, cap, elems, rest, m', rfl, hcs, _, _, hle, hmx, hel, hin, _, _⟩
  · have e2 : c0 = .slice none 0 0 := by simpa using hcs
    subst e2
    exact ⟨none, 0, 0, [], rfl, Sl.none_, Nat.le_refl _, Nat.zero_le _⟩
  · have e2 : c0 = .slice (some a) len cap := by simpa using hcs
    subst e2
    rw [Try.cells_oc] at hin
    have all : ∀ i, ∃ z : Oc, i < len → ∃ cs', W.cells? 0 (a.add (i * 3)) 3 = some cs' ∧ cs' = z.cells := fun i => by
      by_cases hil : i < len
      · have h1 := hin i hil
        rw [List.getElem?_eq_getElem (by omega)] at h1
        obtain ⟨cs', h2, h3⟩ := Option.bind_eq_some_iff.1 h1
        obtain ⟨y0, y1, y2, h4, _⟩ := oc_of_trod h3
        exact ⟨⟨y0, y1, y2⟩, fun _ => ⟨cs', h2, h4⟩⟩
      · exact ⟨Oc.no, fun h => absurd h hil⟩
    obtain ⟨z, hz⟩ := Classical.axiomOfChoice all
    refine ⟨some a, len, cap, (List.range len).map z, rfl, ⟨by simp, fun hn => ?_⟩, by omega, by omega⟩
    have hcell : ∀ i, i < len → ∀ j v, (z i).cells[j]? = some v → W.cell? ((a.add (i * 3)).add j) = some v := fun i hi j v hv => by
      obtain ⟨cs', h1, h2⟩ := hz i hi
      obtain ⟨_, hlen', hc⟩ := World.cells?_some h1
      have hj : j < 3 := (List.getElem?_eq_some_iff.1 hv).1
      rw [hc j hj, h2]
      exact hv
    obtain ⟨b, o, s⟩ := a
    have hc0 := hcell 0 hn 0 _ rfl
    obtain rfl : s = none := by simpa [Addr.add] using World.cell?_spot hc0
    refine ⟨b, o, rfl, fun i cs hi => ?_⟩
    have hil : i < len := by
      have := (List.getElem?_eq_some_iff.1 hi).1
      simpa using this
    have ek : (z i).cells = cs := by simpa [hil] using hi
    subst ek
    intro j v hv
    have h1 := hcell i hil j v hv
    rw [Go.WideShapes.add_plain, Go.WideShapes.add_plain] at h1
    exact h1

theorem Try.cells_lg : Try.prog.cellsOf 25 = 4 := by kernel_rfl
set_option maxRecDepth 100000 in
/-- An argument of type Ledger. -/
theorem opened_lg {H : Type} {enc : TypeId × Value → H} {W : World} {b : Nat} {v : Value} {d : DataW H} {p : List MemPlace} (hv : Value.okWide Try.prog W .any b 25 v)
    (h0 : DataW.Trod enc Try.prog W 0 (fun _ => true) true 25 v d p) : ∃ (l : Lg) (A : Option Addr) (n c : Nat) (B : Option Addr) (m d : Nat), v = l.val A n c B m d ∧ LgIn W A n B m l ∧ n ≤ c ∧ c ≤ maxLen ∧ m ≤ d ∧ d ≤ maxLen := by
  simp only [Value.okWide, Try.underlying25] at hv
  obtain ⟨cs, rfl, hsz, _⟩ := hv
  obtain ⟨fuel, hf⟩ := h0
  obtain ⟨xs, m, rfl, _, hl, hlen, hg⟩ := DataW.trod_struct Try.underlying25 hf
  have hcl : (Value.agg cs).cells.toList.length = 4 := by rw [Try.cells_lg] at hl; exact hl
  obtain ⟨cs⟩ := cs
  have e0 : (Value.agg ⟨cs⟩).cells.toList = cs := by simp [Value.cells]
  rw [e0] at hcl hg
  match cs, hcl with
  | [c0, c1, c2, c3], _ =>
    have hx : ∀ i, i < 4 → ∃ y, xs[i]? = some y := fun i hi => ⟨_, List.getElem?_eq_getElem (by have := hlen; simp at this; omega)⟩
    have g0 := hg 0 _ rfl
    obtain ⟨z0, hz0⟩ := hx 0 (by omega)
    rw [hz0] at g0
    have g1 := hg 1 _ rfl
    obtain ⟨z1, hz1⟩ := hx 1 (by omega)
    rw [hz1] at g1
    have g2 := hg 2 _ rfl
    obtain ⟨z2, hz2⟩ := hx 2 (by omega)
    rw [hz2] at g2
    have g3 := hg 3 _ rfl
    obtain ⟨z3, hz3⟩ := hx 3 (by omega)
    rw [hz3] at g3
    have k0 : Try.prog.cellsOf 2 = 1 := by kernel_rfl
    have k1 : Try.prog.cellsOf 22 = 1 := by kernel_rfl
    have k2 : Try.prog.cellsOf 23 = 1 := by kernel_rfl
    simp only [List.getElem_toArray, List.getElem_cons_zero, List.getElem_cons_succ] at g0 g1 g2 g3
    rw [k0] at g0 g1
    rw [k1] at g2
    rw [k2] at g3
    obtain ⟨v0, hv0, _, _⟩ := DataW.trod_int Try.underlying2 g0
    obtain ⟨v1, hv1, _, _⟩ := DataW.trod_int Try.underlying2 g1
    have d0 : c0 = .int .i64 v0 := by simpa using hv0
    have d1 : c1 = .int .i64 v1 := by simpa using hv1
    obtain ⟨A, n, c, ls, d2, h1, h2, h3⟩ := sl_lt (c0 := c2) (by simpa using g2)
    obtain ⟨B, m2, d, os, d3, h4, h5, h6⟩ := sl_oc (c0 := c3) (by simpa using g3)
    subst d0 d1 d2 d3
    exact ⟨⟨v0, v1, ls, os⟩, A, n, c, B, m2, d, rfl, ⟨h1, h4⟩, h2, h3, h5, h6⟩

end Go.Proofs.Ytkbeodlihmmdbaa
