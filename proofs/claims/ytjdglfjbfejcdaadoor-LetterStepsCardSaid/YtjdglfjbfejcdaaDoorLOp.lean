/-
  What the rows list: the table of states; the laws' arguments, opened. No walk here.
-/
import Derived.Test.YtjdglfjbfejcdaaDoorLt
import Derived.Test.YtjdglfjbfejcdaaDoorTie
import Derived.Test.YtjdglfjbfejcdaaDoorCards
import Derived.ProofKit
import Derived.LaidMore
import Derived.OpenShut
import Derived.Stop.Joined
import Derived.Stop.LaidErr
import Derived.Lib.LaidTab
import Derived.ChangeMaps5
import Derived.Deep.Slices
import Derived.Deep.Fields
namespace Go.Proofs.YtjdglfjbfejcdaaDoor
open Go.ChangeShapes Go.WideShapes Go.ChangeAt Go.RowKit Go.Deep

theorem Tryd.own : ownKnob Tryd.prog.godebug = none := by kernel_rfl
theorem Tryd.laidOut : laidOutB Tryd.prog = true := by kernel_rfl
theorem Tryd.gLeads : Tryd.prog.globalNamed "bottomry/letter.leads" = some 0 := by kernel_rfl
theorem Tryd.tLeads : (Tryd.prog.globals[0]?).map (·.type) = some 40 := by kernel_rfl
theorem Tryd.cells_row : Tryd.prog.cellsOf 39 = 8 := by kernel_rfl
theorem Tryd.cells_int : Tryd.prog.cellsOf 3 = 1 := by kernel_rfl
/-- What the rows list. -/
noncomputable def laid10 : List (String × DataW Unit) := [("bottomry/letter.leads", Rows.laid_bottomry_letter_leads)]
/-- The table's rows. -/
def leadsR : List (List Int) := (List.range 10).map fun i => (leadsT.drop (i * 8)).take 8
theorem leads_rows : (Rows.laid_bottomry_letter_leads : DataW Unit) = .agg (leadsR.map fun r => Lib.tabData .i64 r) := by kernel_rfl
theorem leads_at (i : Nat) (hi : i < 80) : ∃ r, leadsR[i / 8]? = some r ∧ r.length = 8 ∧ r[i % 8]? = some (leadsT.getD i 0) := by
  have h : ∀ i : Fin 80, (leadsR[i.val / 8]?.map fun r => (r.length, r[i.val % 8]?)) = some (8, some (leadsT.getD i.val 0)) := by decide +kernel
  obtain ⟨r, h1, h2⟩ := Option.map_eq_some_iff.1 (h ⟨i, hi⟩)
  simp only [Prod.mk.injEq] at h2
  exact ⟨r, h1, h2.1, h2.2⟩
/-- WHAT THE CONDITION GIVES THE WALKS. -/
theorem led_of {W : World} (h : laidMetH Tryd.prog laid10 W) : Led W := by
  rw [MakeChecks.laidMetH_plain _ _ _ (by kernel_rfl)] at h
  unfold laid10 at h
  rw [leads_rows] at h
  obtain ⟨ps, ⟨g', t', cs, fuel, p, q, hg', ht', hvar, hd, _, _⟩, _⟩ := h
  obtain rfl := Option.some.inj (Tryd.gLeads.symm.trans hg')
  obtain rfl := Option.some.inj (Tryd.tLeads.symm.trans ht')
  obtain ⟨xs, m, rfl, hx, hl, hn, hi⟩ := DataW.trod_array Tryd.underlying40 hd
  rw [Tryd.cells_row] at hi
  intro i h80
  obtain ⟨r, hr, hrl, hri⟩ := leads_at i h80
  have h10 : i / 8 < 10 := by omega
  have h1 := hi (i / 8) h10
  have hxs : xs.map (·.1) = leadsR.map fun r => Lib.tabData .i64 r := by
    have := congrArg Prod.fst hx
    simpa using this.symm
  have h2 : (xs.map (·.1))[i / 8]? = some (Lib.tabData .i64 r) := by rw [hxs, List.getElem?_map, hr]; rfl
  rw [List.getElem?_map, Option.map_eq_some_iff] at h2
  obtain ⟨⟨d, pl⟩, h3, rfl⟩ := h2
  rw [h3] at h1
  have h4 := Lib.cells_of_tab Tryd.underlying39 Tryd.underlying3 Tryd.cells_int Tryd.cells_row h1
  have h5 : cs.toList[i]? = some (.int .i64 (leadsT.getD i 0)) := by
    have h6 := congrArg (·[i % 8]?) h4
    simp only [List.getElem?_map, hri, Option.map_some] at h6
    rw [List.getElem?_take, if_pos (by omega), List.getElem?_drop] at h6
    rw [show i / 8 * 8 + i % 8 = i by omega] at h6
    exact h6
  have h7 := World.var?_cell Tryd.gLeads hvar i
  rw [h7]
  simpa using h5
/-- The door's own heap meets the condition. -/
theorem door_met (os : Os) (args : Array Value) : laidMetH Tryd.prog laid10 ((World.doorLaid Tryd.prog 400 os).forCall (fun _ _ => 0) ⟨#[], args, []⟩).memory :=
  laidMetH_of_parts3 (fuel := 8) (laidMet_of_run' 8 (by kernel_rfl) (by kernel_rfl)) (by kernel_rfl) (by kernel_rfl)
/-- An argument of type string. -/
theorem opened_str {H : Type} {enc : TypeId × Value → H} {W : World} {b : Nat} {v : Value} {d : DataW H} {p : List MemPlace}
    (hv : Value.okWide Tryd.prog W .any b 9 v) (h0 : DataW.Trod enc Tryd.prog W 0 (fun _ => true) true 9 v d p) : ∃ t : List UInt8, v = .string (ba t) ∧ t.length ≤ maxLen := by
  obtain ⟨s, rfl, _, _, hs⟩ := Go.ChangeMaps.open_string Tryd.underlying9 hv h0
  refine ⟨s.data.toList, by rw [← ba_of s], ?_⟩
  rw [← ba_size, ← ba_of s]
  exact hs
theorem opened_int {H : Type} {enc : TypeId × Value → H} {W : World} {b : Nat} {v : Value} {d : DataW H} {p : List MemPlace}
    (hv : Value.okWide Tryd.prog W .any b 3 v) (h0 : DataW.Trod enc Tryd.prog W 0 (fun _ => true) true 3 v d p) : ∃ y : Int, v = .int .i64 y ∧ -9223372036854775808 ≤ y ∧ y ≤ 9223372036854775807 := by
  obtain ⟨x, rfl, rfl, rfl, wx⟩ := open_int Tryd.underlying3 hv h0
  exact ⟨x, rfl, by simpa [Lit.wf, IntKind.min, IntKind.max, IntKind.signed, IntKind.bits] using wx⟩
theorem opened_i64 {H : Type} {enc : TypeId × Value → H} {W : World} {b : Nat} {v : Value} {d : DataW H} {p : List MemPlace}
    (hv : Value.okWide Tryd.prog W .any b 2 v) (h0 : DataW.Trod enc Tryd.prog W 0 (fun _ => true) true 2 v d p) : ∃ y : Int, v = .int .i64 y ∧ -9223372036854775808 ≤ y ∧ y ≤ 9223372036854775807 := by
  obtain ⟨x, rfl, rfl, rfl, wx⟩ := open_int Tryd.underlying2 hv h0
  exact ⟨x, rfl, by simpa [Lit.wf, IntKind.min, IntKind.max, IntKind.signed, IntKind.bits] using wx⟩
set_option maxRecDepth 100000 in
/-- A letter's cells. -/
theorem lt_of_trod {H : Type} {enc : TypeId × Value → H} {W : World} {base : Nat} {sp : Nat → Bool} {held : Bool} {fuel : Nat} {cs : List Value} {x : DataW H × List MemPlace} (hf : DataW.trod enc Tryd.prog W base sp held fuel 23 cs = some x) :
    ∃ (s0 : List UInt8) (y1 : Int) (y2 : Int) (y3 : Int) (s4 : List UInt8) (s5 : List UInt8), cs = [.string (ba s0), .int .i64 y1, .int .i64 y2, .int .i64 y3, .string (ba s4), .string (ba s5)] ∧ s0.length ≤ maxLen ∧ (-9223372036854775808 ≤ y1 ∧ y1 ≤ 9223372036854775807) ∧ (-9223372036854775808 ≤ y2 ∧ y2 ≤ 9223372036854775807) ∧ (-9223372036854775808 ≤ y3 ∧ y3 ≤ 9223372036854775807) ∧ s4.length ≤ maxLen ∧ s5.length ≤ maxLen := by
  obtain ⟨xs, m, rfl, _, hl, hlen, hg⟩ := DataW.trod_struct Tryd.underlying23 hf
  have e6 : Tryd.prog.cellsOf 23 = 6 := by kernel_rfl
  have hcl : cs.length = 6 := by rw [e6] at hl; exact hl
  match cs, hcl with
  | [c0, c1, c2, c3, c4, c5], _ =>
    have hx : ∀ i, i < 6 → ∃ y, xs[i]? = some y := fun i hi => ⟨_, List.getElem?_eq_getElem (by have := hlen; simp at this; omega)⟩
    have g0 := hg 0 _ rfl
    obtain ⟨z0, hz0⟩ := hx 0 (by omega)
    rw [hz0] at g0
    have g1 := hg 1 _ rfl
    obtain ⟨z1, hz1⟩ := hx 1 (by omega)
    rw [hz1] at g1
    have g2 := hg 2 _ rfl
    obtain ⟨z2, hz2⟩ := hx 2 (by omega)
    rw [hz2] at g2
    have g3 := hg 3 _ rfl
    obtain ⟨z3, hz3⟩ := hx 3 (by omega)
    rw [hz3] at g3
    have g4 := hg 4 _ rfl
    obtain ⟨z4, hz4⟩ := hx 4 (by omega)
    rw [hz4] at g4
    have g5 := hg 5 _ rfl
    obtain ⟨z5, hz5⟩ := hx 5 (by omega)
    rw [hz5] at g5
    have k0 : Tryd.prog.cellsOf 2 = 1 := by kernel_rfl
    have k1 : Tryd.prog.cellsOf 3 = 1 := by kernel_rfl
    have k2 : Tryd.prog.cellsOf 9 = 1 := by kernel_rfl
    simp only [List.getElem_toArray, List.getElem_cons_zero, List.getElem_cons_succ] at g0 g1 g2 g3 g4 g5
    rw [k2] at g0
    rw [k1] at g1
    rw [k0] at g2
    rw [k0] at g3
    rw [k2] at g4
    rw [k2] at g5
    obtain ⟨v0, hv0, _, hw0⟩ := DataW.trod_string Tryd.underlying9 g0
    have d0 : c0 = .string (ba v0.data.toList) := by rw [← ba_of v0]; simpa using hv0
    obtain ⟨v1, hv1, _, hw1⟩ := DataW.trod_int Tryd.underlying3 g1
    have d1 : c1 = .int .i64 v1 := by simpa using hv1
    obtain ⟨v2, hv2, _, hw2⟩ := DataW.trod_int Tryd.underlying2 g2
    have d2 : c2 = .int .i64 v2 := by simpa using hv2
    obtain ⟨v3, hv3, _, hw3⟩ := DataW.trod_int Tryd.underlying2 g3
    have d3 : c3 = .int .i64 v3 := by simpa using hv3
    obtain ⟨v4, hv4, _, hw4⟩ := DataW.trod_string Tryd.underlying9 g4
    have d4 : c4 = .string (ba v4.data.toList) := by rw [← ba_of v4]; simpa using hv4
    obtain ⟨v5, hv5, _, hw5⟩ := DataW.trod_string Tryd.underlying9 g5
    have d5 : c5 = .string (ba v5.data.toList) := by rw [← ba_of v5]; simpa using hv5
    subst d0 d1 d2 d3 d4 d5
    exact ⟨v0.data.toList, v1, v2, v3, v4.data.toList, v5.data.toList, rfl, by rw [← ba_size, ← ba_of v0]; exact hw0, by simpa [Lit.wf, IntKind.min, IntKind.max, IntKind.signed, IntKind.bits] using hw1, by simpa [Lit.wf, IntKind.min, IntKind.max, IntKind.signed, IntKind.bits] using hw2, by simpa [Lit.wf, IntKind.min, IntKind.max, IntKind.signed, IntKind.bits] using hw3, by rw [← ba_size, ← ba_of v4]; exact hw4, by rw [← ba_size, ← ba_of v5]; exact hw5⟩

set_option maxRecDepth 100000 in
/-- An argument of type Letter. -/
theorem opened_lt {H : Type} {enc : TypeId × Value → H} {W : World} {b : Nat} {v : Value} {d : DataW H} {p : List MemPlace} (hv : Value.okWide Tryd.prog W .any b 23 v)
    (h0 : DataW.Trod enc Tryd.prog W 0 (fun _ => true) true 23 v d p) : ∃ l : Lt, v = l.val := by
  simp only [Value.okWide, Tryd.underlying23] at hv
  obtain ⟨cs, rfl, hsz, _⟩ := hv
  obtain ⟨fuel, hf⟩ := h0
  obtain ⟨s0, y1, y2, y3, s4, s5, hcs, _⟩ := lt_of_trod hf
  refine ⟨⟨s0, y1, y2, y3, s4, s5⟩, ?_⟩
  obtain ⟨cs⟩ := cs
  have h3 : cs = [.string (ba s0), .int .i64 y1, .int .i64 y2, .int .i64 y3, .string (ba s4), .string (ba s5)] := by simpa [Value.cells] using hcs
  rw [h3]
  rfl

end Go.Proofs.YtjdglfjbfejcdaaDoor
