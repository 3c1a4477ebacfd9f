/-
  What the rows list: that ErrSyntax holds an error; the laws' arguments, opened. No walk here.
-/
import Derived.Test.YtnpobhgecfjfgaaDoorPN
import Derived.Test.YtnpobhgecfjfgaaDoorTie
import Derived.Test.YtnpobhgecfjfgaaDoorCards
import Derived.ProofKit
import Derived.LaidMore
import Derived.OpenShut
import Derived.Stop.Joined
import Derived.Stop.LaidErr
import Derived.Lib.LaidTab
import Derived.ChangeMaps5
import Derived.Deep.Slices
import Derived.Deep.Fields
namespace Go.Proofs.YtnpobhgecfjfgaaDoor
open Go.ChangeShapes Go.WideShapes Go.ChangeAt Go.RowKit Go.Deep

set_option maxRecDepth 100000 in
theorem Tryd.cells_es : Tryd.prog.cellsOf 104 = 1 := by kernel_rfl
set_option maxRecDepth 100000 in
theorem Tryd.cells_str : Tryd.prog.cellsOf 9 = 1 := by kernel_rfl
set_option maxRecDepth 100000 in
theorem Tryd.gES : Tryd.prog.globalNamed "strconv.ErrSyntax" = some 0 := by kernel_rfl
set_option maxRecDepth 100000 in
theorem Tryd.tES : (Tryd.prog.globals[0]?).map (·.type) = some 65 := by kernel_rfl
set_option maxRecDepth 100000 in
theorem Tryd.star : "*" ++ "errors.errorString" = "*errors.errorString" := by decide
set_option maxRecDepth 100000 in
/-- The one type of that name. -/
theorem Tryd.rowES (u : TypeId) (h : Tryd.prog.typeName? 3 u = some "*errors.errorString") : u = 102 :=
  typeName_ptr_named (nm := "errors.errorString") (by rw [Tryd.star]; kernel_rfl) (by kernel_rfl) (by decide) u (by rw [Tryd.star]; exact h)
/-- What the rows list. -/
noncomputable def laid5 : List (String × DataW Unit) := Rows.termsReadsRow.laid
set_option maxRecDepth 100000 in
/-- WHAT THE CONDITION GIVES THE WALKS. -/
theorem ev_of {W : World} (h : laidMetH Tryd.prog laid5 W) : EV W := by
  rw [MakeChecks.laidMetH_plain _ _ _ (by kernel_rfl)] at h
  have h1 : laidMet Tryd.prog ([Rows.termsReadsRow.laid.getLast!]) W := laidMet.tail (laidMet.tail (laidMet.tail (laidMet.tail (show laidMet Tryd.prog (_ :: _ :: _ :: _ :: [Rows.termsReadsRow.laid.getLast!]) W from h))))
  obtain ⟨a, s, hv, _, _, _⟩ := laid_sentinel (show laidMet Tryd.prog (("strconv.ErrSyntax", .iface "*errors.errorString" (.ptr (.agg [.lit (.string [105, 110, 118, 97, 108, 105, 100, 32, 115, 121, 110, 116, 97, 120])]))) :: []) W from h1) Tryd.gES Tryd.tES Tryd.underlying65 Tryd.rowES Tryd.underlying102 Tryd.underlying104 rfl rfl Tryd.underlying9 Tryd.cells_es Tryd.cells_str
  exact ⟨_, _, by have h0 := World.var?_cell Tryd.gES hv 0; simpa using h0⟩
set_option maxRecDepth 100000 in
/-- The door's own heap meets the condition. -/
theorem door_met (os : Os) (args : Array Value) : laidMetH Tryd.prog laid5 ((World.doorLaid Tryd.prog 400 os).forCall (fun _ _ => 0) ⟨#[], args, []⟩).memory :=
  laidMetH_of_parts3 (fuel := 8) (laidMet_of_run' 8 (by kernel_rfl) (by kernel_rfl)) (by kernel_rfl) (by kernel_rfl)
set_option maxRecDepth 100000 in
/-- An argument of type string. -/
theorem opened_str {H : Type} {enc : TypeId × Value → H} {W : World} {b : Nat} {v : Value} {d : DataW H} {p : List MemPlace}
    (hv : Value.okWide Tryd.prog W .any b 9 v) (h0 : DataW.Trod enc Tryd.prog W 0 (fun _ => true) true 9 v d p) : ∃ t : List UInt8, v = .string (ba t) ∧ t.length ≤ maxLen := by
  obtain ⟨s, rfl, _, _, hs⟩ := Go.ChangeMaps.open_string Tryd.underlying9 hv h0
  refine ⟨s.data.toList, by rw [← ba_of s], ?_⟩
  rw [← ba_size, ← ba_of s]
  exact hs

set_option maxRecDepth 100000 in
theorem Tryd.own : ownKnob Tryd.prog.godebug = none := by kernel_rfl
set_option maxRecDepth 100000 in
theorem Tryd.laidOut : laidOutB Tryd.prog = true := by kernel_rfl
set_option maxRecDepth 100000 in
theorem Tryd.cells_fm : Tryd.prog.cellsOf 25 = 3 := by kernel_rfl
set_option maxRecDepth 100000 in
theorem opened_int {H : Type} {enc : TypeId × Value → H} {W : World} {b : Nat} {v : Value} {d : DataW H} {p : List MemPlace}
    (hv : Value.okWide Tryd.prog W .any b 3 v) (h0 : DataW.Trod enc Tryd.prog W 0 (fun _ => true) true 3 v d p) : ∃ y : Int, v = .int .i64 y ∧ -9223372036854775808 ≤ y ∧ y ≤ 9223372036854775807 := by
  obtain ⟨x, rfl, rfl, rfl, wx⟩ := open_int Tryd.underlying3 hv h0
  exact ⟨x, rfl, by simpa [Lit.wf, IntKind.min, IntKind.max, IntKind.signed, IntKind.bits] using wx⟩
set_option maxRecDepth 100000 in
theorem Fm.InRow.mk {w : World} {Q : Nat → Prop} {g : Nat} : ∀ {ks : List Fm} {o : Nat}, (∀ (i : Nat) (k : Fm), ks[i]? = some k → ∃ A n c, w.rangeAt g (o + i * 3) [.int .i64 k.org, .int .i64 k.nd, .slice A n c] ∧ k.In w Q A n) → Fm.InRow w Q g o ks
  | [], _, _ => trivial
  | x :: ks, o, h => by
    refine ⟨by simpa using h 0 x rfl, Fm.InRow.mk fun i k hk => ?_⟩
    have := h (i + 1) k (by simpa using hk)
    rw [show o + (i + 1) * 3 = o + 3 + i * 3 by omega] at this
    exact this
set_option maxRecDepth 100000 in
theorem fm_of_trod {H : Type} {enc : TypeId × Value → H} {W : World} : ∀ (fuel : Nat) (cs : List Value) (x : DataW H × List MemPlace), DataW.trod enc Tryd.prog W 0 (fun _ => true) true fuel 25 cs = some x →
    ∃ (f : Fm) (A : Option Addr) (n c : Nat), cs = [.int .i64 f.org, .int .i64 f.nd, .slice A n c] ∧ f.In W (fun _ => True) A n := by
  intro fuel
  induction fuel using Nat.strongRecOn with
  | _ fuel ih =>
  intro cs x hf
  obtain ⟨xs, m, rfl, _, hl, hlen, hg⟩ := DataW.trod_struct Tryd.underlying25 hf
  have hcl : cs.length = 3 := by rw [Tryd.cells_fm] at hl; exact hl
  match cs, hcl with
  | [c0, c1, c2], _ =>
    have g0 := hg 0 _ rfl
    have g1 := hg 1 _ rfl
    have g2 := hg 2 _ rfl
    have hx : ∀ i, i < 3 → ∃ y, xs[i]? = some y := fun i hi => ⟨_, List.getElem?_eq_getElem (by have := hlen; simp at this; omega)⟩
    obtain ⟨y0, hy0⟩ := hx 0 (by omega)
    obtain ⟨y1, hy1⟩ := hx 1 (by omega)
    obtain ⟨y2, hy2⟩ := hx 2 (by omega)
    rw [hy0] at g0
    rw [hy1] at g1
    rw [hy2] at g2
    have ci : Tryd.prog.cellsOf 3 = 1 := by kernel_rfl
    have cb : Tryd.prog.cellsOf 23 = 1 := by kernel_rfl
    simp only [List.getElem_toArray, List.getElem_cons_zero, List.getElem_cons_succ] at g0 g1 g2
    rw [ci] at g0 g1
    rw [cb] at g2
    obtain ⟨k, hk, _⟩ := DataW.trod_int Tryd.underlying3 g0
    obtain ⟨l, hl', _⟩ := DataW.trod_int Tryd.underlying3 g1
    have e0 : c0 = .int .i64 k := by simpa using hk
    have e1 : c1 = .int .i64 l := by simpa using hl'
    subst e0 e1
    rcases DataW.trod_slice Tryd.underlying23 g2 with ⟨hcs, _⟩ | ⟨a, len, cap, elems, rest, m', rfl, hcs, _, _, hle, hmx, hel, hin, _, _⟩
    · have e2 : c2 = .slice none 0 0 := by simpa using hcs
      subst e2
      exact ⟨.mk k l [], none, 0, 0, rfl, rfl, Nat.zero_le _, fun h => absurd h (by omega)⟩
    · have e2 : c2 = .slice (some a) len cap := by simpa using hcs
      subst e2
      rw [Tryd.cells_fm] at hin
      have all : ∀ i, ∃ z : Fm × Option Addr × Nat × Nat, i < len → (∃ cs', W.cells? 0 (a.add (i * 3)) 3 = some cs' ∧ cs' = [.int .i64 z.1.org, .int .i64 z.1.nd, .slice z.2.1 z.2.2.1 z.2.2.2]) ∧ z.1.In W (fun _ => True) z.2.1 z.2.2.1 := fun i => by
        by_cases hil : i < len
        · have h1 := hin i hil
          rw [List.getElem?_eq_getElem (by omega)] at h1
          obtain ⟨cs', h2, h3⟩ := Option.bind_eq_some_iff.1 h1
          obtain ⟨f, A, n, c, h4, h5⟩ := ih m' (by omega) cs' _ h3
          exact ⟨⟨f, A, n, c⟩, fun _ => ⟨⟨cs', h2, h4⟩, h5⟩⟩
        · exact ⟨⟨.mk 0 0 [], none, 0, 0⟩, fun h => absurd h hil⟩
      obtain ⟨z, hz⟩ := Classical.axiomOfChoice all
      refine ⟨.mk k l ((List.range len).map fun i => (z i).1), some a, len, cap, rfl, by simp, by omega, fun hn => ?_⟩
      have hcell : ∀ i, i < len → ∀ j v, [Value.int .i64 (z i).1.org, .int .i64 (z i).1.nd, .slice (z i).2.1 (z i).2.2.1 (z i).2.2.2][j]? = some v → W.cell? ((a.add (i * 3)).add j) = some v := fun i hi j v hv => by
        obtain ⟨⟨cs', h1, h2⟩, _⟩ := hz i hi
        obtain ⟨_, hlen', hc⟩ := World.cells?_some h1
        have hj : j < 3 := (List.getElem?_eq_some_iff.1 hv).1
        rw [hc j hj, h2]
        exact hv
      obtain ⟨b, o, s⟩ := a
      have hc0 := hcell 0 hn 0 _ rfl
      obtain rfl : s = none := by simpa [Addr.add] using World.cell?_spot hc0
      refine ⟨b, o, rfl, trivial, Fm.InRow.mk fun i k' hk' => ?_⟩
      have hi : i < len := by
        have := (List.getElem?_eq_some_iff.1 hk').1
        simpa using this
      have ek : (z i).1 = k' := by simpa [hi] using hk'
      subst ek
      refine ⟨_, _, (z i).2.2.2, fun j v hv => ?_, (hz i hi).2⟩
      have h1 := hcell i hi j v hv
      rw [Go.WideShapes.add_plain, Go.WideShapes.add_plain] at h1
      exact h1
set_option maxRecDepth 100000 in
/-- An argument of type Formula. -/
theorem opened_fm {H : Type} {enc : TypeId × Value → H} {W : World} {b : Nat} {v : Value} {d : DataW H} {p : List MemPlace} (hv : Value.okWide Tryd.prog W .any b 25 v)
    (h0 : DataW.Trod enc Tryd.prog W 0 (fun _ => true) true 25 v d p) : ∃ (f : Fm) (A : Option Addr) (n c : Nat), v = f.val A n c ∧ f.In W (fun _ => True) A n := by
  simp only [Value.okWide, Tryd.underlying25] at hv
  obtain ⟨cs, rfl, hsz, _⟩ := hv
  obtain ⟨fuel, hf⟩ := h0
  obtain ⟨f, A, n, c, h1, h2⟩ := fm_of_trod fuel _ _ hf
  refine ⟨f, A, n, c, ?_, h2⟩
  obtain ⟨cs⟩ := cs
  have h3 : cs = [.int .i64 f.org, .int .i64 f.nd, .slice A n c] := by simpa [Value.cells] using h1
  rw [h3]
  rfl

end Go.Proofs.YtnpobhgecfjfgaaDoor
