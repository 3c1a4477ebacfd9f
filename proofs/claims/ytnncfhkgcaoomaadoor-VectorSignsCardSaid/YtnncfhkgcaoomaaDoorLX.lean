/-
  Joined: Laid, Laid2.
-/
import Derived.Test.YtnncfhkgcaoomaaDoorLB
import Derived.Test.YtnncfhkgcaoomaaDoorTie
import Derived.Test.YtnncfhkgcaoomaaDoorCards
import Derived.ProofKit
import Derived.LaidMore
import Derived.OpenShut
import Derived.Stop.Joined
import Derived.Stop.LaidErr
import Derived.Lib.LaidTab
namespace Go.Proofs.YtnncfhkgcaoomaaDoor
open Go.ChangeShapes Go.WideShapes Go.ChangeAt Go.RowKit

theorem Tryd.own : ownKnob Tryd.prog.godebug = none := by kernel_rfl
theorem Tryd.laidOut : laidOutB Tryd.prog = true := by kernel_rfl
theorem Tryd.cells_u8 : Tryd.prog.cellsOf 5 = 1 := by kernel_rfl
theorem Tryd.cells_u32 : Tryd.prog.cellsOf 75 = 1 := by kernel_rfl
theorem Tryd.cells_8 : Tryd.prog.cellsOf 76 = 8 := by kernel_rfl
theorem Tryd.cells_64 : Tryd.prog.cellsOf 80 = 64 := by kernel_rfl
theorem Tryd.gFirst : Tryd.prog.globalNamed "bottomry/sums.first" = some 0 := by kernel_rfl
theorem Tryd.gAdd : Tryd.prog.globalNamed "bottomry/sums.addends" = some 1 := by kernel_rfl
theorem Tryd.tFirst : (Tryd.prog.globals[0]?).map (·.type) = some 76 := by kernel_rfl
theorem Tryd.tAdd : (Tryd.prog.globals[1]?).map (·.type) = some 80 := by kernel_rfl

/-- What the rows list. -/
noncomputable def laid2 : List (String × DataW Unit) := [("bottomry/sums.first", Rows.laid_bottomry_sums_first), ("bottomry/sums.addends", Rows.laid_bottomry_sums_addends)]
theorem first_tab : (Rows.laid_bottomry_sums_first : DataW Unit) = Lib.tabData .u32 (first8.list.map n32) := by kernel_rfl
theorem add_tab : (Rows.laid_bottomry_sums_addends : DataW Unit) = Lib.tabData .u32 (kTab.map n32) := by kernel_rfl
theorem getD_n32 (l : List UInt32) (i : Nat) (h : i < l.length) : (l.map n32).getD i 0 = n32 (l.getD i 0) := by
  simp [List.getD, h]
/-- WHAT THE CONDITION GIVES THE WALKS. -/
theorem tab_of {W : World} (h : laidMetH Tryd.prog laid2 W) : Tab W := by
  rw [MakeChecks.laidMetH_plain _ _ _ (by kernel_rfl)] at h
  unfold laid2 at h
  rw [first_tab, add_tab] at h
  have h1 := Lib.tabIs_of_head Tryd.gFirst Tryd.tFirst Tryd.underlying76 Tryd.underlying75 Tryd.cells_u32 Tryd.cells_8 h
  have h2 := Lib.tabIs_of_head Tryd.gAdd Tryd.tAdd Tryd.underlying80 Tryd.underlying75 Tryd.cells_u32 Tryd.cells_64 h.tail
  refine ⟨fun i hi => ?_, fun i hi => ?_⟩
  · have hl : i < first8.list.length := hi
    rw [h1.cell Tryd.gFirst i (by simpa using hl), getD_n32 _ _ hl]
  · have hl : i < kTab.length := hi
    rw [h2.cell Tryd.gAdd i (by simpa using hl), getD_n32 _ _ hl]
/-- The door's own heap meets the condition. -/
theorem door_met (os : Os) (args : Array Value) : laidMetH Tryd.prog laid2 ((World.doorLaid Tryd.prog 400 os).forCall (fun _ _ => 0) ⟨#[], args, []⟩).memory :=
  laidMetH_of_parts3 (fuel := 8) (laidMet_of_run' 8 (by kernel_rfl) (by kernel_rfl)) (by kernel_rfl) (by kernel_rfl)

/-- An argument of type []byte, nil or not, reads as bytes. -/
theorem opened {H : Type} {enc : TypeId × Value → H} {W : World} {a0 : Option Addr} {len cap : Nat} {d0 : DataW H} {p : List MemPlace}
    (h0 : DataW.Trod enc Tryd.prog W 0 (fun _ => true) true 22 (.slice a0 len cap) d0 p) :
    ∃ xs : List UInt8, By W (fun _ => True) a0 len xs ∧ len ≤ cap ∧ cap ≤ maxLen := by
  obtain ⟨fuel, hf⟩ := h0
  rcases open_ints Tryd.underlying22 Tryd.underlying5 Tryd.cells_u8 hf with ⟨hcs, hx⟩ | ⟨a, len', cap', zs, hcs, _, hl, hm, hz, hx, hcell, hwz⟩
  · simp [Value.cells] at hcs
    obtain ⟨rfl, rfl, rfl⟩ := hcs
    exact ⟨[], By.none_, Nat.le_refl _, Nat.zero_le _⟩
  · simp [Value.cells] at hcs
    obtain ⟨rfl, rfl, rfl⟩ := hcs
    simp only [if_true] at hz
    refine ⟨(zs.take len).map fun x => UInt8.ofNat x.toNat, ⟨by simp; omega, fun hn => ?_⟩, by omega, hm⟩
    obtain ⟨b, o, s⟩ := a
    obtain rfl : s = none := by simpa [Addr.add] using World.cell?_spot (hcell 0 (by omega))
    refine ⟨b, o, rfl, trivial, fun j u hu => ?_⟩
    have hj : j < len := by
      have := (List.getElem?_eq_some_iff.1 hu).1
      simp at this
      omega
    have hjz : j < zs.length := by omega
    have e := hcell j (by omega)
    rw [Go.WideShapes.add_plain] at e
    rw [e]
    have hw := hwz zs[j] (List.getElem_mem _)
    have hb : 0 ≤ zs[j] ∧ zs[j] ≤ 255 := by simpa [Lit.wf, IntKind.min, IntKind.max, IntKind.signed, IntKind.bits] using hw
    simp [hj, hjz] at hu
    subst hu
    simp [List.getD, hjz, u8]
    omega

section
variable {H : Type} {enc : TypeId × Value → H} {W : World} {b : Nat} {v : Value} {d : DataW H} {p : List MemPlace}
theorem opened_int (hv : Value.okWide Tryd.prog W .any b 3 v) (h0 : DataW.Trod enc Tryd.prog W 0 (fun _ => true) true 3 v d p) : ∃ y : Int, v = .int .i64 y ∧ -9223372036854775808 ≤ y ∧ y ≤ 9223372036854775807 := by
  obtain ⟨x, rfl, rfl, rfl, wx⟩ := open_int Tryd.underlying3 hv h0
  exact ⟨x, rfl, by simpa [Lit.wf, IntKind.min, IntKind.max, IntKind.signed, IntKind.bits] using wx⟩
theorem opened_u8 (hv : Value.okWide Tryd.prog W .any b 5 v) (h0 : DataW.Trod enc Tryd.prog W 0 (fun _ => true) true 5 v d p) : ∃ y : UInt8, v = .int .u8 (y.toNat : Int) := by
  obtain ⟨x, rfl, rfl, rfl, wx⟩ := open_int Tryd.underlying5 hv h0
  have hx : 0 ≤ x ∧ x ≤ 255 := by simpa [Lit.wf, IntKind.min, IntKind.max, IntKind.signed, IntKind.bits] using wx
  refine ⟨UInt8.ofNat x.toNat, ?_⟩
  congr 1
  rw [UInt8.toNat_ofNat']
  omega
/-- the byte in a cell -/
def cellByte : Value → UInt8
  | .int _ a => UInt8.ofNat a.toNat
  | _ => 0
theorem opened_tag (hv : Value.okWide Tryd.prog W .any b 37 v) (h0 : DataW.Trod enc Tryd.prog W 0 (fun _ => true) true 37 v d p) : ∃ tg : List UInt8, tg.length = 32 ∧ v = .agg (vs tg).toArray := by
  simp only [Value.okWide, Tryd.underlying37] at hv
  obtain ⟨cs, rfl, hsz, _⟩ := hv
  obtain ⟨fuel, hf⟩ := h0
  obtain ⟨xs, m, rfl, _, hl, hn, hi⟩ := DataW.trod_array Tryd.underlying37 hf
  rw [Tryd.cells_u8] at hi
  have hcs : cs.toList.length = 32 := by
    have e : Tryd.prog.cellsOf 37 = 32 := by kernel_rfl
    rw [e] at hl
    exact hl
  have hcell : ∀ i (h : i < cs.toList.length), ∃ a, cs.toList[i] = .int .u8 a ∧ 0 ≤ a ∧ a ≤ 255 := fun i h => by
    have h32 : i < 32 := by omega
    have hx := hi i h32
    have hx2 : i < xs.length := by omega
    rw [List.getElem?_eq_getElem hx2] at hx
    obtain ⟨a, ea, _, wa⟩ := DataW.trod_int Tryd.underlying5 hx
    have e2 : ((Value.agg cs).cells.toList.drop (i * 1)).take 1 = [cs.toList[i]] := by
      show (cs.toList.drop (i * 1)).take 1 = _
      rw [Nat.mul_one, List.drop_eq_getElem_cons h]
      rfl
    rw [e2] at ea
    exact ⟨a, by simpa using ea, by simpa [Lit.wf, IntKind.min, IntKind.max, IntKind.signed, IntKind.bits] using wa⟩
  refine ⟨cs.toList.map cellByte, by rw [List.length_map]; exact hcs, ?_⟩
  congr 1
  have : vs (cs.toList.map cellByte) = cs.toList := by
    refine List.ext_getElem (by simp [vs]) fun i h1 h2 => ?_
    obtain ⟨a, ea, a0, a1⟩ := hcell i h2
    simp only [vs, List.getElem_map, ea, cellByte, u8]
    congr 1
    rw [UInt8.toNat_ofNat']
    omega
  rw [this]
theorem trodAll_five {P : Program} {w : World} {base : Nat} {spare : Nat → Bool} {held : Bool} {t t' t'' t3 t4 : TypeId} {args : Array Value} {ds : List (DataW H)} {ps : List MemPlace} (h : DataW.TrodAll enc P w base spare held [t, t', t'', t3, t4] args.toList ds ps) :
    ∃ v v' v'' v3 v4 d d' d'' d3 d4 p p' p'' p3 p4, args = #[v, v', v'', v3, v4] ∧ ds = [d, d', d'', d3, d4] ∧ ps = p ++ p' ++ p'' ++ p3 ++ p4 ∧ DataW.Trod enc P w base spare held t v d p ∧ DataW.Trod enc P w base spare held t' v' d' p' ∧ DataW.Trod enc P w base spare held t'' v'' d'' p'' ∧ DataW.Trod enc P w base spare held t3 v3 d3 p3 ∧ DataW.Trod enc P w base spare held t4 v4 d4 p4 := by
  obtain ⟨v, vs, d, ds', p, q, hargs, rfl, rfl, hd, hrest⟩ := trodAll_cons h
  obtain ⟨v', vs', d', ds'', p', q', rfl, rfl, rfl, hd', hrest'⟩ := trodAll_cons hrest
  obtain ⟨v'', vs'', d'', ds''', p'', q'', rfl, rfl, rfl, hd'', hrest''⟩ := trodAll_cons hrest'
  obtain ⟨v3, vs3, d3, ds3, p3, q3, rfl, rfl, rfl, hd3, hrest3⟩ := trodAll_cons hrest''
  obtain ⟨v4, vs4, d4, ds4, p4, q4, rfl, rfl, rfl, hd4, hrest4⟩ := trodAll_cons hrest3
  obtain ⟨rfl, rfl, rfl⟩ := trodAll_nil hrest4
  exact ⟨v, v', v'', v3, v4, d, d', d'', d3, d4, p, p', p'', p3, p4, by cases args; simp_all, rfl, by simp, hd, hd', hd'', hd3, hd4⟩
end

end Go.Proofs.YtnncfhkgcaoomaaDoor
