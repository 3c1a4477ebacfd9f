/-
  The laws' arguments, opened: bytes, an int, a byte, an array of 32 bytes, a slice of slices of bytes.
-/
import Derived.Test.YtnncfhkgcaoomaaKF
import Derived.ProofKit
import Derived.Deep.Slices
import Derived.Deep.Fields
namespace Go.Proofs.Ytnncfhkgcaoomaa
open Go.ChangeShapes Go.WideShapes Go.ChangeAt Go.RowKit Go.Deep

theorem Try.own : ownKnob Try.prog.godebug = none := by kernel_rfl

theorem Try.laidOut : laidOutB Try.prog = true := by kernel_rfl

theorem Try.cells_u8 : Try.prog.cellsOf 5 = 1 := by kernel_rfl

/-- An argument of type []byte, nil or not, reads as bytes. -/
theorem opened {H : Type} {enc : TypeId × Value → H} {W : World} {a0 : Option Addr} {len cap : Nat} {d0 : DataW H} {p : List MemPlace}
    (h0 : DataW.Trod enc Try.prog W 0 (fun _ => true) true 33 (.slice a0 len cap) d0 p) :
    ∃ xs : List UInt8, By W (fun _ => True) a0 len xs ∧ len ≤ cap := by
  obtain ⟨fuel, hf⟩ := h0
  rcases open_ints Try.underlying33 Try.underlying5 Try.cells_u8 hf with ⟨hcs, hx⟩ | ⟨a, len', cap', zs, hcs, _, hl, hm, hz, hx, hcell, hwz⟩
  · simp [Value.cells] at hcs
    obtain ⟨rfl, rfl, rfl⟩ := hcs
    exact ⟨[], By.none_, Nat.le_refl _⟩
  · simp [Value.cells] at hcs
    obtain ⟨rfl, rfl, rfl⟩ := hcs
    simp only [if_true] at hz
    refine ⟨(zs.take len).map fun x => UInt8.ofNat x.toNat, ⟨by simp; omega, fun hn => ?_⟩, by omega⟩
    obtain ⟨b, o, s⟩ := a
    obtain rfl : s = none := by simpa [Addr.add] using World.cell?_spot (hcell 0 (by omega))
    refine ⟨b, o, rfl, trivial, fun j u hu => ?_⟩
    have hj : j < len := by
      have := (List.getElem?_eq_some_iff.1 hu).1
      simp at this
      omega
    have hjz : j < zs.length := by omega
    have e := hcell j (by omega)
    rw [Go.WideShapes.add_plain] at e
    rw [e]
    have hw := hwz zs[j] (List.getElem_mem _)
    have hb : 0 ≤ zs[j] ∧ zs[j] ≤ 255 := by simpa [Lit.wf, IntKind.min, IntKind.max, IntKind.signed, IntKind.bits] using hw
    simp [hj, hjz] at hu
    subst hu
    simp [List.getD, hjz, u8]
    omega

section
variable {H : Type} {enc : TypeId × Value → H} {W : World} {b : Nat} {v : Value} {d : DataW H} {p : List MemPlace}
theorem opened_int (hv : Value.okWide Try.prog W .any b 3 v) (h0 : DataW.Trod enc Try.prog W 0 (fun _ => true) true 3 v d p) : ∃ y : Int, v = .int .i64 y ∧ -9223372036854775808 ≤ y ∧ y ≤ 9223372036854775807 := by
  obtain ⟨x, rfl, rfl, rfl, wx⟩ := open_int Try.underlying3 hv h0
  exact ⟨x, rfl, by simpa [Lit.wf, IntKind.min, IntKind.max, IntKind.signed, IntKind.bits] using wx⟩
theorem opened_u8 (hv : Value.okWide Try.prog W .any b 5 v) (h0 : DataW.Trod enc Try.prog W 0 (fun _ => true) true 5 v d p) : ∃ y : UInt8, v = .int .u8 (y.toNat : Int) := by
  obtain ⟨x, rfl, rfl, rfl, wx⟩ := open_int Try.underlying5 hv h0
  have hx : 0 ≤ x ∧ x ≤ 255 := by simpa [Lit.wf, IntKind.min, IntKind.max, IntKind.signed, IntKind.bits] using wx
  refine ⟨UInt8.ofNat x.toNat, ?_⟩
  congr 1
  rw [UInt8.toNat_ofNat']
  omega
/-- the byte in a cell -/
def cellByte : Value → UInt8
  | .int _ a => UInt8.ofNat a.toNat
  | _ => 0
theorem opened_tag (hv : Value.okWide Try.prog W .any b 35 v) (h0 : DataW.Trod enc Try.prog W 0 (fun _ => true) true 35 v d p) : ∃ tg : List UInt8, tg.length = 32 ∧ v = .agg (vs tg).toArray := by
  simp only [Value.okWide, Try.underlying35] at hv
  obtain ⟨cs, rfl, hsz, _⟩ := hv
  obtain ⟨fuel, hf⟩ := h0
  obtain ⟨xs, m, rfl, _, hl, hn, hi⟩ := DataW.trod_array Try.underlying35 hf
  rw [Try.cells_u8] at hi
  have hcs : cs.toList.length = 32 := by
    have e : Try.prog.cellsOf 35 = 32 := by kernel_rfl
    rw [e] at hl
    exact hl
  have hcell : ∀ i (h : i < cs.toList.length), ∃ a, cs.toList[i] = .int .u8 a ∧ 0 ≤ a ∧ a ≤ 255 := fun i h => by
    have h32 : i < 32 := by omega
    have hx := hi i h32
    have hx2 : i < xs.length := by omega
    rw [List.getElem?_eq_getElem hx2] at hx
    obtain ⟨a, ea, _, wa⟩ := DataW.trod_int Try.underlying5 hx
    have e2 : ((Value.agg cs).cells.toList.drop (i * 1)).take 1 = [cs.toList[i]] := by
      show (cs.toList.drop (i * 1)).take 1 = _
      rw [Nat.mul_one, List.drop_eq_getElem_cons h]
      rfl
    rw [e2] at ea
    exact ⟨a, by simpa using ea, by simpa [Lit.wf, IntKind.min, IntKind.max, IntKind.signed, IntKind.bits] using wa⟩
  refine ⟨cs.toList.map cellByte, by rw [List.length_map]; exact hcs, ?_⟩
  congr 1
  have : vs (cs.toList.map cellByte) = cs.toList := by
    refine List.ext_getElem (by simp [vs]) fun i h1 h2 => ?_
    obtain ⟨a, ea, a0, a1⟩ := hcell i h2
    simp only [vs, List.getElem_map, ea, cellByte, u8]
    congr 1
    rw [UInt8.toNat_ofNat']
    omega
  rw [this]
theorem trodAll_five {P : Program} {w : World} {base : Nat} {spare : Nat → Bool} {held : Bool} {t t' t'' t3 t4 : TypeId} {args : Array Value} {ds : List (DataW H)} {ps : List MemPlace} (h : DataW.TrodAll enc P w base spare held [t, t', t'', t3, t4] args.toList ds ps) :
    ∃ v v' v'' v3 v4 d d' d'' d3 d4 p p' p'' p3 p4, args = #[v, v', v'', v3, v4] ∧ ds = [d, d', d'', d3, d4] ∧ ps = p ++ p' ++ p'' ++ p3 ++ p4 ∧ DataW.Trod enc P w base spare held t v d p ∧ DataW.Trod enc P w base spare held t' v' d' p' ∧ DataW.Trod enc P w base spare held t'' v'' d'' p'' ∧ DataW.Trod enc P w base spare held t3 v3 d3 p3 ∧ DataW.Trod enc P w base spare held t4 v4 d4 p4 := by
  obtain ⟨v, vs, d, ds', p, q, hargs, rfl, rfl, hd, hrest⟩ := trodAll_cons h
  obtain ⟨v', vs', d', ds'', p', q', rfl, rfl, rfl, hd', hrest'⟩ := trodAll_cons hrest
  obtain ⟨v'', vs'', d'', ds''', p'', q'', rfl, rfl, rfl, hd'', hrest''⟩ := trodAll_cons hrest'
  obtain ⟨v3, vs3, d3, ds3, p3, q3, rfl, rfl, rfl, hd3, hrest3⟩ := trodAll_cons hrest''
  obtain ⟨v4, vs4, d4, ds4, p4, q4, rfl, rfl, rfl, hd4, hrest4⟩ := trodAll_cons hrest3
  obtain ⟨rfl, rfl, rfl⟩ := trodAll_nil hrest4
  exact ⟨v, v', v'', v3, v4, d, d', d'', d3, d4, p, p', p'', p3, p4, by cases args; simp_all, rfl, by simp, hd, hd', hd'', hd3, hd4⟩
end

/-- A slice of bytes in a cell of its own reads as bytes. -/
theorem opened_cell {H : Type} {enc : TypeId × Value → H} {W : World} {fuel : Nat} {cs : List Value} {x : DataW H × List MemPlace}
    (hf : DataW.trod enc Try.prog W 0 (fun _ => true) true fuel 33 cs = some x) :
    ∃ A n c xs, cs = [.slice A n c] ∧ By W (fun _ => True) A n xs ∧ n ≤ c ∧ c ≤ maxLen := by
  rcases open_ints Try.underlying33 Try.underlying5 Try.cells_u8 hf with ⟨hcs, hx⟩ | ⟨a, len', cap', zs, hcs, _, hl, hm, hz, hx, hcell, hwz⟩
  · exact ⟨none, 0, 0, [], hcs, By.none_, Nat.le_refl _, Nat.zero_le _⟩
  · simp only [if_true] at hz
    refine ⟨some a, len', cap', (zs.take len').map fun x => UInt8.ofNat x.toNat, hcs, ⟨by simp; omega, fun hn => ?_⟩, by omega, hm⟩
    obtain ⟨b, o, s⟩ := a
    obtain rfl : s = none := by simpa [Addr.add] using World.cell?_spot (hcell 0 (by omega))
    refine ⟨b, o, rfl, trivial, fun j u hu => ?_⟩
    have hj : j < len' := by
      have := (List.getElem?_eq_some_iff.1 hu).1
      simp at this
      omega
    have hjz : j < zs.length := by omega
    have e := hcell j (by omega)
    rw [Go.WideShapes.add_plain] at e
    rw [e]
    have hw := hwz zs[j] (List.getElem_mem _)
    have hb : 0 ≤ zs[j] ∧ zs[j] ≤ 255 := by simpa [Lit.wf, IntKind.min, IntKind.max, IntKind.signed, IntKind.bits] using hw
    simp [hj, hjz] at hu
    subst hu
    simp [List.getD, hjz, u8]
    omega

end Go.Proofs.Ytnncfhkgcaoomaa
