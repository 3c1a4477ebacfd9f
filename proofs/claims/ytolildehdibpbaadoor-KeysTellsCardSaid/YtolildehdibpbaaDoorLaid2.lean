/-
  Arguments, opened: an int, a byte, an array of 32 bytes by value; five parameters.
-/
import Derived.Test.YtolildehdibpbaaDoorLaid
namespace Go.Proofs.YtolildehdibpbaaDoor
open Go.ChangeShapes Go.WideShapes Go.ChangeAt Go.RowKit

section
variable {H : Type} {enc : TypeId × Value → H} {W : World} {b : Nat} {v : Value} {d : DataW H} {p : List MemPlace}
theorem opened_int (hv : Value.okWide Tryd.prog W .any b 3 v) (h0 : DataW.Trod enc Tryd.prog W 0 (fun _ => true) true 3 v d p) : ∃ y : Int, v = .int .i64 y ∧ -9223372036854775808 ≤ y ∧ y ≤ 9223372036854775807 := by
  obtain ⟨x, rfl, rfl, rfl, wx⟩ := open_int Tryd.underlying3 hv h0
  exact ⟨x, rfl, by simpa [Lit.wf, IntKind.min, IntKind.max, IntKind.signed, IntKind.bits] using wx⟩
theorem opened_u8 (hv : Value.okWide Tryd.prog W .any b 5 v) (h0 : DataW.Trod enc Tryd.prog W 0 (fun _ => true) true 5 v d p) : ∃ y : UInt8, v = .int .u8 (y.toNat : Int) := by
  obtain ⟨x, rfl, rfl, rfl, wx⟩ := open_int Tryd.underlying5 hv h0
  have hx : 0 ≤ x ∧ x ≤ 255 := by simpa [Lit.wf, IntKind.min, IntKind.max, IntKind.signed, IntKind.bits] using wx
  refine ⟨UInt8.ofNat x.toNat, ?_⟩
  congr 1
  rw [UInt8.toNat_ofNat']
  omega
/-- the byte in a cell -/
def cellByte : Value → UInt8
  | .int _ a => UInt8.ofNat a.toNat
  | _ => 0
theorem opened_tag (hv : Value.okWide Tryd.prog W .any b 28 v) (h0 : DataW.Trod enc Tryd.prog W 0 (fun _ => true) true 28 v d p) : ∃ tg : List UInt8, tg.length = 32 ∧ v = .agg (vs tg).toArray := by
  simp only [Value.okWide, Tryd.underlying28] at hv
  obtain ⟨cs, rfl, hsz, _⟩ := hv
  obtain ⟨fuel, hf⟩ := h0
  obtain ⟨xs, m, rfl, _, hl, hn, hi⟩ := DataW.trod_array Tryd.underlying28 hf
  rw [Tryd.cells_u8] at hi
  have hcs : cs.toList.length = 32 := by
    have e : Tryd.prog.cellsOf 28 = 32 := by kernel_rfl
    rw [e] at hl
    exact hl
  have hcell : ∀ i (h : i < cs.toList.length), ∃ a, cs.toList[i] = .int .u8 a ∧ 0 ≤ a ∧ a ≤ 255 := fun i h => by
    have h32 : i < 32 := by omega
    have hx := hi i h32
    have hx2 : i < xs.length := by omega
    rw [List.getElem?_eq_getElem hx2] at hx
    obtain ⟨a, ea, _, wa⟩ := DataW.trod_int Tryd.underlying5 hx
    have e2 : ((Value.agg cs).cells.toList.drop (i * 1)).take 1 = [cs.toList[i]] := by
      show (cs.toList.drop (i * 1)).take 1 = _
      rw [Nat.mul_one, List.drop_eq_getElem_cons h]
      rfl
    rw [e2] at ea
    exact ⟨a, by simpa using ea, by simpa [Lit.wf, IntKind.min, IntKind.max, IntKind.signed, IntKind.bits] using wa⟩
  refine ⟨cs.toList.map cellByte, by rw [List.length_map]; exact hcs, ?_⟩
  congr 1
  have : vs (cs.toList.map cellByte) = cs.toList := by
    refine List.ext_getElem (by simp [vs]) fun i h1 h2 => ?_
    obtain ⟨a, ea, a0, a1⟩ := hcell i h2
    simp only [vs, List.getElem_map, ea, cellByte, u8]
    congr 1
    rw [UInt8.toNat_ofNat']
    omega
  rw [this]
theorem trodAll_five {P : Program} {w : World} {base : Nat} {spare : Nat → Bool} {held : Bool} {t t' t'' t3 t4 : TypeId} {args : Array Value} {ds : List (DataW H)} {ps : List MemPlace} (h : DataW.TrodAll enc P w base spare held [t, t', t'', t3, t4] args.toList ds ps) :
    ∃ v v' v'' v3 v4 d d' d'' d3 d4 p p' p'' p3 p4, args = #[v, v', v'', v3, v4] ∧ ds = [d, d', d'', d3, d4] ∧ ps = p ++ p' ++ p'' ++ p3 ++ p4 ∧ DataW.Trod enc P w base spare held t v d p ∧ DataW.Trod enc P w base spare held t' v' d' p' ∧ DataW.Trod enc P w base spare held t'' v'' d'' p'' ∧ DataW.Trod enc P w base spare held t3 v3 d3 p3 ∧ DataW.Trod enc P w base spare held t4 v4 d4 p4 := by
  obtain ⟨v, vs, d, ds', p, q, hargs, rfl, rfl, hd, hrest⟩ := trodAll_cons h
  obtain ⟨v', vs', d', ds'', p', q', rfl, rfl, rfl, hd', hrest'⟩ := trodAll_cons hrest
  obtain ⟨v'', vs'', d'', ds''', p'', q'', rfl, rfl, rfl, hd'', hrest''⟩ := trodAll_cons hrest'
  obtain ⟨v3, vs3, d3, ds3, p3, q3, rfl, rfl, rfl, hd3, hrest3⟩ := trodAll_cons hrest''
  obtain ⟨v4, vs4, d4, ds4, p4, q4, rfl, rfl, rfl, hd4, hrest4⟩ := trodAll_cons hrest3
  obtain ⟨rfl, rfl, rfl⟩ := trodAll_nil hrest4
  exact ⟨v, v', v'', v3, v4, d, d', d'', d3, d4, p, p', p'', p3, p4, by cases args; simp_all, rfl, by simp, hd, hd', hd'', hd3, hd4⟩
end

end Go.Proofs.YtolildehdibpbaaDoor
