/-
  Arguments, opened: a slice of ints, tags in cells, a slice of tags, a message (beside the tables).
-/
import Derived.Test.YtnncfhkgcaoomaaDoorLX
import Derived.Test.YtnncfhkgcaoomaaDoorVecW
import Derived.Deep.Slices
import Derived.Deep.Fields
namespace Go.Proofs.YtnncfhkgcaoomaaDoor
open Go.ChangeShapes Go.WideShapes Go.ChangeAt Go.RowKit Go.Deep

/-- A slice of bytes in a cell of its own reads as bytes. -/
theorem opened_cell {H : Type} {enc : TypeId × Value → H} {W : World} {fuel : Nat} {cs : List Value} {x : DataW H × List MemPlace}
    (hf : DataW.trod enc Tryd.prog W 0 (fun _ => true) true fuel 22 cs = some x) :
    ∃ A n c xs, cs = [.slice A n c] ∧ By W (fun _ => True) A n xs ∧ n ≤ c ∧ c ≤ maxLen := by
  rcases open_ints Tryd.underlying22 Tryd.underlying5 Tryd.cells_u8 hf with ⟨hcs, hx⟩ | ⟨a, len', cap', zs, hcs, _, hl, hm, hz, hx, hcell, hwz⟩
  · exact ⟨none, 0, 0, [], hcs, By.none_, Nat.le_refl _, Nat.zero_le _⟩
  · simp only [if_true] at hz
    refine ⟨some a, len', cap', (zs.take len').map fun x => UInt8.ofNat x.toNat, hcs, ⟨by simp; omega, fun hn => ?_⟩, by omega, hm⟩
    obtain ⟨b, o, s⟩ := a
    obtain rfl : s = none := by simpa [Addr.add] using World.cell?_spot (hcell 0 (by omega))
    refine ⟨b, o, rfl, trivial, fun j u hu => ?_⟩
    have hj : j < len' := by
      have := (List.getElem?_eq_some_iff.1 hu).1
      simp at this
      omega
    have hjz : j < zs.length := by omega
    have e := hcell j (by omega)
    rw [Go.WideShapes.add_plain] at e
    rw [e]
    have hw := hwz zs[j] (List.getElem_mem _)
    have hb : 0 ≤ zs[j] ∧ zs[j] ≤ 255 := by simpa [Lit.wf, IntKind.min, IntKind.max, IntKind.signed, IntKind.bits] using hw
    simp [hj, hjz] at hu
    subst hu
    simp [List.getD, hjz, u8]
    omega

theorem tag_of_trod {H : Type} {enc : TypeId × Value → H} {W : World} {base : Nat} {spare : Nat → Bool} {held : Bool} {fuel : Nat} {cs : List Value} {x : DataW H × List MemPlace}
    (hf : DataW.trod enc Tryd.prog W base spare held fuel 37 cs = some x) : ∃ tg : List UInt8, tg.length = 32 ∧ cs = vs tg := by
  obtain ⟨xs, m, rfl, _, hl, hn, hi⟩ := DataW.trod_array Tryd.underlying37 hf
  rw [Tryd.cells_u8] at hi
  have hcs : cs.length = 32 := by
    have e : Tryd.prog.cellsOf 37 = 32 := by kernel_rfl
    rw [e] at hl
    exact hl
  have hcell : ∀ i (h : i < cs.length), ∃ a, cs[i] = .int .u8 a ∧ 0 ≤ a ∧ a ≤ 255 := fun i h => by
    have h32 : i < 32 := by omega
    have hx := hi i h32
    have hx2 : i < xs.length := by omega
    rw [List.getElem?_eq_getElem hx2] at hx
    obtain ⟨a, ea, _, wa⟩ := DataW.trod_int Tryd.underlying5 hx
    have e2 : (cs.drop (i * 1)).take 1 = [cs[i]] := by
      rw [Nat.mul_one, List.drop_eq_getElem_cons h]
      rfl
    rw [e2] at ea
    exact ⟨a, by simpa using ea, by simpa [Lit.wf, IntKind.min, IntKind.max, IntKind.signed, IntKind.bits] using wa⟩
  refine ⟨cs.map cellByte, by rw [List.length_map]; exact hcs, ?_⟩
  refine (List.ext_getElem (by simp [vs]) fun i h1 h2 => ?_).symm
  obtain ⟨a, ea, a0, a1⟩ := hcell i h2
  simp only [vs, List.getElem_map, ea, cellByte, u8]
  congr 1
  rw [UInt8.toNat_ofNat']
  omega

/-- A slice of tags in a cell of its own. -/
theorem tags_of_trod {H : Type} {enc : TypeId × Value → H} {W : World} {fuel : Nat} {cs : List Value} {x : DataW H × List MemPlace}
    (hf : DataW.trod enc Tryd.prog W 0 (fun _ => true) true fuel 24 cs = some x) : ∃ A n c tgs, cs = [.slice A n c] ∧ Tg W A n tgs := by
  rcases open_slice Tryd.underlying24 hf with ⟨hcs, hx⟩ | ⟨a, len', cap', m, n, D, Pl, hcs, _, hl, hm, hmm, hx, hi⟩
  · exact ⟨none, 0, 0, [], hcs, Tg.none_⟩
  · simp only [if_true] at hmm
    subst hmm
    have e32 : Tryd.prog.cellsOf 37 = 32 := by kernel_rfl
    rw [e32] at hi
    have all : ∀ i, ∃ tg : List UInt8, i < len' → tg.length = 32 ∧ ∀ k u, (vs tg)[k]? = some u → W.cell? ((a.add (i * 32)).add k) = some u := fun i => by
      by_cases hil : i < len'
      · obtain ⟨cs', hc, ht⟩ := hi i (by omega)
        obtain ⟨_, hlen, hcell⟩ := World.cells?_some hc
        obtain ⟨tg, htl, rfl⟩ := tag_of_trod ht
        refine ⟨tg, fun _ => ⟨htl, fun k u hu => ?_⟩⟩
        have hk : k < 32 := by
          have := (List.getElem?_eq_some_iff.1 hu).1
          rw [vs_length, htl] at this
          exact this
        exact (hcell k hk).trans hu
      · exact ⟨[], fun h => absurd h hil⟩
    obtain ⟨f, hff⟩ := Classical.axiomOfChoice all
    refine ⟨some a, len', _, (List.range len').map f, hcs, by simp, fun t ht => ?_, fun hn => ?_⟩
    · obtain ⟨k, hk, rfl⟩ := List.mem_map.1 ht
      exact (hff k (by simpa using hk)).1
    · obtain ⟨b, o, s⟩ := a
      have h0 := hff 0 hn
      have hv : 0 < (vs (f 0)).length := by rw [vs_length, h0.1]; omega
      have hc0 := h0.2 0 _ (List.getElem?_eq_getElem hv)
      obtain rfl : s = none := by simpa [Addr.add] using World.cell?_spot hc0
      refine ⟨b, o, rfl, fun j t ht k u hu => ?_⟩
      have hj : j < len' := by
        have := (List.getElem?_eq_some_iff.1 ht).1
        simpa using this
      have et : f j = t := by simpa [hj] using ht
      subst et
      have h1 := (hff j hj).2 k u hu
      rw [Go.WideShapes.add_plain, Go.WideShapes.add_plain, Nat.add_assoc] at h1
      exact h1

/-- An argument of type Message. -/
theorem openedMsg {H : Type} {enc : TypeId × Value → H} {W : World} {b : Nat} {v : Value} {d : DataW H} {p : List MemPlace} (hv : Value.okWide Tryd.prog W .any b 26 v)
    (h0 : DataW.Trod enc Tryd.prog W 0 (fun _ => true) true 26 v d p) :
    ∃ (k f : Int) (B : Option Addr) (nb cb : Nat) (xs : List UInt8) (A : Option Addr) (nt ct : Nat) (tgs : List (List UInt8)), v = .agg #[.int .i64 k, .int .i64 f, .slice B nb cb, .slice A nt ct] ∧ By W (fun _ => True) B nb xs ∧ Tg W A nt tgs := by
  simp only [Value.okWide, Tryd.underlying26] at hv
  obtain ⟨cs, rfl, hsz, _⟩ := hv
  obtain ⟨fuel, hf⟩ := h0
  obtain ⟨xs, n, _, _, hl, hlen, hg⟩ := DataW.trod_struct Tryd.underlying26 hf
  have e4 : Tryd.prog.cellsOf 26 = 4 := by kernel_rfl
  have hone : ∀ (i : Nat) (f : Field), (Tryd.prog.fieldsOf 26)[i]? = some f → f.offset = i ∧ Tryd.prog.cellsOf f.type = 1 := hone_of (by kernel_rfl)
  have hcl : cs.toList.length = 4 := by rw [e4] at hl; exact hl
  obtain ⟨cs⟩ := cs
  match cs, hcl with
  | [c0, c1, c2, c3], _ =>
    have g0 := hg 0 _ rfl
    have g1 := hg 1 _ rfl
    have g2 := hg 2 _ rfl
    have g3 := hg 3 _ rfl
    have hx : ∀ i, i < 4 → ∃ y, xs[i]? = some y := fun i hi => ⟨_, List.getElem?_eq_getElem (by have := hlen; simp at this; omega)⟩
    obtain ⟨y0, hy0⟩ := hx 0 (by omega)
    obtain ⟨y1, hy1⟩ := hx 1 (by omega)
    obtain ⟨y2, hy2⟩ := hx 2 (by omega)
    obtain ⟨y3, hy3⟩ := hx 3 (by omega)
    rw [hy0] at g0
    rw [hy1] at g1
    rw [hy2] at g2
    rw [hy3] at g3
    have ci : Tryd.prog.cellsOf 3 = 1 := by kernel_rfl
    have cb : Tryd.prog.cellsOf 22 = 1 := by kernel_rfl
    have ct : Tryd.prog.cellsOf 24 = 1 := by kernel_rfl
    simp only [List.getElem_toArray, List.getElem_cons_zero, List.getElem_cons_succ] at g0 g1 g2 g3
    rw [ci] at g0 g1
    rw [cb] at g2
    rw [ct] at g3
    obtain ⟨k, hk, _⟩ := DataW.trod_int Tryd.underlying3 g0
    obtain ⟨f, hf', _⟩ := DataW.trod_int Tryd.underlying3 g1
    obtain ⟨B, nb, cb', bs, hB, hby, _⟩ := opened_cell g2
    obtain ⟨A, nt, ct', tgs, hA, hta⟩ := tags_of_trod g3
    simp [Value.cells] at hk hf' hB hA
    subst hk; subst hf'; subst hB; subst hA
    exact ⟨k, f, B, nb, cb', bs, A, nt, ct', tgs, rfl, hby, hta⟩


theorem openedInts {H : Type} {enc : TypeId × Value → H} {W : World} {a0 : Option Addr} {len cap : Nat} {d0 : DataW H} {p : List MemPlace}
    (h0 : DataW.Trod enc Tryd.prog W 0 (fun _ => true) true 23 (.slice a0 len cap) d0 p) : ∃ xs : List Int, Iv W (fun _ => True) a0 len xs := by
  obtain ⟨fuel, hf⟩ := h0
  have hc1 : Tryd.prog.cellsOf 3 = 1 := by kernel_rfl
  rcases open_ints Tryd.underlying23 Tryd.underlying3 hc1 hf with ⟨hcs, hx⟩ | ⟨a, len', cap', zs, hcs, _, hl, hm, hz, hx, hcell, hwz⟩
  · simp [Value.cells] at hcs
    obtain ⟨rfl, rfl, rfl⟩ := hcs
    exact ⟨[], Iv.none_⟩
  · simp [Value.cells] at hcs
    obtain ⟨rfl, rfl, rfl⟩ := hcs
    simp only [if_true] at hz
    refine ⟨zs.take len, by simp; omega, fun hn => ?_⟩
    obtain ⟨b, o, s⟩ := a
    obtain rfl : s = none := by simpa [Addr.add] using World.cell?_spot (hcell 0 (by omega))
    refine ⟨b, o, rfl, trivial, fun j u hu => ?_⟩
    have hj : j < len := by
      have := (List.getElem?_eq_some_iff.1 hu).1
      simp at this
      omega
    have hjz : j < zs.length := by omega
    have e := hcell j (by omega)
    rw [Go.WideShapes.add_plain] at e
    rw [e]
    simp [hj, hjz] at hu
    subst hu
    simp [List.getD, hjz]

end Go.Proofs.YtnncfhkgcaoomaaDoor
