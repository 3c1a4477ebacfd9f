/-
  A slice of acts that came in.
-/
import Derived.Test.YtnncfhkgcaoomaaPlays
import Derived.Test.YtnncfhkgcaoomaaMsgO
namespace Go.Proofs.Ytnncfhkgcaoomaa
open Go.ChangeShapes Go.WideShapes Go.ChangeAt Go.RowKit Go.Deep

theorem act_of_trod {H : Type} {enc : TypeId × Value → H} {W : World} {fuel : Nat} {cs : List Value} {x : DataW H × List MemPlace} (hcl : cs.length = 36)
    (hf : DataW.trod enc Try.prog W 0 (fun _ => true) true fuel 37 cs = some x) : ∃ kd a b T n c t tg, cs = actC kd a b T n c tg ∧ By W (fun _ => True) T n t ∧ tg.length = 32 := by
  obtain ⟨xs, n, _, _, hl, hlen, hg⟩ := DataW.trod_struct Try.underlying37 hf
  have g0 := hg 0 _ rfl
  have g1 := hg 1 _ rfl
  have g2 := hg 2 _ rfl
  have g3 := hg 3 _ rfl
  have g4 := hg 4 _ rfl
  have hx : ∀ i, i < 5 → ∃ y, xs[i]? = some y := fun i hi => ⟨_, List.getElem?_eq_getElem (by have := hlen; simp at this; omega)⟩
  obtain ⟨y0, hy0⟩ := hx 0 (by omega)
  obtain ⟨y1, hy1⟩ := hx 1 (by omega)
  obtain ⟨y2, hy2⟩ := hx 2 (by omega)
  obtain ⟨y3, hy3⟩ := hx 3 (by omega)
  obtain ⟨y4, hy4⟩ := hx 4 (by omega)
  rw [hy0] at g0
  rw [hy1] at g1
  rw [hy2] at g2
  rw [hy3] at g3
  rw [hy4] at g4
  have ci : Try.prog.cellsOf 3 = 1 := by kernel_rfl
  have cu : Try.prog.cellsOf 5 = 1 := by kernel_rfl
  have cb : Try.prog.cellsOf 33 = 1 := by kernel_rfl
  have ct : Try.prog.cellsOf 35 = 32 := by kernel_rfl
  simp only [List.getElem_toArray, List.getElem_cons_zero, List.getElem_cons_succ] at g0 g1 g2 g3 g4
  rw [cu] at g0
  rw [ci] at g1 g2
  rw [cb] at g3
  rw [ct] at g4
  obtain ⟨k, hk, _, wk⟩ := DataW.trod_int Try.underlying5 g0
  obtain ⟨a, ha, _⟩ := DataW.trod_int Try.underlying3 g1
  obtain ⟨b, hb, _⟩ := DataW.trod_int Try.underlying3 g2
  obtain ⟨T, nt, c, t, hT, hby, _⟩ := opened_cell g3
  obtain ⟨tg, htl, htg⟩ := tag_of_trod g4
  have hkr : 0 ≤ k ∧ k ≤ 255 := by simpa [Lit.wf, IntKind.min, IntKind.max, IntKind.signed, IntKind.bits] using wk
  have hku : Value.int .u8 k = .int .u8 ((UInt8.ofNat k.toNat).toNat : Int) := by
    congr 1
    rw [UInt8.toNat_ofNat']
    omega
  refine ⟨UInt8.ofNat k.toNat, a, b, T, nt, c, t, tg, ?_, hby, htl⟩
  match cs, hcl with
  | c0 :: c1 :: c2 :: c3 :: rest, hcl =>
    simp at hk ha hb hT htg
    have hr : rest.length = 32 := by simpa using hcl
    rw [List.take_of_length_le (by omega)] at htg
    subst hk; subst ha; subst hb; subst hT; subst htg
    unfold actC
    rw [← hku]
    rfl

theorem openedActs {H : Type} {enc : TypeId × Value → H} {W : World} {a0 : Option Addr} {len cap : Nat} {d0 : DataW H} {p : List MemPlace}
    (h0 : DataW.Trod enc Try.prog W 0 (fun _ => true) true 22 (.slice a0 len cap) d0 p) : Acts W a0 len := by
  obtain ⟨fuel, hf⟩ := h0
  rcases open_slice Try.underlying22 hf with ⟨hcs, hx⟩ | ⟨a, len', cap', m, n, D, Pl, hcs, _, hl, hm, hmm, hx, hi⟩
  · simp [Value.cells] at hcs
    obtain ⟨rfl, rfl, rfl⟩ := hcs
    exact fun h => absurd h (by omega)
  · simp [Value.cells] at hcs
    obtain ⟨rfl, rfl, rfl⟩ := hcs
    simp only [if_true] at hmm
    subst hmm
    have e36 : Try.prog.cellsOf 37 = 36 := by kernel_rfl
    rw [e36] at hi
    intro hn
    obtain ⟨b, o, s⟩ := a
    have hs : s = none := by
      obtain ⟨cs', hc, ht⟩ := hi 0 (by omega)
      obtain ⟨_, hlen, hcell⟩ := World.cells?_some hc
      have c0 := (hcell 0 (by omega)).trans (List.getElem?_eq_getElem (by omega))
      simpa [Addr.add] using World.cell?_spot c0
    subst hs
    refine ⟨b, o, rfl, fun i hil => ?_⟩
    obtain ⟨cs', hc, ht⟩ := hi i (by omega)
    obtain ⟨_, hlen, hcell⟩ := World.cells?_some hc
    obtain ⟨kd, x, y, T, n', c, t, tg, rfl, hby, htl⟩ := act_of_trod hlen ht
    refine ⟨kd, x, y, T, n', c, t, tg, fun k u hu => ?_, hby, htl⟩
    have hk : k < 36 := by
      have := (List.getElem?_eq_some_iff.1 hu).1
      rw [hlen] at this
      exact this
    have h1 := (hcell k hk).trans hu
    rw [Go.WideShapes.add_plain, Go.WideShapes.add_plain] at h1
    exact h1

end Go.Proofs.Ytnncfhkgcaoomaa
