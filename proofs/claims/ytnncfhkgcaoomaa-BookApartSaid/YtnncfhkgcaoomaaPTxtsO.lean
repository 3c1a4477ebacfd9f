/-
  A slice of slices of bytes that came in.
-/
import Derived.Test.YtnncfhkgcaoomaaPOpen
import Derived.Test.YtnncfhkgcaoomaaPTxts
namespace Go.Proofs.Ytnncfhkgcaoomaa
open Go.ChangeShapes Go.WideShapes Go.ChangeAt Go.RowKit Go.Deep

theorem openedTxts {H : Type} {enc : TypeId × Value → H} {W : World} {a0 : Option Addr} {len cap : Nat} {d0 : DataW H} {p : List MemPlace}
    (h0 : DataW.Trod enc Try.prog W 0 (fun _ => true) true 45 (.slice a0 len cap) d0 p) : Txts W a0 len := by
  obtain ⟨fuel, hf⟩ := h0
  have hc1 : Try.prog.cellsOf 33 = 1 := by kernel_rfl
  rcases open_slice1 Try.underlying45 hc1 hf with ⟨hcs, hx⟩ | ⟨a, len', cap', m, n, V, D, Pl, hcs, _, hl, hm, hmm, hx, hi⟩
  · simp [Value.cells] at hcs
    obtain ⟨rfl, rfl, rfl⟩ := hcs
    exact fun h => absurd h (by omega)
  · simp [Value.cells] at hcs
    obtain ⟨rfl, rfl, rfl⟩ := hcs
    simp only [if_true] at hmm
    subst hmm
    intro hn
    obtain ⟨b, o, s⟩ := a
    obtain rfl : s = none := by simpa [Addr.add] using World.cell?_spot (hi 0 (by omega)).1
    refine ⟨b, o, rfl, fun i hil => ?_⟩
    obtain ⟨hc, ht⟩ := hi i (by omega)
    obtain ⟨A, n', c, t, he, hy, _⟩ := opened_cell ht
    rw [Go.WideShapes.add_plain] at hc
    have he' : V i = .slice A n' c := by simpa using he
    rw [he'] at hc
    exact ⟨A, n', c, t, hc, hy⟩

end Go.Proofs.Ytnncfhkgcaoomaa
