/-
  Joined: WnV.
-/
import Derived.Deep.CutBlock
import Derived.BigRegion
import Derived.Deep.RegionHeld
import Derived.BigGuard
import Derived.Test.YtponmfkddglopaaWU38
namespace Go.Proofs.Ytponmfkddglopaa
open Go.RowKit

def rowQ (A : Option Addr) (n : Nat) : Nat → Prop := fun q => 0 < n ∧ ∃ a, A = some a ∧ a.block = q
def pairW (f : List Fr) : Lw := f.map (fun x => (x.q, x.s))
/-- the document's log: its box, its two rows, its slots -/
structure DLg (W : World) (L : Nat) (n low : Int) (f : List Fr) (A B : Option Addr) (c d : Nat) : Prop where
 box : Blk W L 38 (lgC n low (.slice A f.length c) (.slice B f.length d))
 hc : f.length ≤ c
 hd : f.length ≤ d
 sq : QIn W A f.length (f.map Fr.q)
 pt : VIn W B f.length (f.map Fr.v)
 fam : Fam TD W f
 apA : ∀ q, rowQ A f.length q → q ≠ L ∧ ¬ FD f q
 apB : ∀ q, rowQ B f.length q → q ≠ L ∧ ¬ FD f q
 apL : ¬ FD f L
theorem Sl.ft {w w' : World} {D : Nat → Prop} {A : Option Addr} {n : Nat} {xs : List (List Value)} (h : Sl w 1 A n xs) (hx : ∀ x ∈ xs, x.length = 1) (hf : Ft D w w') (ha : ∀ q, rowQ A n q → ¬ D q) : Sl w' 1 A n xs := by
 refine ⟨h.1, fun hn => ?_⟩
 obtain ⟨g, o, e, hc⟩ := h.2 hn
 refine ⟨g, o, e, fun i cs hi => ?_⟩
 have h1 := hc i cs hi
 have hl := hx cs (List.mem_of_getElem? hi)
 intro j v hv
 have h2 := h1 j v hv
 have hb : w'.heap[g]? = w.heap[g]? := hf.block g (World.block_lt_of_cell? _ _ h2) (ha g ⟨hn, _, e, rfl⟩)
 rw [show w'.cell? ⟨g, o + i * 1 + j, none⟩ = w.cell? ⟨g, o + i * 1 + j, none⟩ by unfold World.cell?; simp only [hb]]
 exact h2
theorem DLg.ft {W W' : World} {L : Nat} {n n' low low' : Int} {f : List Fr} {A B : Option Addr} {c d : Nat} (h : DLg W L n low f A B c d) (hf : Ft (fun q => q = L) W W') (hB : Blk W' L 38 (lgC n' low' (.slice A f.length c) (.slice B f.length d))) : DLg W' L n' low' f A B c d :=
 ⟨hB, h.hc, h.hd, Sl.ft h.sq (fun x hx => by obtain ⟨a, _, rfl⟩ := List.mem_map.1 hx; rfl) hf (fun q hq e => (h.apA q hq).1 e), Sl.ft h.pt (fun x hx => by obtain ⟨a, _, rfl⟩ := List.mem_map.1 hx; rfl) hf (fun q hq e => (h.apB q hq).1 e), h.fam.ft td_kv hf (fun q hq e => h.apL (e ▸ hq)), h.apA, h.apB, h.apL⟩
end Go.Proofs.Ytponmfkddglopaa
