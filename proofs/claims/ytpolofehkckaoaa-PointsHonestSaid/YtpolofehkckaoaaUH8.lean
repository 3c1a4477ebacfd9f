/-
  Joined: BaM, VoG.
-/
import Derived.BigQuiet
import Derived.Lib.OthersKept
import Derived.Laws.Cover1
import Derived.Laws.RangeAny
import Derived.Test.YtpolofehkckaoaaUH6
import Derived.Test.YtpolofehkckaoaaUH7
import Derived.Test.YtpolofehkckaoaaUH3
import Derived.Test.YtpolofehkckaoaaUH2
import Derived.Test.YtpolofehkckaoaaUH5
import Derived.Lib.ConvBytes
namespace Go.Proofs.Ytpolofehkckaoaa
open Go.RowKit

def Ey.cells (y : Ey) : List Value := [.int .i64 y.co.cl, .int .i64 y.co.sp, .int .i64 y.co.op, .string (ba y.co.lt), .int .i64 y.co.a, .int .i64 y.co.b, .string (ba y.co.tx), .int .u32 (y.ms : Int)]
/-- Entries, as they lie in memory. -/
def EysIn (w : World) (E : Option Addr) (k : Nat) (es : List Ey) : Prop := Sl w 8 E k (es.map Ey.cells) ∧ ∀ y ∈ es, y.ms < 4294967296
section
variable {w w' : World} {E : Option Addr} {k : Nat} {es : List Ey}
theorem EysIn.through (h : EysIn w E k es) (hb : Below w.heap.size w w') : EysIn w' E k es := ⟨h.1.through hb, h.2⟩
theorem EysIn.alloc (h : EysIn w E k es) (o : Obj) : EysIn (w.alloc o) E k es := ⟨h.1.alloc o, h.2⟩
theorem EysIn.none_ : EysIn w none 0 [] := ⟨Sl.none_, fun _ h => nomatch h⟩
theorem EysIn.len (h : EysIn w E k es) : es.length = k := by simpa using h.1.len
theorem EysIn.at (h : EysIn w E k es) {i : Nat} (hi : i < k) : ∃ g o y, E = some ⟨g, o, none⟩ ∧ es[i]? = some y ∧ y ∈ es ∧ es.drop i = y :: es.drop (i + 1) ∧ w.rangeAt g (o + i * 8) y.cells := by
 obtain ⟨g, o, cs, e, h1, _, _, h4⟩ := h.1.at hi
 have hl : i < es.length := by rw [h.len]; exact hi
 rw [List.getElem?_map, List.getElem?_eq_getElem hl] at h1
 simp only [Option.map_some, Option.some.injEq] at h1
 subst h1
 exact ⟨g, o, es[i], e, List.getElem?_eq_getElem hl, List.getElem_mem hl, List.drop_eq_getElem_cons hl, h4⟩
theorem EysIn.range {g o : Nat} (h : EysIn w (some ⟨g, o, none⟩) k es) {j : Nat} {y : Ey} (hy : es[j]? = some y) : w.rangeAt g (o + j * 8) y.cells := by
 have hj : j < k := by
  have h1 := (List.getElem?_eq_some_iff.1 hy).1
  have h2 := h.len
  omega
 obtain ⟨g', o', y', e, h1, _, _, h2⟩ := h.at hj
 simp only [Option.some.injEq, Addr.mk.injEq] at e
 obtain ⟨rfl, rfl, _⟩ := e
 rw [hy] at h1
 obtain rfl := Option.some.inj h1
 exact h2
theorem EysIn.take (h : EysIn w E k es) {i : Nat} (hi : i ≤ k) : EysIn w E i (es.take i) := by
 refine ⟨⟨by simp [h.len, hi], fun h0 => ?_⟩, fun y hy => h.2 y (List.mem_of_mem_take hy)⟩
 obtain ⟨g, o, e, hc⟩ := h.1.2 (by omega)
 refine ⟨g, o, e, fun j cs hj => hc j cs ?_⟩
 rw [List.map_take, List.getElem?_take] at hj
 split at hj
 ·exact hj
 ·cases hj
end
theorem Ey.one (y : Ey) : ∀ u ∈ y.cells, u.oneCell' = true := fun u hu => by
 simp [Ey.cells] at hu
 rcases hu with rfl | rfl | rfl | rfl | rfl | rfl | rfl | rfl <;> rfl
end Go.Proofs.Ytpolofehkckaoaa

namespace Go.Proofs.Ytpolofehkckaoaa
open Go.RowKit

theorem below1_ (w : World) (A : Obj) : Below w.heap.size w (w.alloc A) := (Below.refl _ w).alloc (Nat.le_refl _) A

end Go.Proofs.Ytpolofehkckaoaa
