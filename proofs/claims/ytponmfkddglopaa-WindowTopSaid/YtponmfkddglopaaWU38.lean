/-
  Joined: WnM.
-/
import Derived.Deep.RegionHeld
import Derived.Deep.CutBlock
import Derived.Test.YtponmfkddglopaaWU35
import Derived.Test.YtponmfkddglopaaWU22
namespace Go.Proofs.Ytponmfkddglopaa
open Go.RowKit

def qC (i : Int) : List Value := [.int .i64 i]
def vC (v : Value) : List Value := [v]
def lgC (n low : Int) (sv tv : Value) : List Value := [.int .i64 n, .int .i64 low, sv, tv]
theorem Try.el_qs : El Try.prog 33 2 1 8 (.int .i64 0) := ⟨Try.underlying33, by kernel_rfl, rfl, by omega, by omega, by omega⟩
theorem Try.sz_i64 (w : World) : (sizeOf 2).run Try.prog w = .ok 1 w := by kernel_rfl
/-- numbers -/
def QIn (w : World) (A : Option Addr) (k : Nat) (l : List Int) : Prop := Sl w 1 A k (l.map qC)
/-- values -/
def VIn (w : World) (A : Option Addr) (k : Nat) (l : List Value) : Prop := Sl w 1 A k (l.map vC)
section
variable {w w' : World} {A : Option Addr} {k : Nat}
theorem QIn.through {l : List Int} (h : QIn w A k l) (hb : Below w.heap.size w w') : QIn w' A k l := Sl.through h hb
theorem QIn.len {l : List Int} (h : QIn w A k l) : l.length = k := by simpa using Sl.len h
theorem QIn.at {l : List Int} (h : QIn w A k l) {i : Nat} (hi : i < k) : ∃ g o x, A = some ⟨g, o, none⟩ ∧ l[i]? = some x ∧ l.drop i = x :: l.drop (i + 1) ∧ w.cell? ⟨g, o + i, none⟩ = some (.int .i64 x) := by
 obtain ⟨g, o, cs, e, h1, h2, _, h4⟩ := Sl.at h hi
 have hl : i < l.length := by rw [h.len]; exact hi
 rw [List.getElem?_map, List.getElem?_eq_getElem hl] at h1
 simp only [Option.map_some, Option.some.injEq] at h1
 subst h1
 refine ⟨g, o, l[i], e, List.getElem?_eq_getElem hl, List.drop_eq_getElem_cons hl, ?_⟩
 have := h4 0 _ rfl
 simpa using this
theorem VIn.through {l : List Value} (h : VIn w A k l) (hb : Below w.heap.size w w') : VIn w' A k l := Sl.through h hb
theorem VIn.len {l : List Value} (h : VIn w A k l) : l.length = k := by simpa using Sl.len h
theorem VIn.at {l : List Value} (h : VIn w A k l) {i : Nat} (hi : i < k) : ∃ g o x, A = some ⟨g, o, none⟩ ∧ l[i]? = some x ∧ w.cell? ⟨g, o + i, none⟩ = some x := by
 obtain ⟨g, o, cs, e, h1, h2, _, h4⟩ := Sl.at h hi
 have hl : i < l.length := by rw [h.len]; exact hi
 rw [List.getElem?_map, List.getElem?_eq_getElem hl] at h1
 simp only [Option.map_some, Option.some.injEq] at h1
 subst h1
 refine ⟨g, o, l[i], e, List.getElem?_eq_getElem hl, ?_⟩
 have := h4 0 _ rfl
 simpa using this
end
/-- the document's slot, in which nobody has proposed or committed anything -/
def TD (W : World) (v : Value) (D : Nat → Prop) (s : Slt) : Prop := ∃ R pv, v = .pointer (some ⟨R, 0, none⟩) ∧ (∀ q, D q ↔ q = R ∨ pv.ownBlock = some q) ∧ Blk W R 57 (slC s (.slice none 0 0) pv (.slice none 0 0)) ∧ OWd W 0 pv s.pr ∧ pv.ownBlock ≠ some R ∧ s.dg.length = 32
theorem td_kv : Kv TD where
 lt := by
  rintro w v D s ⟨R, pv, rfl, hd, hb, ho, _, _⟩ q hq
  rcases (hd q).1 hq with rfl | hq
  ·exact hb.lt
  ·exact (ho.1.lt q hq).2
 keep := by
  rintro w w' v D s ⟨R, pv, rfl, hd, hb, ho, hn, h32⟩ hsz hk
  exact ⟨R, pv, rfl, hd, (hk R ((hd R).2 (.inl rfl))).trans hb, ⟨ho.1.keep (fun b _ _ hq => hk b ((hd b).2 (.inr hq))), ho.2⟩, hn, h32⟩
end Go.Proofs.Ytponmfkddglopaa
