/-
  Joined: BaM, SlP, VoP, VoD, VoB.
-/
import Derived.BigQuiet
import Derived.Lib.OthersKept
import Derived.Laws.Cover1
import Derived.Laws.RangeAny
import Derived.Test.YtponmfkddglopaaWV10
import Derived.Test.YtponmfkddglopaaWV8
import Derived.Test.YtponmfkddglopaaWV3
import Derived.Test.YtponmfkddglopaaWV7
import Derived.BigGuard
import Derived.Test.YtponmfkddglopaaWV2
import Derived.Lib.ConvBytes
import Derived.Test.YtponmfkddglopaaWV4
import Derived.Test.YtponmfkddglopaaWV5
import Derived.Test.YtponmfkddglopaaWV9
namespace Go.Proofs.Ytponmfkddglopaa
open Go.RowKit

def Ey.cells (y : Ey) : List Value := [.int .i64 y.co.cl, .int .i64 y.co.sp, .int .i64 y.co.op, .string (ba y.co.lt), .int .i64 y.co.a, .int .i64 y.co.b, .string (ba y.co.tx), .int .u32 (y.ms : Int)]
/-- Entries, as they lie in memory. -/
def EysIn (w : World) (E : Option Addr) (k : Nat) (es : List Ey) : Prop := Sl w 8 E k (es.map Ey.cells) ∧ ∀ y ∈ es, y.ms < 4294967296
section
variable {w w' : World} {E : Option Addr} {k : Nat} {es : List Ey}
theorem EysIn.through (h : EysIn w E k es) (hb : Below w.heap.size w w') : EysIn w' E k es := ⟨h.1.through hb, h.2⟩
theorem EysIn.alloc (h : EysIn w E k es) (o : Obj) : EysIn (w.alloc o) E k es := ⟨h.1.alloc o, h.2⟩
theorem EysIn.none_ : EysIn w none 0 [] := ⟨Sl.none_, fun _ h => nomatch h⟩
theorem EysIn.len (h : EysIn w E k es) : es.length = k := by simpa using h.1.len
theorem EysIn.at (h : EysIn w E k es) {i : Nat} (hi : i < k) : ∃ g o y, E = some ⟨g, o, none⟩ ∧ es[i]? = some y ∧ y ∈ es ∧ es.drop i = y :: es.drop (i + 1) ∧ w.rangeAt g (o + i * 8) y.cells := by
 obtain ⟨g, o, cs, e, h1, _, _, h4⟩ := h.1.at hi
 have hl : i < es.length := by rw [h.len]; exact hi
 rw [List.getElem?_map, List.getElem?_eq_getElem hl] at h1
 simp only [Option.map_some, Option.some.injEq] at h1
 subst h1
 exact ⟨g, o, es[i], e, List.getElem?_eq_getElem hl, List.getElem_mem hl, List.drop_eq_getElem_cons hl, h4⟩
theorem EysIn.range {g o : Nat} (h : EysIn w (some ⟨g, o, none⟩) k es) {j : Nat} {y : Ey} (hy : es[j]? = some y) : w.rangeAt g (o + j * 8) y.cells := by
 have hj : j < k := by
  have h1 := (List.getElem?_eq_some_iff.1 hy).1
  have h2 := h.len
  omega
 obtain ⟨g', o', y', e, h1, _, _, h2⟩ := h.at hj
 simp only [Option.some.injEq, Addr.mk.injEq] at e
 obtain ⟨rfl, rfl, _⟩ := e
 rw [hy] at h1
 obtain rfl := Option.some.inj h1
 exact h2
theorem EysIn.take (h : EysIn w E k es) {i : Nat} (hi : i ≤ k) : EysIn w E i (es.take i) := by
 refine ⟨⟨by simp [h.len, hi], fun h0 => ?_⟩, fun y hy => h.2 y (List.mem_of_mem_take hy)⟩
 obtain ⟨g, o, e, hc⟩ := h.1.2 (by omega)
 refine ⟨g, o, e, fun j cs hj => hc j cs ?_⟩
 rw [List.map_take, List.getElem?_take] at hj
 split at hj
 ·exact hj
 ·cases hj
end
/-- Entries that a call makes: its memory from B on. -/
def OEy (w : World) (B : Nat) (v : Value) (es : List Ey) : Prop := Os w B 121 8 v (es.map Ey.cells) ∧ ∀ y ∈ es, y.ms < 4294967296
theorem OEy.nil (w : World) (B : Nat) : OEy w B (.slice none 0 0) [] := ⟨Os.nil w B 121 8, fun _ h => nomatch h⟩
theorem OEy.out {w : World} {B : Nat} {v : Value} {es : List Ey} (h : OEy w B v es) : ∃ A n c, v = .slice A n c ∧ n ≤ c ∧ c ≤ maxLen ∧ EysIn w A n es ∧ ∀ a, A = some a → B ≤ a.block ∧ a.block < w.heap.size := by
 obtain ⟨A, c, rfl, h1, h2, h3⟩ := h.1.out
 refine ⟨A, _, c, rfl, h1, h2, ⟨h3, h.2⟩, fun a ha => ?_⟩
 subst ha
 exact h.1.lt a.block rfl
theorem Ey.one (y : Ey) : ∀ u ∈ y.cells, u.oneCell' = true := fun u hu => by
 simp [Ey.cells] at hu
 rcases hu with rfl | rfl | rfl | rfl | rfl | rfl | rfl | rfl <;> rfl
end Go.Proofs.Ytponmfkddglopaa

namespace Go.Proofs.Ytponmfkddglopaa
open Go.RowKit

abbrev Wl := List (Int × List UInt8)
structure Slt where
 n : Int
 has : Bool
 dg : List UInt8
 es : List Ey
 pr : Wl
 cm : Wl
def Slt.no (n : Int) : Slt := ⟨n, false, List.replicate 32 0, [], [], []⟩
/-- whether, and how, who has voted: 0 not, 15 so, 2 else -/
def saidW : Wl → Int → List UInt8 → Int
 | [], _, _ => 0
 | x :: l, who, d => if x.1 = who then (if x.2 = d then 15 else 2) else saidW l who d
def voteE (n : Int) (l : Wl) (who : Int) (d : List UInt8) : Int := if who < 0 ∨ n ≤ who then 17 else saidW l who d
def voteW (n : Int) (l : Wl) (who : Int) (d : List UInt8) : Wl := if voteE n l who d = 0 then l ++ [(who, d)] else l
def prepS (s : Slt) (who : Int) (d : List UInt8) : Slt × Int := ({ s with pr := voteW s.n s.pr who d }, voteE s.n s.pr who d)
end Go.Proofs.Ytponmfkddglopaa

namespace Go.Proofs.Ytponmfkddglopaa
open Go.RowKit

structure Vo where
 vw : Int
 sq : Int
 dg : List UInt8
def Vo.no : Vo := ⟨0, 0, List.replicate 32 0⟩
structure Vu where
 cl : Int
 sp : Int
 dg : List UInt8
 ms : Nat
def Vu.no : Vu := ⟨0, 0, List.replicate 32 0, 0⟩
structure Re where
 vw : Int
 cl : Int
 sp : Int
 rs : Int
def Re.no : Re := ⟨0, 0, 0, 0⟩
structure Pr where
 vw : Int
 sq : Int
 es : List Ey
def Pr.no : Pr := ⟨0, 0, []⟩
end Go.Proofs.Ytponmfkddglopaa

namespace Go.Proofs.Ytponmfkddglopaa
open Go.RowKit

theorem ret_bo {b c : Bool} (h : b = c) : Ending.returned (.bool b) = Ending.returned (.bool c) := by rw [h]

end Go.Proofs.Ytponmfkddglopaa

namespace Go.Proofs.Ytponmfkddglopaa
open Go.RowKit

def Vo.cells (v : Vo) : List Value := .int .i64 v.vw :: .int .i64 v.sq :: vs v.dg
def Vu.cells (v : Vu) : List Value := .int .i64 v.cl :: .int .i64 v.sp :: (vs v.dg ++ [.int .u32 (v.ms : Int)])
def Re.cells (v : Re) : List Value := [.int .i64 v.vw, .int .i64 v.cl, .int .i64 v.sp, .int .i64 v.rs]
theorem Try.agg_int (w : World) : (isAgg 3).run Try.prog w = .ok false w := by kernel_rfl
theorem Try.agg_i64 (w : World) : (isAgg 2).run Try.prog w = .ok false w := by kernel_rfl
/-- one cell, kept -/
structure CellK (w : World) (p : Addr) (v : Value) : Prop where
 lt : p.block < w.heap.size
 eq : w.cell? p = some v
theorem CellK.through {w w' : World} {p : Addr} {v : Value} (h : CellK w p v) (hb : Below w.heap.size w w') : CellK w' p v := ⟨Nat.lt_of_lt_of_le h.lt hb.size, (hb.cell (p := p) h.lt).trans h.eq⟩

end Go.Proofs.Ytponmfkddglopaa
