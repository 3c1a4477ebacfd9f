/-
  Joined: PtA, PtS, PtI, PtV.
-/
import Derived.BigQuiet
import Derived.Deep.CutRange
import Derived.Test.YtpolofehkckaoaaUT15
namespace Go.Proofs.Ytpolofehkckaoaa
open Go.RowKit

theorem thP_at {q : Int} {l : List Po} {i : Nat} (h : befP q l = i) {x : Po} (hx : l[i]? = some x) : thP q l = (x.sq == q) := by
 unfold thP
 rw [h, hx]
theorem thP_end {q : Int} {l : List Po} (h : befP q l = l.length) : thP q l = false := by
 unfold thP
 rw [h, List.getElem?_eq_none (Nat.le_refl _)]
end Go.Proofs.Ytpolofehkckaoaa

namespace Go.Proofs.Ytpolofehkckaoaa
open Go.RowKit

theorem Try.box_po (p : Po) (h : p.dg.length = 32) (w : World) : (Instr.box tPo (.agg (Po.cells p).toArray)).run Try.prog w = .ok (.pointer (some ⟨w.heap.size, 0, none⟩)) (w.alloc (.cells (Po.cells p).toArray tPo)) := by
 obtain ⟨a, d⟩ := p
 obtain ⟨x0, x1, x2, x3, x4, x5, x6, x7, x8, x9, x10, x11, x12, x13, x14, x15, x16, x17, x18, x19, x20, x21, x22, x23, x24, x25, x26, x27, x28, x29, x30, x31, rfl⟩ := vs_lit d h
 kernel_rfl
/-- rows that aren't too long -/
structure PtLow (r : Ptp) : Prop where
 of : ∀ l ∈ r.of, l.length ≤ 100000
end Go.Proofs.Ytpolofehkckaoaa

namespace Go.Proofs.Ytpolofehkckaoaa
open Go.RowKit

theorem Sl.cutFrom {w : World} {k n c i : Nat} {A : Option Addr} {xs : List (List Value)} (h : Sl w k A n xs) (hi : i ≤ n) (hc : n ≤ c) : ∃ A', (if c = i then A else A.map (·.add (i * k))) = A' ∧ Sl w k A' (n - i) (xs.drop i) :=
 ⟨_, rfl, by rw [List.length_drop, h.1], fun hn => by
  obtain ⟨g, o, e, hcell⟩ := h.2 (by omega)
  subst e
  rw [if_neg (by omega)]
  refine ⟨g, o + i * k, ?_, fun j cs hj => ?_⟩
  ·simp only [Option.map_some, Option.some.injEq]
   unfold Addr.add; split <;> simp_all
  ·have h1 := hcell (i + j) cs (by rw [← hj, List.getElem?_drop])
   rw [show o + (i + j) * k = o + i * k + j * k by rw [Nat.add_mul]; omega] at h1
   exact h1⟩
/-- a slice of points of a call's own -/
def OPt (w : World) (B : Nat) (v : Value) (ps : List Po) : Prop := Os w B tPo 33 v (ps.map Po.cells) ∧ ∀ p ∈ ps, p.dg.length = 32
theorem OPt.out {w : World} {B : Nat} {v : Value} {ps : List Po} (h : OPt w B v ps) : ∃ A c, v = .slice A ps.length c ∧ ps.length ≤ c ∧ c ≤ maxLen ∧ PosIn w A ps.length ps ∧ ∀ q, plB (A, ps.length, c) q → B ≤ q := by
 obtain ⟨A, c, e, h1, h2, h3⟩ := h.1.out
 rw [List.length_map] at e h1 h3
 refine ⟨A, c, e, h1, h2, ⟨h3, h.2⟩, fun q hq => ?_⟩
 obtain ⟨_, a, ha, hb⟩ := hq
 refine (h.1.lt q ?_).1
 simp only at ha
 rw [e, ha, ← hb]
 rfl
end Go.Proofs.Ytpolofehkckaoaa

namespace Go.Proofs.Ytpolofehkckaoaa
open Go.RowKit

theorem blk_ne {w : World} {g g' : Nat} {t t' : TypeId} {cs cs' : List Value} (h : Blk w g t cs) (h' : Blk w g' t' cs') (hne : t ≠ t') : g ≠ g' := fun e => by
 subst e
 have h1 : w.heap[g]? = _ := h
 have h2 : w.heap[g]? = _ := h'
 rw [h1] at h2
 have h3 := Option.some.inj h2
 injection h3 with _ e _
 exact hne e
section
variable {w w' : World} {R gO m rc : Nat} {r : Ptp} {ss rs : List Pl} {RA : Option Addr}
theorem DPt.ne (h : DPt w R gO r ss RA m rc rs) : R ≠ gO := blk_ne h.box h.ob (by decide)
end
theorem insP_len {l : List Po} {i : Nat} {x : Po} (h : i ≤ l.length) : (insP l i x).length = l.length + 1 := by
 unfold insP
 simp
 omega
theorem vt_tail {A A' : Option Addr} {k c z : Nat} {c' n q : Nat} (h : (if c = 1 then A else A.map (·.add z)) = A') (hq : plB (A', k, n) q) : plB (A, k + 1, c') q := by
 obtain ⟨hk, a, e, hb⟩ := hq
 simp only at hk e
 rw [← h] at e
 split at e
 ·exact ⟨Nat.succ_pos _, a, e, hb⟩
 ·obtain ⟨a0, e0, e1⟩ := Option.map_eq_some_iff.1 e
  refine ⟨Nat.succ_pos _, a0, e0, ?_⟩
  rw [← hb, ← e1]
  unfold Addr.add
  split <;> rfl
end Go.Proofs.Ytpolofehkckaoaa
