/-
  Joined: O2, CoR, OBy, RqC.
-/
import Derived.Test.YtpolofehkckaoaaUT0
import Derived.Test.YtpolofehkckaoaaUT2
import Derived.Test.YtpolofehkckaoaaUT1
import Derived.Lib.ConvBytes
import Derived.Test.YtpolofehkckaoaaUT3
namespace Go.Proofs.Ytpolofehkckaoaa
open Go.RowKit

variable {Q : Nat → Prop}

/-- Block g is a reader of type t: what is left reads as xs (as long as nothing failed), the failure is er. -/
def RS (Q : Nat → Prop) (w : World) (g : Nat) (t : TypeId) (xs : List UInt8) (er : Int) : Prop :=
 ∃ A n c, w.heap[g]? = some (.cells #[.slice A n c, .int .i64 er] t (0, 0)) ∧ n ≤ c ∧ c ≤ maxLen ∧ (er = 0 → By w Q A n xs)

section
variable {Q : Nat → Prop} {w w' : World} {g : Nat} {t : TypeId} {xs : List UInt8} {er : Int}
/-- Bytes don't lie in a reader's block: they stay as they are when it is turned. -/
theorem By.only {A A0 : Option Addr} {n n0 c0 : Nat} {e0 : Int} {fz : Nat × Nat} (h : By w Q A n xs) (hg : w.grownBy w' (some g)) (hw : w.heap[g]? = some (.cells #[.slice A0 n0 c0, .int .i64 e0] t fz)) : By w' Q A n xs :=
 ⟨h.1, fun hn => by
  obtain ⟨b, o, e, hq, hc⟩ := h.2 hn
  refine ⟨b, o, e, hq, fun j u hu => hg.cell (hc j u hu) (fun e2 => ?_)⟩
  have e3 : b = g := Option.some.inj e2
  subst e3
  have h1 := hc j u hu
  rw [cell_of_row w b (o + j) _ t fz hw] at h1
  match hj : o + j with
  | 0 => rw [hj] at h1; simp [u8] at h1
  | 1 => rw [hj] at h1; simp [u8] at h1
  | j' + 2 => rw [hj] at h1; simp at h1⟩
theorem RS.lt (h : RS Q w g t xs er) : g < w.heap.size := by
 obtain ⟨A, n, c, hc, _⟩ := h
 exact (Array.getElem?_eq_some_iff.1 hc).1
/-- Another block is turned, that isn't bytes of its own: a reader's. -/
theorem RS.keep {g' : Nat} {ys : List UInt8} {e' : Int} {t' : TypeId} {Q' : Nat → Prop} (h : RS Q w g t xs er) (hg : w.grownBy w' (some g')) (h' : RS Q' w g' t' ys e') (hne : g ≠ g') : RS Q w' g t xs er := by
 obtain ⟨A, n, c, hc, hn, hm, hb⟩ := h
 obtain ⟨A', n', c', hc', _⟩ := h'
 exact ⟨A, n, c, (hg.block g (Array.getElem?_eq_some_iff.1 hc).1 (fun e => hne (Option.some.inj e))).trans hc, hn, hm, fun h0 => (hb h0).only hg hc'⟩
/-- Behind a call that makes memory alone. -/
theorem RS.below (h : RS Q w g t xs er) (hb : Below w.heap.size w w') : RS Q w' g t xs er := by
 obtain ⟨A, n, c, hc, hn, hm, hy⟩ := h
 exact ⟨A, n, c, (hb.block g (Array.getElem?_eq_some_iff.1 hc).1).trans hc, hn, hm, fun h0 => (hy h0).through hb⟩
theorem RS.block (h : RS Q w g t xs er) : ∃ cs, w.heap[g]? = some (.cells cs t (0, 0)) := by
 obtain ⟨A, n, c, hc, _⟩ := h
 exact ⟨_, hc⟩
/-- Both cells of a reader, written. -/
theorem heap_set {w : World} {g : Nat} {t : TypeId} {cs : Array Value} (h : w.heap[g]? = some (.cells cs t (0, 0))) (i : Nat) (u : Value) : (w.setCell ⟨g, i, none⟩ u).heap[g]? = some (.cells (cs.setIfInBounds i u) t (0, 0)) := by
 simp [World.setCell, Array.getElem?_modify, h]
end


theorem RS.new {w : World} {base n c : Nat} {B : Option Addr} {xs : List UInt8} (t : TypeId) (h : w.ownsRow base 5 1 (.slice B n c) n (vs xs)) :
  RS (fun b => base ≤ b) (w.alloc (.cells #[.slice B n c, .int .i64 0] t)) w.heap.size t xs 0 := by
 obtain ⟨B', c', e, hn, hm, _⟩ := own_form h
 injection e with _ _ ec
 subst ec
 exact ⟨B, n, c, heap_alloc_new w _, hn, hm, fun _ => ((By.of_own h).alloc _).weak fun _ hb => hb.1⟩

end Go.Proofs.Ytpolofehkckaoaa

namespace Go.Proofs.Ytpolofehkckaoaa
open Go.RowKit

/-- what is left, and the failure, told as a state -/
def St (xs : List UInt8) (er : Int) : Option (List UInt8) → Prop
 | some r => xs = r ∧ er = 0
 | none => er ≠ 0
/-- Block g is a reader of type t in this state. -/
def Rs (Q : Nat → Prop) (w : World) (g : Nat) (t : TypeId) (st : Option (List UInt8)) : Prop := ∃ xs er, RS Q w g t xs er ∧ St xs er st ∧ xs.length ≤ 1099511627776

section
variable {Q : Nat → Prop} {w w' : World} {g : Nat} {t : TypeId} {st : Option (List UInt8)}
theorem Rs.lt (h : Rs Q w g t st) : g < w.heap.size := by
 obtain ⟨_, _, h, _⟩ := h
 exact h.lt
theorem Rs.below (h : Rs Q w g t st) (hb : Below w.heap.size w w') : Rs Q w' g t st := by
 obtain ⟨xs, er, h, hs, hl⟩ := h
 exact ⟨xs, er, h.below hb, hs, hl⟩
theorem Rs.drew (h : Rs Q w g t st) : Rs Q w.drew g t st := h
theorem Rs.alloc (h : Rs Q w g t st) (o : Obj) : Rs Q (w.alloc o) g t st := h.below ((Below.refl _ w).alloc (Nat.le_refl _) o)
theorem Rs.block (h : Rs Q w g t st) : ∃ cs, w.heap[g]? = some (.cells cs t (0, 0)) := by
 obtain ⟨_, _, h, _⟩ := h
 exact h.block
end

section
variable {Q : Nat → Prop} {g : Nat} {st : Option (List UInt8)} {w : World}
end

end Go.Proofs.Ytpolofehkckaoaa

namespace Go.Proofs.Ytpolofehkckaoaa
open Go.RowKit

section
variable {Q Q2 : Nat → Prop} {A B : Option Addr} {n c m d : Nat} {xs ys : List UInt8} {w : World}
end

theorem yields_conv {P : Program} {ops : Array Oper} {S : World → Prop} {op : Oper} {a : Act} (hw : Region.wanted op (yielded ops a.tmps) = true) (src dst : TypeId) (x : Operand) (ho : op.op = .convert src dst x)
  (p : Value) (hx : a.eval x = p) (v : Value) (hS : ∀ w, S w → (convert src dst p).run P w = .ok v w) : YieldsIf P ops S op v a :=
 .inl ⟨hw, fun w hw' => by
  unfold execOp
  simp only [ho, hx, Sem.run_bind, hS w hw', Result.andThen_ok]
  rfl⟩
end Go.Proofs.Ytpolofehkckaoaa

namespace Go.Proofs.Ytpolofehkckaoaa
open Go.RowKit

@[simp] theorem beB_len (v k : Nat) : (beB v k).length = k := beB_length v k
@[simp] theorem rowB_len (xs : List UInt8) : (rowB xs).length = 4 + xs.length := by unfold rowB; rw [List.length_append, beB_length]

end Go.Proofs.Ytpolofehkckaoaa
