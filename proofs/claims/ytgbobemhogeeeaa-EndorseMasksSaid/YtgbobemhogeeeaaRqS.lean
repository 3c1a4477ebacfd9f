/-
  The document's Same, walked.
-/
import Derived.Test.YtgbobemhogeeeaaRqV
import Derived.Test.YtgbobemhogeeeaaNm
import Derived.BigQuiet
namespace Go.Proofs.Ytgbobemhogeeeaa
open Go.RowKit

theorem Try.agg_es (w : World) : (isAgg 24).run Try.prog w = .ok false w := by kernel_rfl
theorem Try.agg_ts (w : World) : (isAgg 32).run Try.prog w = .ok false w := by kernel_rfl
theorem allB_next {α : Type} {p : α → α → Bool} {x y : α} {xs ys : List α} (h : p x y = true) : allB p (x :: xs) (y :: ys) = allB p xs ys := by simp [allB, h]
theorem allB_stop {α : Type} {p : α → α → Bool} {x y : α} {xs ys : List α} (h : p x y = false) : allB p (x :: xs) (y :: ys) = false := by simp [allB, h]
theorem allB_far {α : Type} {p : α → α → Bool} {xs ys : List α} (h : xs.length ≠ ys.length) : allB p xs ys = false := by
  cases hb : allB p xs ys
  · rfl
  · exact absurd (allB_len hb) h
theorem below2_ (w : World) (A B : Obj) : Below w.heap.size w ((w.alloc A).alloc B) := (below1_ w A).alloc (below1_ w A).size B
theorem Blk.front {w : World} {g : Nat} {t : TypeId} {cs post : List Value} (h : Blk w g t (cs ++ post)) : w.rangeAt g 0 cs := Blk.range (pre := []) (post := post) (by simpa using h)
theorem take_next {α : Type} {xs ys : List α} {j : Nat} {x : α} (h : xs.take j = ys.take j) (hx : xs[j]? = some x) (hy : ys[j]? = some x) : xs.take (j + 1) = ys.take (j + 1) := by
  rw [List.take_add_one, List.take_add_one, h, hx, hy]
theorem TsIn.range {w : World} {g o k c : Nat} {ts : List (List UInt8)} {j : Nat} {t : List UInt8} (h : TsIn w (some ⟨g, o, none⟩, k, c) ts) (ht : ts[j]? = some t) : w.rangeAt g (o + j * 32) (vs t) := by
  have hj : j < k := by
    have h1 := (List.getElem?_eq_some_iff.1 ht).1
    have h2 := h.len
    simp only at h2
    omega
  obtain ⟨g', o', t', e, h1, _, _, _, h2⟩ := h.at hj
  simp only [Option.some.injEq, Addr.mk.injEq] at e
  obtain ⟨rfl, rfl, _⟩ := e
  rw [ht] at h1
  obtain rfl := Option.some.inj h1
  exact h2
theorem Rq.same_eq (c d : Cr) (l k : List En) : Rq.same ⟨c, l⟩ ⟨d, k⟩ = (c.eqb d && allB En.eqb l k) := rfl
theorem En.eqb_ts {e f : En} (h : e.ts ≠ f.ts) : e.eqb f = false := by
  cases hb : e.eqb f
  · rfl
  · exact absurd (congrArg En.ts (En.eqb_iff.1 hb)) h
theorem En.eqb_og {e f : En} (h : e.og ≠ f.og) : e.eqb f = false := by
  cases hb : e.eqb f
  · rfl
  · exact absurd (congrArg En.og (En.eqb_iff.1 hb)) h

end Go.Proofs.Ytgbobemhogeeeaa
