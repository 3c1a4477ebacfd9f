/-
  A reader in memory: words, no walk.
-/
import Derived.Test.YtolildehdibpbaaDoorLeaf
import Derived.Test.YtolildehdibpbaaDoorHashW
namespace Go.Proofs.YtolildehdibpbaaDoor
open Go.RowKit

/-- Block g is a reader of type t: what is left reads as xs (as long as nothing failed), the failure is er. -/
def RS (w : World) (g : Nat) (t : TypeId) (xs : List UInt8) (er : Int) : Prop :=
  ∃ A n c, w.heap[g]? = some (.cells #[.slice A n c, .int .i64 er] t (0, 0)) ∧ n ≤ c ∧ c ≤ maxLen ∧ (er = 0 → By w (Bk w) A n xs)

section
variable {w w' : World} {g : Nat} {t : TypeId} {xs : List UInt8} {er : Int}
theorem Bk.keep {b : Nat} (h : Bk w b) {row : Option Nat} (hg : w.grownBy w' row) (hr : ∀ k, row = some k → ∃ cs t, w.heap[k]? = some (.cells cs t (0, 0)) ∧ t ≠ 5) : w'.heap[b]? = w.heap[b]? := by
  obtain ⟨cs, hcs⟩ := h
  refine hg.block b (Array.getElem?_eq_some_iff.1 hcs).1 (fun e => ?_)
  obtain ⟨cs', t', h', hne⟩ := hr b e.symm
  rw [hcs] at h'
  injection h' with h'
  injection h' with _ ht
  exact hne ht.symm
theorem By.keepBk {A : Option Addr} {n : Nat} (h : By w (Bk w) A n xs) {row : Option Nat} (hg : w.grownBy w' row) (hr : ∀ k, row = some k → ∃ cs t, w.heap[k]? = some (.cells cs t (0, 0)) ∧ t ≠ 5) : By w' (Bk w') A n xs :=
  (h.keep fun _ hb => hb.keep hg hr).weak fun b hb => by
    obtain ⟨cs, hcs⟩ := hb
    exact ⟨cs, (Bk.keep ⟨cs, hcs⟩ hg hr).trans hcs⟩
/-- Another reader stays as it is. -/
theorem RS.keep (h : RS w g t xs er) {g' : Nat} {cs : Array Value} {t' : TypeId} (hg : w.grownBy w' (some g')) (h' : w.heap[g']? = some (.cells cs t' (0, 0))) (hne : t ≠ t') (h5 : t' ≠ 5) : RS w' g t xs er := by
  obtain ⟨A, n, c, hc, hn, hm, hb⟩ := h
  refine ⟨A, n, c, ?_, hn, hm, fun h0 => (hb h0).keepBk hg fun k hk => by injection hk with hk; subst hk; exact ⟨cs, t', h', h5⟩⟩
  rw [hg.block g (Array.getElem?_eq_some_iff.1 hc).1 (fun e => ?_)]
  · exact hc
  · injection e with e
    subst e
    rw [hc] at h'
    injection h' with h'
    injection h' with _ ht
    exact hne ht
theorem RS.block (h : RS w g t xs er) : ∃ cs, w.heap[g]? = some (.cells cs t (0, 0)) := by
  obtain ⟨A, n, c, hc, _⟩ := h
  exact ⟨_, hc⟩
/-- Behind a call that makes memory alone. -/
theorem RS.below (h : RS w g t xs er) (hb : Below w.heap.size w w') : RS w' g t xs er := by
  obtain ⟨A, n, c, hc, hn, hm, hy⟩ := h
  have hg : w.grownBy w' none := ⟨hb.os, hb.tape, hb.output, hb.size, fun k hk _ => hb.block k hk⟩
  exact ⟨A, n, c, (hb.block g (Array.getElem?_eq_some_iff.1 hc).1).trans hc, hn, hm, fun h0 => (hy h0).keepBk hg fun k hk => by cases hk⟩
/-- Both cells of a reader, written. -/
theorem heap_set {w : World} {g : Nat} {t : TypeId} {cs : Array Value} (h : w.heap[g]? = some (.cells cs t (0, 0))) (i : Nat) (u : Value) : (w.setCell ⟨g, i, none⟩ u).heap[g]? = some (.cells (cs.setIfInBounds i u) t (0, 0)) := by
  simp [World.setCell, Array.getElem?_modify, h]
end

/-- What failing leaves. -/
def failX (xs : List UInt8) (er : Int) : List UInt8 := if er = 0 then [] else xs
def failE (er k : Int) : Int := if er = 0 then k else er
/-- Taking k bytes: what is given, what is left, the failure. -/
def takeY (xs : List UInt8) (er k : Int) : List UInt8 := if er = 0 ∧ 0 ≤ k ∧ k ≤ xs.length then xs.take k.toNat else []
def takeX (xs : List UInt8) (er k : Int) : List UInt8 := if er = 0 then (if 0 ≤ k ∧ k ≤ xs.length then xs.drop k.toNat else []) else xs
def takeE (xs : List UInt8) (er k : Int) : Int := if er = 0 then (if 0 ≤ k ∧ k ≤ xs.length then 0 else 2) else er

/-- A call on a reader that hands back bytes. -/
def Gave (w : World) (g : Nat) (t : TypeId) (ys xs' : List UInt8) (er' : Int) (e : Ending) (w' : World) : Prop :=
  ∃ B m c, e = .returned (.slice B m c) ∧ m ≤ c ∧ By w' (Bk w') B m ys ∧ RS w' g t xs' er' ∧ w.grownBy w' (some g)
/-- A call on a reader that hands back v. -/
def GaveV (w : World) (g : Nat) (t : TypeId) (v : Value) (xs' : List UInt8) (er' : Int) (e : Ending) (w' : World) : Prop :=
  e = .returned v ∧ RS w' g t xs' er' ∧ w.grownBy w' (some g)

def bad (er : Int) : Bool := er != 0

theorem took {w : World} {g n c k : Nat} {t : TypeId} (ht : t ≠ 5) {xs : List UInt8} {A A' : Option Addr} (hw : w.heap[g]? = some (.cells #[.slice A n c, .int .i64 0] t (0, 0))) (hy : By w (Bk w) A n xs) (hl : k ≤ n) (hn : n ≤ c) (hm : c ≤ maxLen)
    (hA : A' = if c = k then A else A.map (·.add k)) :
    By (w.setCell ⟨g, 0, none⟩ (.slice A' (n - k) (c - k))) (Bk (w.setCell ⟨g, 0, none⟩ (.slice A' (n - k) (c - k)))) A k (xs.take k) ∧
    RS (w.setCell ⟨g, 0, none⟩ (.slice A' (n - k) (c - k))) g t (xs.drop k) 0 ∧ w.grownBy (w.setCell ⟨g, 0, none⟩ (.slice A' (n - k) (c - k))) (some g) := by
  have hg := only_set w g 0 (.slice A' (n - k) (c - k))
  have hr : ∀ k, some g = some k → ∃ cs t, w.heap[k]? = some (.cells cs t (0, 0)) ∧ t ≠ 5 := fun k hk => by injection hk with hk; subst hk; exact ⟨_, _, hw, ht⟩
  refine ⟨(hy.take hl).keepBk hg hr, ⟨A', n - k, c - k, by rw [heap_set hw]; rfl, by omega, by omega, fun _ => ?_⟩, hg⟩
  rw [hA]
  rw [hA] at hg
  exact (hy.drop hl hn).keepBk hg hr

/-- The number of which these are the bytes, the highest first. -/
def beN (xs : List UInt8) : Nat := xs.foldl (fun v x => v * 256 + x.toNat) 0
theorem beN_snoc (xs : List UInt8) (b : UInt8) : beN (xs ++ [b]) = beN xs * 256 + b.toNat := by simp [beN]
theorem beN_take (xs : List UInt8) (j : Nat) (h : j < xs.length) : beN (xs.take (j + 1)) = beN (xs.take j) * 256 + xs[j].toNat := by
  rw [List.take_succ_eq_append_getElem h, beN_snoc]
theorem beN_lt (xs : List UInt8) (j : Nat) : beN (xs.take j) < 256 ^ (xs.take j).length := by
  induction j with
  | zero => simp [beN]
  | succ j ih =>
    rcases Nat.lt_or_ge j xs.length with h | h
    · rw [beN_take xs j h]
      have e : (xs.take (j + 1)).length = (xs.take j).length + 1 := by simp; omega
      rw [e, Nat.pow_succ]
      have hb := xs[j].toNat_lt
      omega
    · rw [List.take_of_length_le (by omega)]
      rw [List.take_of_length_le h] at ih
      exact ih
theorem beN_small (xs : List UInt8) (j m : Nat) (hj : j ≤ m) : beN (xs.take j) < 256 ^ m := by
  have h := beN_lt xs j
  have hl : (xs.take j).length ≤ m := by simp; omega
  exact Nat.lt_of_lt_of_le h (Nat.pow_le_pow_right (by decide) hl)

end Go.Proofs.YtolildehdibpbaaDoor
