/-
  A reader in memory: block g holds what is left, and the first failure. failed, fail, take, End.
-/
import Derived.Test.YtjjfleiebebblaaLeaf
import Derived.Outline
namespace Go.Proofs.Ytjjfleiebebblaa
open Go.RowKit

/-- Block g is a reader of type t: what is left reads as xs (as long as nothing failed), the failure is er. -/
def RS (w : World) (g : Nat) (t : TypeId) (xs : List UInt8) (er : Int) : Prop :=
  ∃ A n c, w.heap[g]? = some (.cells #[.slice A n c, .int .i64 er] t (0, 0)) ∧ n ≤ c ∧ c ≤ maxLen ∧ (er = 0 → By w (Bk w) A n xs)

section
variable {w w' : World} {g : Nat} {t : TypeId} {xs : List UInt8} {er : Int}
theorem Bk.keep {b : Nat} (h : Bk w b) {row : Option Nat} (hg : w.grownBy w' row) (hr : ∀ k, row = some k → ∃ cs t, w.heap[k]? = some (.cells cs t (0, 0)) ∧ t ≠ 5) : w'.heap[b]? = w.heap[b]? := by
  obtain ⟨cs, hcs⟩ := h
  refine hg.block b (Array.getElem?_eq_some_iff.1 hcs).1 (fun e => ?_)
  obtain ⟨cs', t', h', hne⟩ := hr b e.symm
  rw [hcs] at h'
  injection h' with h'
  injection h' with _ ht
  exact hne ht.symm
theorem By.keepBk {A : Option Addr} {n : Nat} (h : By w (Bk w) A n xs) {row : Option Nat} (hg : w.grownBy w' row) (hr : ∀ k, row = some k → ∃ cs t, w.heap[k]? = some (.cells cs t (0, 0)) ∧ t ≠ 5) : By w' (Bk w') A n xs :=
  (h.keep fun _ hb => hb.keep hg hr).weak fun b hb => by
    obtain ⟨cs, hcs⟩ := hb
    exact ⟨cs, (Bk.keep ⟨cs, hcs⟩ hg hr).trans hcs⟩
/-- Another reader stays as it is. -/
theorem RS.keep (h : RS w g t xs er) {g' : Nat} {cs : Array Value} {t' : TypeId} (hg : w.grownBy w' (some g')) (h' : w.heap[g']? = some (.cells cs t' (0, 0))) (hne : t ≠ t') (h5 : t' ≠ 5) : RS w' g t xs er := by
  obtain ⟨A, n, c, hc, hn, hm, hb⟩ := h
  refine ⟨A, n, c, ?_, hn, hm, fun h0 => (hb h0).keepBk hg fun k hk => by injection hk with hk; subst hk; exact ⟨cs, t', h', h5⟩⟩
  rw [hg.block g (Array.getElem?_eq_some_iff.1 hc).1 (fun e => ?_)]
  · exact hc
  · injection e with e
    subst e
    rw [hc] at h'
    injection h' with h'
    injection h' with _ ht
    exact hne ht
theorem RS.block (h : RS w g t xs er) : ∃ cs, w.heap[g]? = some (.cells cs t (0, 0)) := by
  obtain ⟨A, n, c, hc, _⟩ := h
  exact ⟨_, hc⟩
/-- Behind a call that makes memory alone. -/
theorem RS.below (h : RS w g t xs er) (hb : Below w.heap.size w w') : RS w' g t xs er := by
  obtain ⟨A, n, c, hc, hn, hm, hy⟩ := h
  have hg : w.grownBy w' none := ⟨hb.os, hb.tape, hb.output, hb.size, fun k hk _ => hb.block k hk⟩
  exact ⟨A, n, c, (hb.block g (Array.getElem?_eq_some_iff.1 hc).1).trans hc, hn, hm, fun h0 => (hy h0).keepBk hg fun k hk => by cases hk⟩
theorem only_refl (w : World) (g : Nat) : w.grownBy w (some g) := World.grownBy.refl w _
theorem only_trans {a b c : World} {g : Nat} (h : a.grownBy b (some g)) (k : b.grownBy c (some g)) : a.grownBy c (some g) :=
  ⟨k.os.trans h.os, k.tape.trans h.tape, k.output.trans h.output, Nat.le_trans h.size k.size, fun i hi hne => (k.block i (Nat.lt_of_lt_of_le hi h.size) hne).trans (h.block i hi hne)⟩
theorem only_below {a b : World} {g : Nat} (h : Below a.heap.size a b) : a.grownBy b (some g) := ⟨h.os, h.tape, h.output, h.size, fun i hi _ => h.block i hi⟩
theorem only_set (w : World) (g i : Nat) (u : Value) : w.grownBy (w.setCell ⟨g, i, none⟩ u) (some g) :=
  ⟨rfl, rfl, rfl, by simp [World.setCell], fun k _ hk => Below.heap_setCell _ _ _ _ (fun e => hk (by rw [e]))⟩
/-- Both cells of a reader, written. -/
theorem heap_set {w : World} {g : Nat} {t : TypeId} {cs : Array Value} (h : w.heap[g]? = some (.cells cs t (0, 0))) (i : Nat) (u : Value) : (w.setCell ⟨g, i, none⟩ u).heap[g]? = some (.cells (cs.setIfInBounds i u) t (0, 0)) := by
  simp [World.setCell, Array.getElem?_modify, h]
end

/-- What failing leaves. -/
def failX (xs : List UInt8) (er : Int) : List UInt8 := if er = 0 then [] else xs
def failE (er k : Int) : Int := if er = 0 then k else er
/-- Taking k bytes: what is given, what is left, the failure. -/
def takeY (xs : List UInt8) (er k : Int) : List UInt8 := if er = 0 ∧ 0 ≤ k ∧ k ≤ xs.length then xs.take k.toNat else []
def takeX (xs : List UInt8) (er k : Int) : List UInt8 := if er = 0 then (if 0 ≤ k ∧ k ≤ xs.length then xs.drop k.toNat else []) else xs
def takeE (xs : List UInt8) (er k : Int) : Int := if er = 0 then (if 0 ≤ k ∧ k ≤ xs.length then 0 else 2) else er

/-- A call on a reader that hands back bytes. -/
def Gave (w : World) (g : Nat) (t : TypeId) (ys xs' : List UInt8) (er' : Int) (e : Ending) (w' : World) : Prop :=
  ∃ B m c, e = .returned (.slice B m c) ∧ m ≤ c ∧ By w' (Bk w') B m ys ∧ RS w' g t xs' er' ∧ w.grownBy w' (some g)
/-- A call on a reader that hands back v. -/
def GaveV (w : World) (g : Nat) (t : TypeId) (v : Value) (xs' : List UInt8) (er' : Int) (e : Ending) (w' : World) : Prop :=
  e = .returned v ∧ RS w' g t xs' er' ∧ w.grownBy w' (some g)

def bad (er : Int) : Bool := er != 0

abbrev tR : TypeId := 47

set_option maxHeartbeats 400000 in
theorem failed_any (g : Nat) (x : Value) (er : Int) (w : World) (hw : w.heap[g]? = some (.cells #[x, .int .i64 er] tR (0, 0))) :
    Calls Try.prog 29 #[.pointer (some ⟨g, 0, none⟩)] w fun e w' => e = .returned (.bool (bad er)) ∧ w = w' := by
  have h1 : w.cell? ⟨g, 1, none⟩ = some (.int .i64 er) := by rw [cell_of_row w g 1 _ _ _ hw]; rfl
  clear hw
  go_enter Try.func29, Try.ntmps29
  go_wp2
  go_ret
  exact ⟨rfl, rfl⟩

set_option maxHeartbeats 400000 in
theorem failed_nil (w : World) :
    Calls Try.prog 29 #[.pointer none] w fun e w' => e = .returned (.bool true) ∧ w = w' := by
  go_enter Try.func29, Try.ntmps29
  go_wp2
  go_ret
  exact ⟨rfl, rfl⟩

set_option maxHeartbeats 400000 in
theorem fail_yes (g : Nat) (x : Value) (er k : Int) (he : er ≠ 0) (w : World) (hw : w.heap[g]? = some (.cells #[x, .int .i64 er] tR (0, 0))) :
    Calls Try.prog 26 #[.pointer (some ⟨g, 0, none⟩), .int .i64 k] w fun e w' => e = .returned (.tuple #[]) ∧ w = w' := by
  have hb : bad er = true := by simpa [bad] using he
  have H := Lib.hid hw
  clear hw
  go_enter Try.func26, Try.ntmps26
  go_wp2_with (go_at_call 29; refine (failed_any g x er _ H.out).mono ?_; rintro e w' ⟨rfl, rfl⟩)
  refine bodyPost_ret (results_none rfl _ _ _) rfl ?_
  exact ⟨rfl, rfl⟩

set_option maxHeartbeats 400000 in
theorem fail_no (g : Nat) (x : Value) (k : Int) (w : World) (hw : w.heap[g]? = some (.cells #[x, .int .i64 0] tR (0, 0))) :
    Calls Try.prog 26 #[.pointer (some ⟨g, 0, none⟩), .int .i64 k] w fun e w' => e = .returned (.tuple #[]) ∧ w' = (w.setCell ⟨g, 1, none⟩ (.int .i64 k)).setCell ⟨g, 0, none⟩ (.slice none 0 0) := by
  have hb : bad 0 = false := rfl
  have h0 : w.cell? ⟨g, 0, none⟩ = some x := by rw [cell_of_row w g 0 _ _ _ hw]; rfl
  have h1 : w.cell? ⟨g, 1, none⟩ = some (.int .i64 0) := by rw [cell_of_row w g 1 _ _ _ hw]; rfl
  have f0 : w.frozen? ⟨g, 0, none⟩ = false := frozen_of_row w g 0 _ _ hw
  have f1 : w.frozen? ⟨g, 1, none⟩ = false := frozen_of_row w g 1 _ _ hw
  have H := Lib.hid hw
  clear hw
  go_enter Try.func26, Try.ntmps26
  go_wp2_with (go_at_call 29; refine (failed_any g x 0 _ H.out).mono ?_; rintro e w' ⟨rfl, rfl⟩)
  go_end0
  exact ⟨rfl, rfl⟩

end Go.Proofs.Ytjjfleiebebblaa
