/-
  Joined: Mem, Co, Cm.
-/
import Derived.Test.YtpolofehkckaoaaRows
import Derived.Handy
import Derived.WalkSpells
import Derived.Deep.AppendLies
import Derived.Deep.Draws
import Derived.Deep.AppendSrc
import Derived.Deep.RegionLaw
import Derived.Lib.Hide
namespace Go.Proofs.Ytpolofehkckaoaa
open Go.RowKit

/-- A byte, as a cell holds it. -/
def u8 (b : UInt8) : Value := .int .u8 (b.toNat : Int)
/-- Bytes, as cells hold them. -/
def vs (xs : List UInt8) : List Value := xs.map u8
theorem vs_length (xs : List UInt8) : (vs xs).length = xs.length := by simp [vs]
theorem vs_get (xs : List UInt8) (j : Nat) : (vs xs)[j]? = (xs[j]?).map u8 := by simp [vs]
theorem vs_one {xs : List UInt8} : ∀ u ∈ vs xs, u.oneCell' = true := by
 intro u hu
 obtain ⟨x, _, rfl⟩ := List.mem_map.1 hu
 rfl

/-- The slice '.slice A n _' reads, in w, as the bytes xs, in memory of which Q is said. -/
def By (w : World) (Q : Nat → Prop) (A : Option Addr) (n : Nat) (xs : List UInt8) : Prop :=
 xs.length = n ∧ (0 < n → ∃ g o, A = some ⟨g, o, none⟩ ∧ Q g ∧ ∀ (j : Nat) (u : UInt8), xs[j]? = some u → w.cell? ⟨g, o + j, none⟩ = some (u8 u))

/-- Block g of w holds bytes, all of them cells that may be written. -/
def Bk (w : World) (g : Nat) : Prop := ∃ cs, w.heap[g]? = some (.cells cs 5 (0, 0))

section
variable {w w' : World} {Q Q' : Nat → Prop} {A : Option Addr} {n : Nat} {xs : List UInt8}
theorem By.none_ : By w Q A 0 [] := ⟨rfl, fun h => absurd h (by omega)⟩
theorem By.keep (h : By w Q A n xs) (hk : ∀ g, Q g → w'.heap[g]? = w.heap[g]?) : By w' Q A n xs :=
 ⟨h.1, fun hn => by
  obtain ⟨g, o, e, hb, hc⟩ := h.2 hn
  exact ⟨g, o, e, hb, fun j u hu => (World.cell?_of_block (a := ⟨g, o + j, none⟩) (hk g hb)).trans (hc j u hu)⟩⟩
theorem By.weak (h : By w Q A n xs) (hk : ∀ g, Q g → Q' g) : By w Q' A n xs :=
 ⟨h.1, fun hn => by
  obtain ⟨g, o, e, hb, hc⟩ := h.2 hn
  exact ⟨g, o, e, hk g hb, hc⟩⟩
theorem By.below {B : Nat} (h : By w (· < B) A n xs) (hb : Below B w w') : By w' (· < B) A n xs := h.keep fun g hg => hb.block g hg
theorem By.len (h : By w Q A n xs) : xs.length = n := h.1
theorem By.cell (h : By w Q A n xs) (k : Nat) (hk : k < xs.length) : ∃ g o, A = some ⟨g, o, none⟩ ∧ w.cell? ⟨g, o + k, none⟩ = some (u8 xs[k]) := by
 obtain ⟨g, o, e, _, hc⟩ := h.2 (by have := h.1; omega)
 exact ⟨g, o, e, hc k _ (List.getElem?_eq_getElem hk)⟩
/-- the first k -/
theorem By.take (h : By w Q A n xs) {k : Nat} (hk : k ≤ n) : By w Q A k (xs.take k) :=
 ⟨by rw [List.length_take, h.1]; omega, fun hn => by
  obtain ⟨g, o, e, hb, hc⟩ := h.2 (by omega)
  refine ⟨g, o, e, hb, fun j u hu => hc j u ?_⟩
  rw [List.getElem?_take] at hu
  split at hu
  ·exact hu
  ·cases hu⟩
/-- all but the first k -/
theorem By.drop (h : By w Q A n xs) {k c : Nat} (hk : k ≤ n) (hc : n ≤ c) : By w Q (if c = k then A else A.map (·.add k)) (n - k) (xs.drop k) :=
 ⟨by rw [List.length_drop, h.1], fun hn => by
  obtain ⟨g, o, e, hb, hcell⟩ := h.2 (by omega)
  subst e
  rw [if_neg (by omega)]
  refine ⟨g, o + k, ?_, hb, fun j u hu => ?_⟩
  ·simp only [Option.map_some, Option.some.injEq]
   unfold Addr.add; split <;> simp_all
  ·rw [Nat.add_assoc]
   exact hcell (k + j) u (by rw [← hu, List.getElem?_drop])⟩

theorem By.lt (h : By w Q A n xs) : By w (fun g => Q g ∧ g < w.heap.size) A n xs :=
 ⟨h.1, fun hn => by
  obtain ⟨g, o, e, hb, hc⟩ := h.2 hn
  have hl : 0 < xs.length := by have := h.1; omega
  have h0 := hc 0 xs[0] (List.getElem?_eq_getElem hl)
  exact ⟨g, o, e, ⟨hb, World.block_lt_of_cell? w ⟨g, o + 0, none⟩ h0⟩, hc⟩⟩
/-- It is read as it was behind a call that turns nothing that was there. -/
theorem By.through (h : By w Q A n xs) (hb : Below w.heap.size w w') : By w' Q A n xs :=
 (h.lt.keep fun g hg => hb.block g hg.2).weak fun _ hg => hg.1
theorem By.alloc (h : By w Q A n xs) (o : Obj) : By (w.alloc o) Q A n xs :=
 (h.lt.keep fun g hg => Below.heap_alloc w o g hg.2).weak fun _ hg => hg.1
theorem By.drew (h : By w Q A n xs) : By w.drew Q A n xs := h
/-- What a call owns reads as its bytes, in a block of bytes. -/
theorem By.of_own {base c : Nat} (h : w.ownsRow base 5 1 (.slice A n c) n (vs xs)) : By w (fun g => base ≤ g ∧ g < w.heap.size ∧ Bk w g) A n xs := by
 have hl : xs.length = n := by have := h.1; simpa [vs] using this
 refine ⟨hl, fun hn => ?_⟩
 have h0 := h
 rcases h.2 with ⟨_, h'⟩ | ⟨g, cap, cur, hv, hbg, hg, _⟩
 ·omega
 ·injection hv with hA _ hc
  subst hA; subst hc
  refine ⟨g, 0, rfl, ⟨hbg, (Array.getElem?_eq_some_iff.1 hg).1, cur, hg⟩, fun j u hu => ?_⟩
  have hj : j < n := by rw [← hl]; exact (List.getElem?_eq_some_iff.1 hu).1
  rw [Nat.zero_add, h0.cellAt j (by omega), vs_get, hu]
  rfl

/-- A slice that a call made is a slice. -/
theorem own_form {base : Nat} {v : Value} {ys : List Value} (h : w.ownsRow base 5 1 v n ys) : ∃ A c, v = .slice A n c ∧ n ≤ c ∧ c ≤ maxLen ∧ (∀ a, A = some a → ∃ g, a = ⟨g, 0, none⟩ ∧ base ≤ g) ∧ (A = none → c = 0) := by
 rcases h.2 with ⟨rfl, rfl⟩ | ⟨g, cap, cur, rfl, hbg, hg, hn, hm, _⟩
 ·exact ⟨none, 0, rfl, Nat.le_refl _, by simp [maxLen], fun a h => by (cases h), fun _ => rfl⟩
 ·exact ⟨some ⟨g, 0, none⟩, cap, rfl, hn, hm, fun a h => by injection h with h; exact ⟨g, h.symm, hbg⟩, fun h => by cases h⟩
end

section
variable {P : Program} (w : World)
end

section
variable {P : Program} (w : World)
end

/-- 'string(b)' of a slice that reads as bytes. -/
theorem run_string_by {P : Program} (w : World) (src dst e : TypeId) (hs : P.underlying src = some (.slice e)) (he : P.underlying e = some (.int .u8)) (hd : P.underlying dst = some .string)
  (Q : Nat → Prop) (A : Option Addr) (n c : Nat) (xs : List UInt8) (hr : By w Q A n xs) : (convert src dst (.slice A n c)).run P w = .ok (.string ⟨xs.toArray⟩) w := by
 rcases Nat.eq_zero_or_pos n with h0 | h0
 ·subst h0
  obtain rfl : xs = [] := List.eq_nil_of_length_eq_zero hr.1
  rw [run_convert_bytes_string w src dst e A 0 c hs he hd]
  cases A <;> simp [Conv.bytesToString, loadCells, loadCellsFrom] <;> rfl
 ·obtain ⟨g, o, e', _, hc⟩ := hr.2 h0
  subst e'
  have hl := hr.1
  rw [run_convert_bytes_arg (P := P) w src e hs he g o n c (xs.map fun b => (b.toNat : Int)) (by simpa using hl) (fun j hj => by
   have hj' : j < xs.length := by omega
   rw [hc j xs[j] (List.getElem?_eq_getElem hj')]
   simp [u8, List.getD, List.getElem?_eq_getElem hj']) dst hd]
  congr 2
  simp [strOfNums, Function.comp_def]

/-- The bytes of a number, the highest first. -/
def beB (v : Nat) : Nat → List UInt8
 | 0 => []
 | k + 1 => beB (v / 256) k ++ [UInt8.ofNat v]
theorem beB_length (v k : Nat) : (beB v k).length = k := by
 induction k generalizing v with
 | zero => rfl
 | succ k ih => simp [beB, ih]

end Go.Proofs.Ytpolofehkckaoaa

namespace Go.Proofs.Ytpolofehkckaoaa
open Go.RowKit

/-- A row's bytes. -/
def rowB (xs : List UInt8) : List UInt8 := beB xs.length 4 ++ xs
/-- A number of 64 bits without its sign, of one with it. -/
def u64N (v : Int) : Nat := (v % 18446744073709551616).toNat
end Go.Proofs.Ytpolofehkckaoaa

namespace Go.Proofs.Ytpolofehkckaoaa
open Go.RowKit

/-- Each one's bytes, one behind the other. -/
def encAll {α : Type} (f : α → List UInt8) : List α → List UInt8
 | [] => []
 | x :: xs => f x ++ encAll f xs
section
variable {α : Type} {f : α → List UInt8} {rd : Option (List UInt8) → α × Option (List UInt8)}
end

end Go.Proofs.Ytpolofehkckaoaa
