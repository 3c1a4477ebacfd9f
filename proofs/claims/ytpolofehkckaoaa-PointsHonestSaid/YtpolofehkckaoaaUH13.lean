/-
  Joined: PtP, Ft.
-/
import Derived.Test.YtpolofehkckaoaaUH12
import Derived.Test.YtpolofehkckaoaaUH1
namespace Go.Proofs.Ytpolofehkckaoaa
open Go.RowKit

def poZ : Po := ⟨0, List.replicate 32 0⟩
structure Ptp where
 n : Nat
 self : Nat
 of : List (List Po)
 rows : List (List UInt8)
/-- how many lie below -/
def befP (q : Int) : List Po → Nat
 | [] => 0
 | x :: l => if x.sq < q then befP q l + 1 else 0
def thP (q : Int) (l : List Po) : Bool :=
 match l[befP q l]? with
 | some x => x.sq == q
 | none => false
def insP (l : List Po) (i : Nat) (x : Po) : List Po := l.take i ++ x :: l.drop i
def supL (x : Po) : List Po → Nat
 | [] => 0
 | y :: l => (if y.eqb x then 1 else 0) + supL x l
def supO (x : Po) : List (List Po) → Nat
 | [] => 0
 | l :: r => supL x l + supO x r
def bestL (o : List (List Po)) (above k : Int) : List Po → Po × Bool → Po × Bool
 | [], b => b
 | y :: l, b => bestL o above k l (if above < y.sq ∧ k ≤ (supO y o : Int) then (y, true) else b)
def bestO (o : List (List Po)) (who : Nat) (above k : Int) : Po × Bool := bestL o above k (o.getD who []) (poZ, false)
def weakF (o : List (List Po)) (above k : Int) : Nat → Nat → Po × Bool → Po × Bool
 | 0, _, b => b
 | m + 1, who, b => weakF o above k m (who + 1) (if (bestO o who above k).2 && (!b.2 || decide (b.1.sq < (bestO o who above k).1.sq)) then ((bestO o who above k).1, true) else b)
def stabR (r : Ptp) (above : Int) : Po × Bool := bestO r.of r.self above (2 * fltN r.n + 1)
def weakR (r : Ptp) (above : Int) : Po × Bool := weakF r.of above (fltN r.n + 1) r.n 0 (poZ, false)
/-- the lowest, and the three greatest -/
def tolP (k : Nat) : Nat → List Po → List Po
 | _, [] => []
 | i, x :: l => (if i = 0 ∨ k ≤ i + 3 then [x] else []) ++ tolP k (i + 1) l
def ownL (r : Ptp) : List Po := r.of.getD r.self []
def toldR (r : Ptp) : List Po := tolP (ownL r).length 0 (ownL r)
def firstP (x : Po) : List Po → Nat → Option Nat
 | [], _ => none
 | y :: l, i => if y.eqb x then some i else firstP x l (i + 1)
def dropP (low : Int) : List Po → List (List UInt8) → List Po × List (List UInt8)
 | x :: l, b => if x.sq < low then dropP low l b.tail else (x :: l, b)
 | [], b => ([], b)
def moveR (r : Ptp) (low : Int) : Ptp := { r with of := r.of.set r.self (dropP low (ownL r) r.rows).1, rows := (dropP low (ownL r) r.rows).2 }
def ownR (r : Ptp) (q : Int) (d : List UInt8) (b : List UInt8) : Ptp :=
 if thP q (ownL r) then { r with of := r.of.set r.self ((ownL r).set (befP q (ownL r)) ⟨q, d⟩), rows := r.rows.set (befP q (ownL r)) b }
 else { r with of := r.of.set r.self (insP (ownL r) (befP q (ownL r)) ⟨q, d⟩), rows := r.rows.take (befP q (ownL r)) ++ b :: r.rows.drop (befP q (ownL r)) }
def voteL (l : List Po) (x : Po) : Option (List Po) :=
 if thP x.sq l = true ∨ befP x.sq l = 0 ∧ l.length = 3 then none
 else some (if 3 < (insP l (befP x.sq l) x).length then (insP l (befP x.sq l) x).drop 1 else insP l (befP x.sq l) x)
def voteR (r : Ptp) (who : Int) (x : Po) : Ptp × Bool :=
 if who = r.self ∨ who < 0 ∨ (r.n : Int) ≤ who then (r, false)
 else match voteL (r.of.getD who.toNat []) x with
  | none => (r, false)
  | some l => ({ r with of := r.of.set who.toNat l }, true)
theorem befP_le (q : Int) : ∀ l : List Po, befP q l ≤ l.length
 | [] => Nat.le_refl _
 | x :: l => by
  unfold befP
  have := befP_le q l
  split <;> simp <;> omega
/-- an index at which all before lie below, and its own doesn't, is it -/
theorem befP_is (q : Int) : ∀ (l : List Po) (i : Nat), i ≤ l.length → (∀ j x, j < i → l[j]? = some x → x.sq < q) → (∀ x, l[i]? = some x → ¬ x.sq < q) → befP q l = i
 | [], i, hi, _, _ => by unfold befP; simp at hi; omega
 | y :: l, i, hi, h1, h2 => by
  unfold befP
  cases i with
  | zero => rw [if_neg (h2 y rfl)]
  | succ i =>
   rw [if_pos (h1 0 y (Nat.succ_pos _) rfl), befP_is q l i (by simpa using hi) (fun j x hj hx => h1 (j + 1) x (by omega) (by simpa using hx)) (fun x hx => h2 x (by simpa using hx))]
def BefP (l : List Po) (q : Int) (i : Nat) : Prop := ∀ (j : Nat) (x : Po), j < i → l[j]? = some x → x.sq < q
end Go.Proofs.Ytpolofehkckaoaa

namespace Go.Proofs.Ytpolofehkckaoaa
open Go.RowKit

/-- of what was there, the blocks of D alone may have turned -/
structure Ft (D : Nat → Prop) (w w' : World) : Prop where
 os : w'.os = w.os
 tape : w'.tape = w.tape
 output : w'.output = w.output
 size : w.heap.size ≤ w'.heap.size
 block : ∀ b, b < w.heap.size → ¬ D b → w'.heap[b]? = w.heap[b]?
section
variable {D D' : Nat → Prop} {w m w' : World}
theorem Ft.refl (D : Nat → Prop) (w : World) : Ft D w w := ⟨rfl, rfl, rfl, Nat.le_refl _, fun _ _ _ => rfl⟩
theorem Ft.of_below (h : Below w.heap.size w w') : Ft D w w' := ⟨h.os, h.tape, h.output, h.size, fun b hb _ => h.block b hb⟩
theorem Ft.of_grown {row : Option Nat} (h : w.grownBy w' row) (hr : ∀ b, row = some b → D b ∨ w.heap.size ≤ b) : Ft D w w' :=
 ⟨h.os, h.tape, h.output, h.size, fun b hb hD => h.block b hb (fun e => by rcases hr b e.symm with h9 | h9; exact hD h9; omega)⟩
/-- behind it what the object has may be more, but nothing that was there already -/
theorem Ft.trans (a : Ft D w m) (b : Ft D' m w') (h : ∀ q, D' q → D q ∨ w.heap.size ≤ q) : Ft D w w' :=
 ⟨b.os.trans a.os, b.tape.trans a.tape, b.output.trans a.output, Nat.le_trans a.size b.size, fun q hq hD => (b.block q (Nat.lt_of_lt_of_le hq a.size) (fun h9 => by rcases h q h9 with h8 | h8; exact hD h8; omega)).trans (a.block q hq hD)⟩
theorem Ft.deep (a : Ft D w m) (b : Below m.heap.size m w') : Ft D w w' :=
 ⟨b.os.trans a.os, b.tape.trans a.tape, b.output.trans a.output, Nat.le_trans a.size b.size, fun q hq hD => (b.block q (Nat.lt_of_lt_of_le hq a.size)).trans (a.block q hq hD)⟩
theorem Ft.blk {q : Nat} {t : TypeId} {cs : List Value} (a : Ft D w w') (hb : Blk w q t cs) (h : ¬ D q) : Blk w' q t cs := (a.block q hb.lt h).trans hb
theorem Ft.below {B : Nat} {v : World} (a : Ft D w w') (hb : Below B v w) (hB : B ≤ w.heap.size) (h : ∀ q, D q → B ≤ q) : Below B v w' :=
 ⟨a.os.trans hb.os, a.tape.trans hb.tape, a.output.trans hb.output, Nat.le_trans hb.size a.size, fun k hk => (a.block k (by omega) (fun h9 => by have := h k h9; omega)).trans (hb.block k hk)⟩
end

end Go.Proofs.Ytpolofehkckaoaa
