/-
  A letter and its steps, by plain functions; the table of states in memory. No walk here.
-/
import Derived.Test.YtjdglfjbfejcdaaDoorLMon
namespace Go.Proofs.YtjdglfjbfejcdaaDoor
open Go.RowKit

/-- A letter: its name, state, amount, day, policy, papers. -/
structure Lt where
  nm : List UInt8
  st : Int
  am : Int
  du : Int
  po : List UInt8
  pa : List UInt8
def Lt.no : Lt := ⟨[], 0, 0, 0, [], []⟩
def Lt.cells (l : Lt) : List Value := [.string (ba l.nm), .int .i64 l.st, .int .i64 l.am, .int .i64 l.du, .string (ba l.po), .string (ba l.pa)]
def Lt.val (l : Lt) : Value := .agg #[.string (ba l.nm), .int .i64 l.st, .int .i64 l.am, .int .i64 l.du, .string (ba l.po), .string (ba l.pa)]
/-- A letter beside an error, as a call hands them back. -/
def ltE (p : Lt × Int) : Value := .tuple #[p.1.val, .int .i64 p.2]

/-- where a step leads -/
def nextL (st op : Int) : Int :=
  if op = 1 then (if st = 0 then 1 else 0)
  else if op = 2 then (if st = 1 then 2 else 0)
  else if op = 3 then (if st = 2 then 2 else 0)
  else if op = 4 then (if st = 2 then 3 else 0)
  else if op = 5 then (if st = 3 then 4 else 0)
  else if op = 6 then (if st = 3 then 2 else 0)
  else if op = 7 then (if st = 4 then 5 else 0)
  else if op = 8 then (if st = 1 then 6 else if st = 2 then 6 else if st = 3 then 6 else 0)
  else if op = 9 then (if st = 1 then 7 else if st = 2 then 7 else 0)
  else 0
/-- a step is one of these -/
theorem op_cases (op : Int) : op = 1 ∨ op = 2 ∨ op = 3 ∨ op = 4 ∨ op = 5 ∨ op = 6 ∨ op = 7 ∨ op = 8 ∨ op = 9 ∨ op < 1 ∨ 9 < op := by omega
theorem nextL_out {st op : Int} (h : op < 1 ∨ 9 < op) : nextL st op = 0 := by
  unfold nextL
  repeat rw [if_neg (by omega)]
theorem nextL_far {st op : Int} (h : st < 0 ∨ 7 < st) : nextL st op = 0 := by
  unfold nextL
  repeat' split
  all_goals first | rfl | omega
theorem nextL_rng (st op : Int) : 0 ≤ nextL st op ∧ nextL st op ≤ 7 := by
  unfold nextL
  repeat' split
  all_goals omega
/-- over -/
def overL (st : Int) : Bool := decide (5 ≤ st) && decide (st ≤ 7)
theorem over_next {st : Int} (op : Int) (h : overL st = true) : nextL st op = 0 := by
  simp [overL] at h
  unfold nextL
  repeat' split
  all_goals first | rfl | omega
theorem over_not {st : Int} (h : overL st = false) (h0 : 1 ≤ st) (h7 : st ≤ 7) : nextL st 8 ≠ 0 ∨ nextL st 7 ≠ 0 := by
  simp [overL] at h
  have : st = 1 ∨ st = 2 ∨ st = 3 ∨ st = 4 := by omega
  rcases this with rfl | rfl | rfl | rfl <;> decide

/-- what Apply does -/
def applyL (nm : List UInt8) (a b : Int) (t : List UInt8) : Lt × Int :=
  if 200 < t.length then (Lt.no, 3) else if a < 1 then (Lt.no, 5) else if isM a = false then (Lt.no, 6) else if isM b = false then (Lt.no, 5) else (⟨nm, 0, a, b, t, []⟩, 0)
/-- what Amend does -/
def amendL (l : Lt) (a b : Int) : Lt × Int :=
  if (chgM l.am a).2 ≠ 0 then (Lt.no, (chgM l.am a).2) else if (chgM l.am a).1 = 0 then (Lt.no, 5) else if isM b = false then (Lt.no, 5)
  else (⟨l.nm, l.st, (chgM l.am a).1, if b = 0 then l.du else b, l.po, l.pa⟩, 0)
/-- what Present does -/
def presentL (l : Lt) (t : List UInt8) : Lt × Int := if 200 < t.length then (Lt.no, 3) else (⟨l.nm, l.st, l.am, l.du, l.po, t⟩, 0)
/-- what Expire asks -/
def expiryL (du a : Int) : Int := if isM a = false then 5 else if a < du then 8 else 0
/-- what a step does beside the state -/
def changeL (l : Lt) (op a b : Int) (t : List UInt8) : Lt × Int :=
  if op = 1 then applyL l.nm a b t else if op = 3 then amendL l a b else if op = 4 then presentL l t
  else if op = 6 then (⟨l.nm, l.st, l.am, l.du, l.po, []⟩, 0) else if op = 8 then (l, expiryL l.du a) else (l, 0)
/-- a step -/
def stepL (l : Lt) (op a b : Int) (t : List UInt8) : Lt × Int :=
  if nextL l.st op = 0 then (Lt.no, if op < 1 ∨ 9 < op then 1 else 8)
  else if (changeL l op a b t).2 ≠ 0 then (Lt.no, (changeL l op a b t).2)
  else (⟨(changeL l op a b t).1.nm, nextL l.st op, (changeL l op a b t).1.am, (changeL l op a b t).1.du, (changeL l op a b t).1.po, (changeL l op a b t).1.pa⟩, 0)

/-- The table of states: ten rows of eight. -/
def leadsT : List Int := [0,0,0,0,0,0,0,0, 1,0,0,0,0,0,0,0, 0,2,0,0,0,0,0,0, 0,0,2,0,0,0,0,0, 0,0,3,0,0,0,0,0, 0,0,0,4,0,0,0,0, 0,0,0,2,0,0,0,0, 0,0,0,0,5,0,0,0, 0,6,6,6,0,0,0,0, 0,7,7,0,0,0,0,0]
/-- It stands as the program's text lays it. -/
def Led (w : World) : Prop := ∀ i : Nat, i < 80 → w.cell? ⟨0, i, none⟩ = some (.int .i64 (leadsT.getD i 0))
theorem Led.lt {w : World} (h : Led w) : 0 < w.heap.size := World.block_lt_of_cell? w ⟨0, 0, none⟩ (h 0 (by omega))
theorem Led.through {w w' : World} (h : Led w) (hb : Below w.heap.size w w') : Led w' := fun i hi => (hb.cell (p := ⟨0, i, none⟩) h.lt).trans (h i hi)
theorem Led.alloc {w : World} (h : Led w) (o : Obj) : Led (w.alloc o) := h.through ((Below.refl _ w).alloc (Nat.le_refl _) o)
theorem leads_next (j k : Nat) (hj : j < 10) (hk : k < 8) : leadsT.getD (j * 8 + k) 0 = nextL k j := by
  have h : ∀ (j : Fin 10) (k : Fin 8), leadsT.getD (j.val * 8 + k.val) 0 = nextL (k.val : Int) (j.val : Int) := by decide +kernel
  exact h ⟨j, hj⟩ ⟨k, hk⟩

end Go.Proofs.YtjdglfjbfejcdaaDoor
