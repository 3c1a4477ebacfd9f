/-
  OP Co Cm FBase
-/
import Derived.Test.YtheecifgbkdecaaSN0
import Derived.Test.YtheecifgbkdecaaRows
import Derived.Handy
import Derived.WalkSpells
import Derived.Deep.AppendLies
import Derived.Deep.Draws
import Derived.Deep.AppendSrc
import Derived.Deep.RegionLaw
import Derived.Lib.Hide
import Derived.Laws.CopyOwn
import Derived.Deep.MidRow
import Derived.Deep.RegionHeld
import Derived.Outline
import Derived.ChangeKeysEq
import Derived.Laws.StructEq
import Derived.IntWalk
import Derived.RegionTactic
import Derived.ChangeAlike
import Derived.StillTailTactics
import Derived.Deep.QuietTactic
namespace Go.Proofs.Ytheecifgbkdecaa
open Go.RowKit

/-- May a number have k bytes? -/
def wid (k : Int) : Bool := k == 1 || k == 2 || k == 4 || k == 8

theorem wid_iff {k : Int} : wid k = true ↔ k = 1 ∨ k = 2 ∨ k = 4 ∨ k = 8 := by simp [wid, or_assoc]

/-- What failing leaves. -/
def failX (xs : List UInt8) (er : Int) : List UInt8 := if er = 0 then [] else xs

def failE (er k : Int) : Int := if er = 0 then k else er

/-- Taking k bytes: what is given, what is left, the failure. -/
def takeY (xs : List UInt8) (er k : Int) : List UInt8 := if er = 0 ∧ 0 ≤ k ∧ k ≤ xs.length then xs.take k.toNat else []

def takeX (xs : List UInt8) (er k : Int) : List UInt8 := if er = 0 then (if 0 ≤ k ∧ k ≤ xs.length then xs.drop k.toNat else []) else xs

def takeE (xs : List UInt8) (er k : Int) : Int := if er = 0 then (if 0 ≤ k ∧ k ≤ xs.length then 0 else 2) else er

def bad (er : Int) : Bool := er != 0

/-- The number of which these are the bytes, the highest first. -/
def beN (xs : List UInt8) : Nat := xs.foldl (fun v x => v * 256 + x.toNat) 0

theorem beN_snoc (xs : List UInt8) (b : UInt8) : beN (xs ++ [b]) = beN xs * 256 + b.toNat := by simp [beN]

theorem beN_take (xs : List UInt8) (j : Nat) (h : j < xs.length) : beN (xs.take (j + 1)) = beN (xs.take j) * 256 + xs[j].toNat := by
 rw [List.take_succ_eq_append_getElem h, beN_snoc]

theorem beN_lt (xs : List UInt8) (j : Nat) : beN (xs.take j) < 256 ^ (xs.take j).length := by
 induction j with
 | zero => simp [beN]
 | succ j ih =>
  rcases Nat.lt_or_ge j xs.length with h | h
  ·rw [beN_take xs j h]
   have e : (xs.take (j + 1)).length = (xs.take j).length + 1 := by simp; omega
   rw [e, Nat.pow_succ]
   have hb := xs[j].toNat_lt
   omega
  ·rw [List.take_of_length_le (by omega)]
   rw [List.take_of_length_le h] at ih
   exact ih

theorem beN_small (xs : List UInt8) (j m : Nat) (hj : j ≤ m) : beN (xs.take j) < 256 ^ m := by
 have h := beN_lt xs j
 have hl : (xs.take j).length ≤ m := by simp; omega
 exact Nat.lt_of_lt_of_le h (Nat.pow_le_pow_right (by decide) hl)

/-- What Number answers, leaves, and fails with. -/
def numV (xs : List UInt8) (er k : Int) : Nat := if wid k then beN (takeY xs er k) else 0

def numX (xs : List UInt8) (er k : Int) : List UInt8 := if wid k then takeX xs er k else failX xs er

def numE (xs : List UInt8) (er k : Int) : Int := if wid k then takeE xs er k else failE er 2

theorem numV_lt (xs : List UInt8) (er k : Int) : numV xs er k < 256 ^ k.toNat ∨ numV xs er k = 0 := by
 unfold numV
 split
 ·left
  have h := beN_small (takeY xs er k) (takeY xs er k).length k.toNat
  rw [List.take_length] at h
  refine h ?_
  unfold takeY
  split <;> simp
  omega
 ·right; rfl

def upV (V : Nat) (most : Int) : Int := if most < V then 0 else V

def upX (X : List UInt8) (E : Int) (V : Nat) (most : Int) : List UInt8 := if most < V then failX X E else X

def upE (E : Int) (V : Nat) (most b : Int) : Int := if most < V then failE E b else E

/-- What Row gives, leaves, and fails with. -/
def rowY (xs : List UInt8) (er most : Int) : List UInt8 := takeY (upX (numX xs er 4) (numE xs er 4) (numV xs er 4) most) (upE (numE xs er 4) (numV xs er 4) most 3) (upV (numV xs er 4) most)

def rowX (xs : List UInt8) (er most : Int) : List UInt8 := takeX (upX (numX xs er 4) (numE xs er 4) (numV xs er 4) most) (upE (numE xs er 4) (numV xs er 4) most 3) (upV (numV xs er 4) most)

def rowE (xs : List UInt8) (er most : Int) : Int := takeE (upX (numX xs er 4) (numE xs er 4) (numV xs er 4) most) (upE (numE xs er 4) (numV xs er 4) most 3) (upV (numV xs er 4) most)

theorem takeY_le (xs : List UInt8) (er k : Int) : (takeY xs er k).length ≤ xs.length := by unfold takeY; split <;> simp; omega

theorem takeX_le (xs : List UInt8) (er k : Int) : (takeX xs er k).length ≤ xs.length := by 
 unfold takeX
 split
 ·split <;> simp
 ·simp

theorem failX_le (xs : List UInt8) (er : Int) : (failX xs er).length ≤ xs.length := by unfold failX; split <;> simp

theorem numX_le (xs : List UInt8) (er k : Int) : (numX xs er k).length ≤ xs.length := by
 unfold numX; split
 ·exact takeX_le _ _ _
 ·exact failX_le _ _

theorem upX_le (X : List UInt8) (E : Int) (V : Nat) (most : Int) : (upX X E V most).length ≤ X.length := by
 unfold upX; split
 ·exact failX_le _ _
 ·exact Nat.le_refl _

/-- What End answers. -/
def endV (xs : List UInt8) (er : Int) : Int := if er = 0 then (if xs = [] then 0 else 2) else er

/-- A number of k bytes, with its sign. -/
def sx (k : Int) (V : Nat) : Int := if k = 1 then (if V < 128 then V else V - 256) else if k = 2 then (if V < 32768 then V else V - 65536) else if k = 4 then (if V < 2147483648 then V else V - 4294967296) else if V < 9223372036854775808 then V else V - 18446744073709551616

theorem beN_beB (u k : Nat) : beN (beB u k) = u % 256 ^ k := by
 induction k generalizing u with
 | zero => simp [beB, beN, Nat.mod_one]
 | succ k ih =>
  have e1 : (UInt8.ofNat u).toNat = u % 256 := by simp
  rw [beB, beN_snoc, ih, e1]
  have h1 := Nat.div_add_mod u 256
  have h2 : u % 256 ^ (k + 1) = 256 * (u / 256 % 256 ^ k) + u % 256 := by
   rw [Nat.pow_succ, Nat.mul_comm (256 ^ k) 256, Nat.mod_mul]
   omega
  omega

end Go.Proofs.Ytheecifgbkdecaa

namespace Go.Proofs.Ytheecifgbkdecaa
open Go.RowKit

theorem beN_lt' (xs : List UInt8) : beN xs < 256 ^ xs.length := by
 have := beN_lt xs xs.length
 rwa [List.take_length] at this

def nval (k : Nat) : Option (List UInt8) → Nat
 | some xs => if k ≤ xs.length then beN (xs.take k) else 0
 | none => 0
def nnext (k : Nat) : Option (List UInt8) → Option (List UInt8)
 | some xs => if k ≤ xs.length then some (xs.drop k) else none
 | none => none
def tval (k : Nat) : Option (List UInt8) → List UInt8
 | some xs => if k ≤ xs.length then xs.take k else []
 | none => []
def rval (most : Nat) (st : Option (List UInt8)) : List UInt8 := if nval 4 st ≤ most then tval (nval 4 st) (nnext 4 st) else []
def rnext (most : Nat) (st : Option (List UInt8)) : Option (List UInt8) := if nval 4 st ≤ most then nnext (nval 4 st) (nnext 4 st) else none
def cval (most : Nat) (st : Option (List UInt8)) : Nat := if nval 2 st ≤ most then nval 2 st else 0
def cnext (most : Nat) (st : Option (List UInt8)) : Option (List UInt8) := if nval 2 st ≤ most then nnext 2 st else none
theorem nval_some (k : Nat) (xs : List UInt8) : nval k (some xs) = if k ≤ xs.length then beN (xs.take k) else 0 := rfl
theorem nnext_some (k : Nat) (xs : List UInt8) : nnext k (some xs) = if k ≤ xs.length then some (xs.drop k) else none := rfl
theorem tval_some (k : Nat) (xs : List UInt8) : tval k (some xs) = if k ≤ xs.length then xs.take k else [] := rfl
theorem tval_none (k : Nat) : tval k none = [] := rfl
theorem nval_lt (k : Nat) (st : Option (List UInt8)) : nval k st < 256 ^ k := by
 have h0 : 0 < 256 ^ k := Nat.pow_pos (by decide)
 cases st with
 | none => exact h0
 | some xs =>
  rw [nval_some]
  split
  ·rename_i hk
   have := beN_lt' (xs.take k)
   rwa [List.length_take, Nat.min_eq_left hk] at this
  ·exact h0
theorem n_front {v k : Nat} (h : v < 256 ^ k) (ys : List UInt8) : nval k (some (beB v k ++ ys)) = v ∧ nnext k (some (beB v k ++ ys)) = some ys := by
 have hl := beB_length v k
 have hle : k ≤ (beB v k ++ ys).length := by simp [hl]
 rw [nval_some, nnext_some, if_pos hle, if_pos hle]
 have e1 : (beB v k ++ ys).take k = beB v k := by rw [List.take_append_of_le_length (by omega), List.take_of_length_le (by omega)]
 have e2 : (beB v k ++ ys).drop k = ys := by rw [List.drop_append_of_le_length (by omega), List.drop_of_length_le (by omega)]; rfl
 rw [e1, e2, beN_beB, Nat.mod_eq_of_lt h]
 exact ⟨rfl, rfl⟩
theorem t_front (xs ys : List UInt8) : tval xs.length (some (xs ++ ys)) = xs ∧ nnext xs.length (some (xs ++ ys)) = some ys := by
 rw [tval_some, nnext_some, if_pos (by simp), if_pos (by simp)]
 simp
/-- A row's bytes. -/
def rowB (xs : List UInt8) : List UInt8 := beB xs.length 4 ++ xs
theorem r_front {most : Nat} {row : List UInt8} (h : row.length ≤ most) (hm : most < 4294967296) (ys : List UInt8) : rval most (some (rowB row ++ ys)) = row ∧ rnext most (some (rowB row ++ ys)) = some ys := by
 have e : (256 : Nat) ^ 4 = 4294967296 := by decide
 obtain ⟨h1, h2⟩ := n_front (v := row.length) (k := 4) (by omega) (row ++ ys)
 obtain ⟨h3, h4⟩ := t_front row ys
 unfold rval rnext rowB
 rw [List.append_assoc, h1, h2, if_pos h, if_pos h, h3, h4]
 exact ⟨rfl, rfl⟩
theorem c_front {most n : Nat} (h : n ≤ most) (hm : most < 65536) (ys : List UInt8) : cval most (some (beB n 2 ++ ys)) = n ∧ cnext most (some (beB n 2 ++ ys)) = some ys := by
 have e : (256 : Nat) ^ 2 = 65536 := by decide
 obtain ⟨h1, h2⟩ := n_front (v := n) (k := 2) (by omega) ys
 unfold cval cnext
 rw [h1, h2, if_pos h, if_pos h]
 exact ⟨rfl, rfl⟩
/-- A number of 64 bits without its sign, of one with it. -/
def u64N (v : Int) : Nat := (v % 18446744073709551616).toNat
theorem sx_u64N {v : Int} (h0 : -9223372036854775808 ≤ v) (h1 : v ≤ 9223372036854775807) : sx 8 (u64N v) = v := by
 have e : ∀ V, sx 8 V = if V < 9223372036854775808 then (V : Int) else V - 18446744073709551616 := fun V => by simp [sx]
 rw [e]
 unfold u64N
 split <;> omega
theorem u64N_lt (v : Int) : u64N v < 256 ^ 8 := by
 have e : (256 : Nat) ^ 8 = 18446744073709551616 := by decide
 unfold u64N
 omega
end Go.Proofs.Ytheecifgbkdecaa

namespace Go.Proofs.Ytheecifgbkdecaa
open Go.RowKit

/-- Each one's bytes, one behind the other. -/
def encAll {α : Type} (f : α → List UInt8) : List α → List UInt8
 | [] => []
 | x :: xs => f x ++ encAll f xs
/-- So many are read, as long as nothing failed. -/
def rdMany {α : Type} (rd : Option (List UInt8) → α × Option (List UInt8)) : Nat → Option (List UInt8) → List α × Option (List UInt8)
 | 0, st => ([], st)
 | _ + 1, none => ([], none)
 | n + 1, some xs => ((rd (some xs)).1 :: (rdMany rd n (rd (some xs)).2).1, (rdMany rd n (rd (some xs)).2).2)
theorem rdMany_zero {α : Type} (rd : Option (List UInt8) → α × Option (List UInt8)) (st : Option (List UInt8)) : rdMany rd 0 st = ([], st) := rfl
theorem rdMany_none {α : Type} (rd : Option (List UInt8) → α × Option (List UInt8)) (n : Nat) : rdMany rd n none = ([], none) := by cases n <;> rfl
theorem rdMany_some {α : Type} (rd : Option (List UInt8) → α × Option (List UInt8)) (n : Nat) (xs : List UInt8) : rdMany rd (n + 1) (some xs) = ((rd (some xs)).1 :: (rdMany rd n (rd (some xs)).2).1, (rdMany rd n (rd (some xs)).2).2) := rfl
/-- So many are read, whatever fails. -/
def rdAll {α : Type} (rd : Option (List UInt8) → α × Option (List UInt8)) : Nat → Option (List UInt8) → List α × Option (List UInt8)
 | 0, st => ([], st)
 | n + 1, st => ((rd st).1 :: (rdAll rd n (rd st).2).1, (rdAll rd n (rd st).2).2)
section
variable {α : Type} {f : α → List UInt8} {rd : Option (List UInt8) → α × Option (List UInt8)}
theorem rdMany_front {ok : α → Prop} (hf : ∀ a ys, ok a → rd (some (f a ++ ys)) = (a, some ys)) : ∀ (l : List α) (ys : List UInt8), (∀ a ∈ l, ok a) → rdMany rd l.length (some (encAll f l ++ ys)) = (l, some ys)
 | [], ys, _ => rfl
 | a :: l, ys, h => by
  have h1 := hf a (encAll f l ++ ys) (h a (List.mem_cons_self ..))
  have h2 := rdMany_front hf l ys (fun b hb => h b (List.mem_cons_of_mem _ hb))
  simp only [encAll, List.append_assoc, List.length_cons]
  rw [rdMany_some, h1]
  simp only
  rw [h2]
end

end Go.Proofs.Ytheecifgbkdecaa

namespace Go.Proofs.Ytheecifgbkdecaa
open Go.RowKit

/-- Block g is just these cells, of type t, all of which may be written. -/
def Blk (w : World) (g : Nat) (t : TypeId) (cs : List Value) : Prop := w.heap[g]? = some (.cells cs.toArray t (0, 0))

section
variable {w w' : World} {g : Nat} {t : TypeId} {cs : List Value}
theorem Blk.lt (h : Blk w g t cs) : g < w.heap.size := (Array.getElem?_eq_some_iff.1 h).1
theorem Blk.cell (h : Blk w g t cs) (i : Nat) : w.cell? ⟨g, i, none⟩ = cs[i]? := by rw [cell_of_row w g i _ t (0, 0) h]; simp
theorem Blk.cellAt (h : Blk w g t cs) {i : Nat} {v : Value} (hv : cs[i]? = some v) : w.cell? ⟨g, i, none⟩ = some v := (h.cell i).trans hv
theorem Blk.frozen (h : Blk w g t cs) (i : Nat) : w.frozen? ⟨g, i, none⟩ = false := frozen_of_row w g i _ t h
theorem Blk.new (w : World) (t : TypeId) (cs : List Value) : Blk (w.alloc (.cells cs.toArray t)) w.heap.size t cs := heap_alloc_new w _
theorem Blk.fresh {A : Array Value} (hg : g = w.heap.size) (h : A = cs.toArray) : Blk (w.alloc (.cells A t)) g t cs := by
 subst hg; subst h
 exact Blk.new w t cs
theorem Blk.drew (h : Blk w g t cs) : Blk w.drew g t cs := h
theorem Blk.drewN (h : Blk w g t cs) (n : Nat) : Blk (w.drewN n) g t cs := h
theorem Blk.alloc (h : Blk w g t cs) (o : Obj) : Blk (w.alloc o) g t cs := (Below.heap_alloc w o g h.lt).trans h
theorem Blk.set_ (h : Blk w g t cs) (i : Nat) (u : Value) : Blk (w.setCell ⟨g, i, none⟩ u) g t (cs.set i u) := by
 unfold Blk at h ⊢
 simp [World.setCell, Array.getElem?_modify, h]
theorem Blk.far (h : Blk w g t cs) {p : Addr} (hp : g ≠ p.block) (u : Value) : Blk (w.setCell p u) g t cs := (Below.heap_setCell w p u g hp).trans h
theorem Blk.below {B : Nat} (h : Blk w g t cs) (hb : Below B w w') (hg : g < B) : Blk w' g t cs := (hb.block g hg).trans h
theorem Blk.through (h : Blk w g t cs) (hb : Below w.heap.size w w') : Blk w' g t cs := h.below hb h.lt
theorem Blk.grown {row : Option Nat} (h : Blk w g t cs) (hb : w.grownBy w' row) (hg : some g ≠ row) : Blk w' g t cs := (hb.block g h.lt hg).trans h
theorem Blk.row (h : Blk w g t cs) (cs' : List Value) : Blk (w.setRow g cs'.toArray) g t cs' := setRow_heap w g _ _ t _ h
theorem below_drewN {B : Nat} {v w : World} (h : Below B v w) (n : Nat) : Below B v (w.drewN n) := ⟨h.os, h.tape, h.output, h.size, h.block⟩
end

/- Frames: a block may turn, all others that were there stand. -/
theorem only_refl (w : World) (g : Nat) : w.grownBy w (some g) := World.grownBy.refl w _

theorem only_trans {a b c : World} {g : Nat} (h : a.grownBy b (some g)) (k : b.grownBy c (some g)) : a.grownBy c (some g) :=
 ⟨k.os.trans h.os, k.tape.trans h.tape, k.output.trans h.output, Nat.le_trans h.size k.size, fun i hi hne => (k.block i (Nat.lt_of_lt_of_le hi h.size) hne).trans (h.block i hi hne)⟩

theorem only_below {a b : World} {g : Nat} (h : Below a.heap.size a b) : a.grownBy b (some g) := ⟨h.os, h.tape, h.output, h.size, fun i hi _ => h.block i hi⟩

theorem only_set (w : World) (g i : Nat) (u : Value) : w.grownBy (w.setCell ⟨g, i, none⟩ u) (some g) :=
 ⟨rfl, rfl, rfl, by simp [World.setCell], fun k _ hk => Below.heap_setCell _ _ _ _ (fun e => hk (by rw [e]))⟩

theorem only_row (w : World) (g : Nat) (cs : Array Value) : w.grownBy (w.setRow g cs) (some g) :=
 ⟨rfl, rfl, rfl, by simp [World.setRow], fun k _ hk => setRow_other w g k cs (fun e => hk (by rw [e]))⟩

/-- ranges of a block that is known whole -/
theorem Blk.range {w : World} {g : Nat} {t : TypeId} {pre cs post : List Value} (h : Blk w g t (pre ++ (cs ++ post))) : w.rangeAt g pre.length cs := fun j v hv => by
 have hj : j < cs.length := (List.getElem?_eq_some_iff.1 hv).1
 rw [h.cell, List.getElem?_append_right (by omega), Nat.add_sub_cancel_left, List.getElem?_append_left hj, hv]

theorem Blk.there {w : World} {g : Nat} {t : TypeId} {cs : List Value} (h : Blk w g t cs) (o n : Nat) (hn : o + n ≤ cs.length) : w.there g o n := fun j hj =>
 ⟨by rw [h.cell, List.getElem?_eq_getElem (by omega)]; rfl, h.frozen _⟩

theorem below_step {v W W' : World} (h : Below v.heap.size v W) (hb : Below W.heap.size W W') : Below v.heap.size v W' := h.trans (hb.mono h.size)

/-- A whole row, loaded. -/
theorem Blk.loadAt {P : Program} {w : World} {g : Nat} {t : TypeId} {cs : List Value} (h : Blk w g t cs) (ty : TypeId) (d : TypeDesc) (hu : P.underlying ty = some d)
  (hd : (match d with | .struct _ | .array _ _ => true | _ => false) = true) (hi : (P.info? ty).map (·.size) = some cs.length) : (Instr.loadAt ty (.pointer (some ⟨g, 0, none⟩))).run P w = .ok (.agg cs.toArray) w := by
 simp only [Instr.loadAt, Instr.sureAddr, Sem.run_bind, Sem.run_pure, Result.andThen_ok, run_loadVar_row w g t ty cs.toArray (0, 0) d h hu hd (by simpa using hi)]

/-- A store of a whole row, the world behind it a letter. -/
theorem wpList_store_blk {P : Program} {ops : Array Oper} {rest : List Oper} {o : Oper} {a : Act} {w : World} {Q : Exit → Act → World → Prop} (hgd : o.guard = none) (ty : TypeId) (x y : Operand) (ho : o.op = .store ty x y)
  (g : Nat) (cells : List Value) (hx : a.eval x = .pointer (some ⟨g, 0, none⟩)) (hy : a.eval y = .agg cells.toArray) (t : TypeId) (old : List Value) (hg : Blk w g t old) (hi : (P.info? ty).map (·.size) = some cells.length)
  (hold : old.length = cells.length) (h1 : cells.toArray.all (·.oneCell') = true)
  (h : ∀ w', Blk w' g t cells → w.grownBy w' (some g) → wpList P ops Q rest (a.put o.dst undef) w') : wpList P ops Q (o :: rest) a w :=
 wpList_store_row hgd ty x y ho g cells.toArray hx hy t old.toArray hg (by simpa using hi) (by simpa using hold) h1 (h _ (hg.row cells) (only_row w g _))

/-- A load of a whole row. -/
theorem wpList_load_blk {P : Program} {ops : Array Oper} {rest : List Oper} {o : Oper} {a : Act} {w : World} {Q : Exit → Act → World → Prop} (hgd : o.guard = none) (ty : TypeId) (x : Operand) (ho : o.op = .load ty x)
  (g : Nat) (hx : a.eval x = .pointer (some ⟨g, 0, none⟩)) (t : TypeId) (cells : List Value) (d : TypeDesc) (hg : Blk w g t cells)
  (hu : P.underlying ty = some d) (hd : (match d with | .struct _ | .array _ _ => true | _ => false) = true) (hi : (P.info? ty).map (·.size) = some cells.length)
  (h : wpList P ops Q rest (a.put o.dst (.agg cells.toArray)) w) : wpList P ops Q (o :: rest) a w :=
 wpList_load_row hgd ty x ho g hx t cells.toArray (0, 0) d hg hu hd (by simpa using hi) h

/-- What holds under a condition on the world holds under a stronger one that is kept. -/
theorem wpAnyH_weaken {P : Program} {md : Region.Mode} {ops : Array Oper} {Q : Exit → Act → World → Prop} {S S' : World → Prop} (h : ∀ w, S' w → S w) :
  ∀ (fuel : Nat) (listed : Array Bool) (a : Act) (w : World), wpAnyH P md ops Q S' fuel listed a w → wpAnyH P md ops Q S fuel listed a w
 | 0, _, _, _, hh => hh
 | fuel + 1, _, _, _, hh => ⟨hh.1, fun i hi => wpOp_mono (fun a w hk => ⟨h w hk.1, wpAnyH_weaken h fuel _ a w hk.2⟩) (hh.2 i hi)⟩

theorem yields_load_at {P : Program} {ops : Array Oper} {S : World → Prop} {op : Oper} {a : Act} (hw : Region.wanted op (yielded ops a.tmps) = true) (ty : TypeId) (x : Operand) (ho : op.op = .load ty x)
  (p : Value) (hx : a.eval x = p) (v : Value) (hS : ∀ w, S w → (Instr.loadAt ty p).run P w = .ok v w) : YieldsIf P ops S op v a :=
 .inl ⟨hw, fun w hw' => by
  unfold execOp
  simp only [ho, hx, Sem.run_bind, hS w hw', Result.andThen_ok]
  rfl⟩

/-- A store of a whole row, the world behind it a letter, at a step of a region that draws. -/
theorem step_store_blk {P : Program} {ops : Array Oper} {o : Oper} {a : Act} {w : World} {K : Act → World → Prop} {Q : Exit → Act → World → Prop} {E : Prop} (hgd : o.guard = none) (ty : TypeId) (x y : Operand) (ho : o.op = .store ty x y)
  (g : Nat) (cells : List Value) (hx : a.eval x = .pointer (some ⟨g, 0, none⟩)) (hy : a.eval y = .agg cells.toArray) (t : TypeId) (old : List Value) (hg : Blk w g t old) (hi : (P.info? ty).map (·.size) = some cells.length)
  (hold : old.length = cells.length) (h1 : cells.toArray.all (·.oneCell') = true)
  (h : ∀ w', Blk w' g t cells → w.grownBy w' (some g) → K (a.put o.dst undef) w') : if Region.wanted o (yielded ops a.tmps) = true then Oper.wp P o a w K Q else E := by
 have hw : Region.wanted o (yielded ops a.tmps) = true := by simp [Region.wanted, hgd]
 rw [if_pos hw]
 exact wp_store_row ty x y ho g cells.toArray hx hy t old.toArray hg (by simpa using hi) (by simpa using hold) h1 (h _ (hg.row cells) (only_row w g _))

/-- A load of a whole row, guarded. -/
theorem wpList_load_blk_g {P : Program} {ops : Array Oper} {rest : List Oper} {o : Oper} {a : Act} {w : World} {Q : Exit → Act → World → Prop} (ty : TypeId) (x : Operand) (ho : o.op = .load ty x) (hw : Region.wanted o (yielded ops a.tmps) = true)
  (g : Nat) (hx : a.eval x = .pointer (some ⟨g, 0, none⟩)) (t : TypeId) (cells : List Value) (d : TypeDesc) (hg : Blk w g t cells)
  (hu : P.underlying ty = some d) (hd : (match d with | .struct _ | .array _ _ => true | _ => false) = true) (hi : (P.info? ty).map (·.size) = some cells.length)
  (h : wpList P ops Q rest (a.put o.dst (.agg cells.toArray)) w) : wpList P ops Q (o :: rest) a w := by
 rw [wpList, if_pos hw]
 exact .inl (wp_load_row ty x ho g hx t cells.toArray (0, 0) d hg hu hd (by simpa using hi) h)

/-- A new variable, at a step of a region that draws. -/
theorem step_alloc {P : Program} {ops : Array Oper} {o : Oper} {a : Act} {w : World} {K : Act → World → Prop} {Q : Exit → Act → World → Prop} {E : Prop} (hw : Region.wanted o (yielded ops a.tmps) = true) (t : TypeId) (ho : o.op = .alloc t)
  (v : Value) (w' : World) (hrun : (Instr.alloc t true (.tuple #[])).run P w = .ok v w') (h : K (a.put o.dst v) w') : if Region.wanted o (yielded ops a.tmps) = true then Oper.wp P o a w K Q else E := by
 rw [if_pos hw]
 unfold Oper.wp execOp
 simp only [ho, Sem.run_bind, hrun, Result.andThen_ok]
 exact h

theorem below_new {w w' : World} {o : Obj} (ho : (w.alloc o).grownBy w' (some w.heap.size)) : Below w.heap.size w w' :=
 ((Below.refl _ w).alloc (Nat.le_refl _) o).grown ho (by simp) (fun k hk => Option.some.inj hk ▸ Nat.le_refl _)

/-- a load of one cell -/
theorem load_one' {P : Program} {t : TypeId} {w : World} (hag : (isAgg t).run P w = .ok false w) {p : Addr} {v : Value} (h : w.cell? p = some v) : (Instr.loadAt t (.pointer (some p))).run P w = .ok v w := by
 simp only [Instr.loadAt, Instr.sureAddr, loadVar, Sem.run_bind, Sem.run_pure, hag, Result.andThen_ok, Bool.false_eq_true, if_false]
 simp [h]

/-- A store of one cell of a block that is known whole. -/
theorem wpList_store_cell {P : Program} {w : World} {ops : Array Oper} {rest : List Oper} {o : Oper} {a : Act} {Q : Exit → Act → World → Prop} (hgd : o.guard = none) (ty : TypeId) (x y : Operand) (ho : o.op = .store ty x y)
  (g i : Nat) (hx : a.eval x = .pointer (some ⟨g, i, none⟩)) (v : Value) (hy : a.eval y = v) (hv : v.cells = #[v]) (hv1 : v.oneCell' = true) (hsz : ∀ w, (sizeOf ty).run P w = .ok 1 w) (t : TypeId) (cs : List Value) (hb : Blk w g t cs) (hi : i < cs.length)
  (h : ∀ w', Blk w' g t (cs.set i v) → w.grownBy w' (some g) → wpList P ops Q rest (a.put o.dst undef) w') : wpList P ops Q (o :: rest) a w :=
 wpList_plain hgd fun K hK => by
  have hc := hb.cellAt (List.getElem?_eq_getElem hi)
  have hf := hb.frozen i
  have hrun : (Instr.storeAt ty (.pointer (some ⟨g, i, none⟩)) v).run P w = .ok () (w.setCell ⟨g, i, none⟩ v) := by
   simp only [Instr.storeAt, Instr.sureAddr, storeVar, Sem.run_bind, Sem.run_pure, Result.andThen_ok]
   have ha : (⟨g, i, none⟩ : Addr).add 0 = ⟨g, i, none⟩ := by simp [Addr.add]
   have hst := run_store P w ⟨g, i, none⟩ v .plain hv1
   simp only [hc, hf, Bool.false_eq_true, if_false] at hst
   simp [hv, storeCells, ha, hsz, hst]
  unfold Oper.wp execOp
  simp only [ho, hx, hy, Sem.run_bind, hrun, Result.andThen_ok]
  exact hK _ _ (h _ (hb.set_ i v) (only_set w g i v))

end Go.Proofs.Ytheecifgbkdecaa
