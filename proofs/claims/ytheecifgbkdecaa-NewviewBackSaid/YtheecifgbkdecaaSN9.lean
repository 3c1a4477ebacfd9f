/-
  RqR RqQ BaP
-/
import Derived.Deep.CutRange
import Derived.Test.YtheecifgbkdecaaSN8
import Derived.Test.YtheecifgbkdecaaSN5
import Derived.Test.YtheecifgbkdecaaSN6
namespace Go.Proofs.Ytheecifgbkdecaa
open Go.RowKit

theorem wrap_sx (v : Nat) (h : v < 18446744073709551616) : IntKind.i64.wrap (v : Int) = sx 8 v := by
 have e : ∀ V, sx 8 V = if V < 9223372036854775808 then (V : Int) else V - 18446744073709551616 := fun V => by simp [sx]
 rw [e]
 simp [IntKind.wrap, IntKind.signed, IntKind.bits]
 split <;> omega
theorem sx_small {v : Nat} (h : v < 9223372036854775808) : sx 8 v = v := by simp [sx, h]
theorem conv_i64 {P : Program} (t t' : TypeId) (ht : P.underlying t = some (.int .u64)) (ht' : P.underlying t' = some (.int .i64)) (v : Nat) (h : v < 18446744073709551616) (w : World) : (convert t t' (.int .u64 (v : Int))).run P w = .ok (.int .i64 (sx 8 v)) w := by
 simp [convert, run_underlying ht, run_underlying ht', Conv.intToInt, wrap_sx v h]
theorem conv_small {P : Program} (t t' : TypeId) (ht : P.underlying t = some (.int .u64)) (ht' : P.underlying t' = some (.int .i64)) (v : Nat) (h : v < 9223372036854775808) (w : World) : (convert t t' (.int .u64 (v : Int))).run P w = .ok (.int .i64 (v : Int)) w := by
 rw [conv_i64 t t' ht ht' v (by omega), sx_small h]

theorem only_new {a b c : World} {g h : Nat} (hab : a.grownBy b (some g)) (hbc : b.grownBy c (some h)) (hh : a.heap.size ≤ h) : a.grownBy c (some g) :=
 ⟨hbc.os.trans hab.os, hbc.tape.trans hab.tape, hbc.output.trans hab.output, Nat.le_trans hab.size hbc.size, fun i hi hne => (hbc.block i (Nat.lt_of_lt_of_le hi hab.size) (fun e => by have := Option.some.inj e; omega)).trans (hab.block i hi hne)⟩
/-- A block of cells that are no bytes is turned. -/
theorem By.far {w w' : World} {A : Option Addr} {n g : Nat} {xs : List UInt8} {t : TypeId} {cs : List Value} (h : By w (fun _ => True) A n xs) (hg : w.grownBy w' (some g)) (hb : Blk w g t cs) (hc : ∀ v ∈ cs, ∀ u : UInt8, v ≠ u8 u) : By w' (fun _ => True) A n xs :=
 ⟨h.1, fun hn => by
  obtain ⟨b, o, e, _, hc1⟩ := h.2 hn
  refine ⟨b, o, e, trivial, fun j u hu => hg.cell (hc1 j u hu) (fun e2 => ?_)⟩
  have e3 : b = g := Option.some.inj e2
  subst e3
  have h2 := hc1 j u hu
  rw [hb.cell] at h2
  exact hc _ (List.mem_of_getElem? h2) u rfl⟩

theorem results_cell_row_tmp1 {P : Program} {fn : Func} {p u : Tmp} {ty : TypeId} (h : fn.results = #[.cell p ty, .tmp u]) (tmps : Array Value) (w : World) (g : Nat) (t : TypeId) (cs : Array Value) (fr : Nat × Nat) (d : TypeDesc)
  (hp : tmps.getD p undef = .pointer (some ⟨g, 0, none⟩)) (hg : w.heap[g]? = some (.cells cs t fr))
  (hu : P.underlying ty = some d) (hd : (match d with | .struct _ | .array _ _ => true | _ => false) = true) (hi : (P.info? ty).map (·.size) = some cs.size) :
  (results fn tmps).run P w = .ok (.tuple #[.agg cs, tmps.getD u undef]) w := by
 have hp' : tmps[p]?.getD undef = .pointer (some ⟨g, 0, none⟩) := by simpa using hp
 simp [results, h, hp', asAddr, run_loadVar_row w g t ty cs fr d hg hu hd hi]
def stL : Option (List UInt8) → Nat
 | some r => r.length
 | none => 0
theorem nnext_stL (k : Nat) (st : Option (List UInt8)) : stL (nnext k st) ≤ stL st := by
 cases st with
 | none => exact Nat.le_refl _
 | some xs => rw [nnext_some]; split <;> simp [stL]
theorem tval_stL (k : Nat) (st : Option (List UInt8)) : (tval k st).length ≤ stL st := by
 cases st with
 | none => simp [tval_none]
 | some xs => rw [tval_some]; split <;> simp [stL]; omega
theorem rval_stL (m : Nat) (st : Option (List UInt8)) : (rval m st).length ≤ stL st := by
 unfold rval
 split
 ·exact Nat.le_trans (tval_stL _ _) (nnext_stL _ _)
 ·simp
theorem Try.alloc_cr (g : Nat) (w : World) (hg : w.heap.size = g) : (Instr.alloc 58 true (.tuple #[])).run Try.prog w = .ok (.pointer (some ⟨g, 0, none⟩)) (w.alloc (.cells #[.int .i64 0, .int .i64 0, .int .i64 0, .string (ba []), .int .i64 0, .int .i64 0, .string (ba [])] 58)) := by
 subst hg
 kernel_rfl
theorem Try.zero_cr (w : World) : (zeroValue 58).run Try.prog w = .ok (.agg #[.int .i64 0, .int .i64 0, .int .i64 0, .string (ba []), .int .i64 0, .int .i64 0, .string (ba [])]) w := by kernel_rfl
theorem Try.build_cr (w : World) : (Instr.build 58 #[]).run Try.prog w = .ok (.agg #[.int .i64 0, .int .i64 0, .int .i64 0, .string (ba []), .int .i64 0, .int .i64 0, .string (ba [])]) w := by kernel_rfl
theorem Try.build_c7 (a b : ByteArray) (i j k p q : Int) (w : World) : (Instr.build 58 #[(0, .int .i64 i), (1, .int .i64 j), (2, .int .i64 k), (3, .string a), (4, .int .i64 p), (5, .int .i64 q), (6, .string b)]).run Try.prog w = .ok (.agg #[.int .i64 i, .int .i64 j, .int .i64 k, .string a, .int .i64 p, .int .i64 q, .string b]) w := by kernel_rfl
theorem no_u8c (a b : ByteArray) (i j k p q : Int) : ∀ v ∈ ([.int .i64 i, .int .i64 j, .int .i64 k, .string a, .int .i64 p, .int .i64 q, .string b] : List Value), ∀ u : UInt8, v ≠ u8 u := by
 intro v hv u
 simp at hv
 rcases hv with rfl | rfl | rfl | rfl | rfl | rfl | rfl <;> simp [u8]
theorem one7 (a b : ByteArray) (i j k p q : Int) : ([.int .i64 i, .int .i64 j, .int .i64 k, .string a, .int .i64 p, .int .i64 q, .string b] : List Value).toArray.all (·.oneCell') = true := by simp [Value.oneCell']

end Go.Proofs.Ytheecifgbkdecaa

namespace Go.Proofs.Ytheecifgbkdecaa
open Go.RowKit

theorem rnext_stL (m : Nat) (st : Option (List UInt8)) : stL (rnext m st) ≤ stL st := by
 unfold rnext
 split
 ·exact Nat.le_trans (nnext_stL _ _) (nnext_stL _ _)
 ·exact Nat.zero_le _
theorem nnext_more {k : Nat} {st : Option (List UInt8)} (h : stL st < k) : nnext k st = none ∧ tval k st = [] := by
 cases st with
 | none => exact ⟨rfl, rfl⟩
 | some r =>
  have h' : ¬ k ≤ r.length := by simpa [stL] using h
  rw [nnext_some, tval_some, if_neg h', if_neg h']
  exact ⟨rfl, rfl⟩
/-- A row's bound doesn't matter where no more is left. -/
theorem row_free {m m' : Nat} {st : Option (List UInt8)} (h : stL st ≤ m) (h' : stL st ≤ m') : rval m st = rval m' st ∧ rnext m st = rnext m' st := by
 have key : ∀ k : Nat, stL st ≤ k → rval k st = tval (nval 4 st) (nnext 4 st) ∧ rnext k st = nnext (nval 4 st) (nnext 4 st) := by
  intro k hk
  unfold rval rnext
  by_cases hl : nval 4 st ≤ k
  ·rw [if_pos hl, if_pos hl]; exact ⟨rfl, rfl⟩
  ·rw [if_neg hl, if_neg hl]
   obtain ⟨h1, h2⟩ := nnext_more (k := nval 4 st) (st := nnext 4 st) (Nat.lt_of_le_of_lt (nnext_stL _ _) (by omega))
   exact ⟨h2.symm, h1.symm⟩
 exact ⟨(key m h).1.trans (key m' h').1.symm, (key m h).2.trans (key m' h').2.symm⟩
theorem rdCr_free {m m' : Nat} {st : Option (List UInt8)} (h : stL st ≤ m) (h' : stL st ≤ m') : rdCr m st = rdCr m' st := by
 have l1 : stL (nnext 1 (nnext 8 (nnext 1 st))) ≤ stL st := Nat.le_trans (nnext_stL _ _) (Nat.le_trans (nnext_stL _ _) (nnext_stL _ _))
 obtain ⟨a1, a2⟩ := row_free (m := m) (m' := m') (st := nnext 1 (nnext 8 (nnext 1 st))) (by omega) (by omega)
 have l2 : stL (nnext 8 (nnext 8 (rnext m' (nnext 1 (nnext 8 (nnext 1 st)))))) ≤ stL st := Nat.le_trans (nnext_stL _ _) (Nat.le_trans (nnext_stL _ _) (Nat.le_trans (rnext_stL _ _) l1))
 obtain ⟨b1, b2⟩ := row_free (m := m) (m' := m') (st := nnext 8 (nnext 8 (rnext m' (nnext 1 (nnext 8 (nnext 1 st)))))) (by omega) (by omega)
 unfold rdCr
 rw [a1, a2, b1, b2]
theorem parseCr_free {m m' : Nat} {xs : List UInt8} (N : Int) (h : xs.length ≤ m) (h' : xs.length ≤ m') : parseCr m xs N = parseCr m' xs N := by
 unfold parseCr
 rw [rdCr_free (m := m) (m' := m') (st := some xs) h h']

end Go.Proofs.Ytheecifgbkdecaa

namespace Go.Proofs.Ytheecifgbkdecaa
open Go.RowKit

/-- an entry: its core, and who stands behind it -/
structure Ey where
 co : Cr
 ms : Nat
def Ey.eqb (x y : Ey) : Bool := x.co.eqb y.co && (x.ms == y.ms)
theorem Ey.eqb_iff {x y : Ey} : x.eqb y = true ↔ x = y := by
 obtain ⟨x1, x2⟩ := x
 obtain ⟨y1, y2⟩ := y
 simp only [Ey.eqb, Bool.and_eq_true, Cr.eqb_iff, beq_iff_eq, Ey.mk.injEq]
/-- the same batch? -/
def sameB (a b : List Ey) : Bool := allB Ey.eqb a b
theorem sameB_iff {a b : List Ey} : sameB a b = true ↔ a = b := allB_iff (p := Ey.eqb) (fun _ _ => Ey.eqb_iff)
/-- the client of the last of these -/
def lastC (l : List Ey) : Option Int := l.getLast?.map (·.co.cl)
/-- what an entry behind that client comes to, whose core has that error -/
def chk1 (n : Int) (p : Option Int) (e : Int) (y : Ey) : Int :=
 if e ≠ 0 then e else if 2 ^ n.toNat ≤ y.ms then 5 else match p with
  | none => 0
  | some c => if y.co.cl ≤ c then 15 else 0
def chkW (n : Int) : Option Int → List Ey → Int
 | _, [] => 0
 | p, y :: ys => if chk1 n p (chkC y.co n) y ≠ 0 then chk1 n p (chkC y.co n) y else chkW n (some y.co.cl) ys
def sizesE (many : Nat) (n : Int) : Int := if n < 1 ∨ 7 < n then 1 else if 4 < many then 4 else 0
/-- may a batch be, of n? -/
def chkB (es : List Ey) (n : Int) : Int := if sizesE es.length n ≠ 0 then sizesE es.length n else chkW n none es
def encEy (y : Ey) : List UInt8 := rowB (encCr y.co) ++ beB y.ms 1
/-- a batch's bytes -/
def encB (es : List Ey) : List UInt8 := beB es.length 2 ++ encAll encEy es

theorem chkW_snoc (n : Int) (y : Ey) : ∀ (p : Option Int) (l : List Ey), chkW n p (l ++ [y]) = if chkW n p l ≠ 0 then chkW n p l else chk1 n (match lastC l with | some c => some c | none => p) (chkC y.co n) y
 | p, [] => by
  show (if chk1 n p (chkC y.co n) y ≠ 0 then chk1 n p (chkC y.co n) y else 0) = _
  rw [if_neg (show ¬ (chkW n p [] ≠ 0) from fun h => h rfl)]
  show _ = chk1 n p (chkC y.co n) y
  by_cases h : chk1 n p (chkC y.co n) y = 0
  ·rw [h]; rfl
  ·rw [if_pos h]
 | p, x :: l => by
  have hl : (match lastC (x :: l) with | some c => some c | none => p) = (match lastC l with | some c => some c | none => some x.co.cl) := by
   cases l with
   | nil => rfl
   | cons z l => unfold lastC; rw [List.getLast?_cons_cons]; cases hz : (z :: l).getLast? with
    | none => simp at hz
    | some v => rfl
  rw [hl, List.cons_append]
  simp only [chkW]
  by_cases h : chk1 n p (chkC x.co n) x = 0
  ·simp only [h, ne_eq, not_true_eq_false, if_false]
   exact chkW_snoc n y (some x.co.cl) l
  ·simp only [h, ne_eq, not_false_eq_true, if_true]
/-- what is read the document's way: so many, as long as nothing failed; are the cores of form? -/
def docR (m : Nat) : Nat → Bool → List Ey → Option (List UInt8) → List Ey × Bool × Option (List UInt8)
 | 0, b, out, st => (out, b, st)
 | _ + 1, b, out, none => (out, b, none)
 | k + 1, b, out, some xs => docR m k (b && decide ((rdCr m (some (rval m (some xs)))).2 = some [])) (out ++ [⟨(rdCr m (some (rval m (some xs)))).1, nval 1 (rnext m (some xs))⟩]) (nnext 1 (rnext m (some xs)))
def finB (r : List Ey × Bool × Option (List UInt8)) (n : Int) : List Ey × Int :=
 if r.2.2 = some [] ∧ r.2.1 = true then (if chkB r.1 n = 0 then (r.1, 0) else ([], chkB r.1 n)) else ([], 2)
/-- which batch bytes tell, or why none -/
def parseB (m : Nat) (xs : List UInt8) (n : Int) : List Ey × Int := finB (docR m (nval 2 (some xs)) true [] (nnext 2 (some xs))) n
/-- what is read the program's way -/
def prgR (M : Nat) (n : Int) : Nat → Int → List Ey → Option (List UInt8) → List Ey × Int
 | 0, e, l, st => if st = some [] then (if e = 0 then (l, 0) else ([], e)) else ([], 2)
 | k + 1, e, l, st =>
  if (parseCr (rval M st).length (rval M st) n).2 = 2 then ([], 2)
  else if e = 0 then prgR M n k (chk1 n (lastC l) (parseCr (rval M st).length (rval M st) n).2 ⟨(parseCr (rval M st).length (rval M st) n).1, nval 1 (rnext M st)⟩) (l ++ [⟨(parseCr (rval M st).length (rval M st) n).1, nval 1 (rnext M st)⟩]) (nnext 1 (rnext M st))
  else prgR M n k e l (nnext 1 (rnext M st))
def parseG (xs : List UInt8) (n : Int) : List Ey × Int := prgR xs.length n (nval 2 (some xs)) (sizesE (nval 2 (some xs)) n) [] (nnext 2 (some xs))
theorem docR_zero (m : Nat) (b : Bool) (out : List Ey) (st : Option (List UInt8)) : docR m 0 b out st = (out, b, st) := rfl
theorem docR_none (m k : Nat) (b : Bool) (out : List Ey) : docR m k b out none = (out, b, none) := by cases k <;> rfl
theorem docR_some (m k : Nat) (b : Bool) (out : List Ey) (xs : List UInt8) : docR m (k + 1) b out (some xs) = docR m k (b && decide ((rdCr m (some (rval m (some xs)))).2 = some [])) (out ++ [⟨(rdCr m (some (rval m (some xs)))).1, nval 1 (rnext m (some xs))⟩]) (nnext 1 (rnext m (some xs))) := rfl
theorem docR_false (m : Nat) : ∀ (k : Nat) (out : List Ey) (st : Option (List UInt8)), (docR m k false out st).2.1 = false
 | 0, _, _ => rfl
 | _ + 1, _, none => rfl
 | k + 1, out, some xs => by rw [docR_some, Bool.false_and]; exact docR_false m k _ _
theorem finB_false {r : List Ey × Bool × Option (List UInt8)} (n : Int) (h : r.2.1 = false) : finB r n = ([], 2) := by
 unfold finB
 rw [if_neg (fun h9 => by rw [h] at h9; exact absurd h9.2 (by decide))]
theorem chkC_ne (c : Cr) (n : Int) : chkC c n ≠ 2 := by
 unfold chkC
 repeat' split
 all_goals decide
theorem chk1_bad {n : Int} {p : Option Int} {e : Int} (h : e ≠ 0) (x y : Ey) : chk1 n p e x = chk1 n p e y := by
 unfold chk1
 rw [if_pos h, if_pos h]
theorem prgR_docR (M m many : Nat) (n : Int) : ∀ (k : Nat) (e : Int) (l out : List Ey) (st : Option (List UInt8)), stL st ≤ M → stL st ≤ m → out.length + k = many →
  e = (if sizesE many n ≠ 0 then sizesE many n else chkW n none out) → (e = 0 → l = out) → prgR M n k e l st = finB (docR m k true out st) n
 | 0, e, l, out, st, _, _, hk, he, hl => by
  have hb : chkB out n = e := by unfold chkB; rw [show out.length = many by omega, he]
  rw [docR_zero]
  unfold finB prgR
  simp only [and_true]
  rw [hb]
  by_cases h1 : st = some []
  ·rw [if_pos h1, if_pos h1]
   by_cases h2 : e = 0
   ·rw [if_pos h2, if_pos h2, hl h2]
   ·rw [if_neg h2, if_neg h2]
  ·rw [if_neg h1, if_neg h1]
 | k + 1, e, l, out, none, _, _, _, _, _ => by
  rw [docR_none]
  unfold finB prgR
  simp only
  have h1 : rval M none = [] := by unfold rval; split <;> rfl
  have h2 : (parseCr (rval M none).length (rval M none) n).2 = 2 := by
   rw [h1, parseCr_fail]
   decide
  rw [if_pos h2, if_neg (fun h9 => by cases h9.1)]
 | k + 1, e, l, out, some xs, hM, hm, hk, he, hl => by
  obtain ⟨a1, a2⟩ := row_free (m := M) (m' := m) (st := some xs) hM hm
  have hrow := rval_stL m (some xs)
  have hp := parseCr_free (m := (rval m (some xs)).length) (m' := m) (xs := rval m (some xs)) n (Nat.le_refl _) (by omega)
  have hn1 : stL (nnext 1 (rnext m (some xs))) ≤ stL (some xs) := Nat.le_trans (nnext_stL _ _) (rnext_stL _ _)
  rw [docR_some, Bool.true_and]
  unfold prgR
  rw [a1, a2, hp]
  generalize nnext 1 (rnext m (some xs)) = st2 at *
  generalize nval 1 (rnext m (some xs)) = ms
  generalize rval m (some xs) = row at *
  by_cases hok : (rdCr m (some row)).2 = some []
  case neg =>
   rw [parseCr_fail hok, if_pos rfl, decide_eq_false hok]
   exact (finB_false n (docR_false m _ _ _)).symm
  rw [decide_eq_true hok]
  have hpc : parseCr m row n = if chkC (rdCr m (some row)).1 n = 0 then ((rdCr m (some row)).1, 0) else (Cr.no, chkC (rdCr m (some row)).1 n) := by unfold parseCr; rw [if_pos hok]
  generalize (rdCr m (some row)).1 = c at *
  have h2 : (parseCr m row n).2 = chkC c n := by
   rw [hpc]
   split
   ·rename_i h9; exact h9.symm
   ·rfl
  have h1 : chkC c n = 0 → (parseCr m row n).1 = c := fun h9 => by rw [hpc, if_pos h9]
  generalize parseCr m row n = p at *
  rw [h2, if_neg (chkC_ne c n)]
  have hz := chkW_snoc n ⟨c, ms⟩ none out
  have hlast : (match lastC out with | some c => some c | none => none) = lastC out := by cases lastC out <;> rfl
  rw [hlast] at hz
  by_cases he0 : e = 0
  ·rw [if_pos he0]
   obtain rfl := hl he0
   have hs0 : sizesE many n = 0 := by
    by_cases h9 : sizesE many n = 0
    ·exact h9
    ·rw [if_pos h9] at he; omega
   rw [hs0, if_neg (by simp)] at he
   have e1 : chk1 n (lastC l) (chkC c n) ⟨p.1, ms⟩ = chk1 n (lastC l) (chkC c n) ⟨c, ms⟩ := by
    by_cases h9 : chkC c n = 0
    ·rw [h1 h9]
    ·exact chk1_bad h9 _ _
   rw [e1]
   refine prgR_docR M m many n k _ _ _ _ (by omega) (by omega) (by simp; omega) ?_ ?_
   ·rw [hs0, if_neg (by simp), hz, if_neg (by rw [← he]; simp [he0])]
   ·intro h9
    have h8 : chkC c n = 0 := by
     unfold chk1 at h9
     by_cases h7 : chkC c n = 0
     ·exact h7
     ·rw [if_pos h7] at h9; exact h9
    rw [h1 h8]
  ·rw [if_neg he0]
   refine prgR_docR M m many n k _ _ _ _ (by omega) (by omega) (by simp; omega) ?_ (fun h9 => absurd h9 he0)
   rw [hz]
   by_cases hs : sizesE many n = 0
   ·rw [hs, if_neg (by simp)] at he ⊢
    rw [← he, if_pos he0]
   ·rw [if_pos hs] at he ⊢
    exact he
theorem parseG_eq {m : Nat} {xs : List UInt8} (n : Int) (h : xs.length ≤ m) : parseG xs n = parseB m xs n := by
 have hs := nnext_stL 2 (some xs)
 have hl : stL (some xs) = xs.length := rfl
 show prgR xs.length n (nval 2 (some xs)) (sizesE (nval 2 (some xs)) n) [] (nnext 2 (some xs)) = finB (docR m (nval 2 (some xs)) true [] (nnext 2 (some xs))) n
 refine prgR_docR xs.length m (nval 2 (some xs)) n _ _ _ _ _ (by omega) (by omega) (by simp) ?_ (fun _ => rfl)
 by_cases h9 : sizesE (nval 2 (some xs)) n = 0
 ·rw [h9]; rfl
 ·rw [if_pos h9]

/-- the numbers of a core lie in their types -/
def Ey.In (y : Ey) : Prop := (-9223372036854775808 ≤ y.co.a ∧ y.co.a ≤ 9223372036854775807) ∧ (-9223372036854775808 ≤ y.co.b ∧ y.co.b ≤ 9223372036854775807)
theorem chkW_mem (n : Int) : ∀ (p : Option Int) (es : List Ey), chkW n p es = 0 → ∀ y ∈ es, chkC y.co n = 0 ∧ y.ms < 2 ^ n.toNat
 | _, [], _, y, hy => by cases hy
 | p, x :: xs, h, y, hy => by
  simp only [chkW] at h
  by_cases h1 : chk1 n p (chkC x.co n) x = 0
  ·rw [if_neg (by simp [h1])] at h
   rcases List.mem_cons.1 hy with rfl | hy
   ·unfold chk1 at h1
    by_cases h2 : chkC y.co n = 0
    ·rw [if_neg (by simp [h2])] at h1
     by_cases h3 : 2 ^ n.toNat ≤ y.ms
     ·rw [if_pos h3] at h1; cases h1
     ·exact ⟨h2, by omega⟩
    ·rw [if_pos h2] at h1; exact absurd h1 h2
   ·exact chkW_mem n _ xs h y hy
  ·rw [if_pos h1] at h; exact absurd h h1
theorem docR_back {m : Nat} (hm : m < 4294967296) (h4 : 400 ≤ m) {n : Int} : ∀ (es out : List Ey) (ys : List UInt8), (∀ y ∈ es, chkC y.co n = 0 ∧ y.ms < 256 ∧ y.In) → docR m es.length true out (some (encAll encEy es ++ ys)) = (out ++ es, true, some ys)
 | [], out, ys, _ => by simp [docR_zero, encAll]
 | y :: es, out, ys, h => by
  obtain ⟨h1, h2, h3, h5⟩ := h y (List.mem_cons_self ..)
  have hM := chkC_iff.1 h1
  have hn := (isNm_len hM.nm).2
  have htx := hM.tx
  have eE : encAll encEy (y :: es) ++ ys = rowB (encCr y.co) ++ (beB y.ms 1 ++ (encAll encEy es ++ ys)) := by simp [encAll, encEy]
  obtain ⟨a1, a2⟩ := r_front (most := m) (row := encCr y.co) (by rw [encCr_len]; omega) hm (beB y.ms 1 ++ (encAll encEy es ++ ys))
  obtain ⟨b1, b2⟩ := n_front (v := y.ms) (k := 1) (by rw [e1]; exact h2) (encAll encEy es ++ ys)
  have hc := rdCr_front hm (by omega) y.co n [] hM h3 h5
  rw [List.append_nil] at hc
  rw [eE, List.length_cons, docR_some, a1, a2, b1, b2, hc]
  simp only [decide_true, Bool.and_true]
  have ey : (⟨y.co, y.ms⟩ : Ey) = y := rfl
  rw [ey, docR_back hm h4 es _ ys (fun z hz => h z (List.mem_cons_of_mem _ hz))]
  simp
theorem chkB_len {es : List Ey} {n : Int} (h : chkB es n = 0) : es.length ≤ 4 ∧ 1 ≤ n ∧ n ≤ 7 ∧ chkW n none es = 0 := by
 unfold chkB at h
 by_cases h1 : sizesE es.length n = 0
 ·rw [if_neg (by simp [h1])] at h
  unfold sizesE at h1
  by_cases h2 : n < 1 ∨ 7 < n
  ·rw [if_pos h2] at h1; cases h1
  ·rw [if_neg h2] at h1
   by_cases h3 : 4 < es.length
   ·rw [if_pos h3] at h1; cases h1
   ·exact ⟨by omega, by omega, by omega, h⟩
 ·rw [if_pos h1] at h; exact absurd h h1
theorem parseB_back {m : Nat} (hm : m < 4294967296) (h4 : 400 ≤ m) {es : List Ey} {n : Int} (h : chkB es n = 0) (hi : ∀ y ∈ es, y.In) : parseB m (encB es) n = (es, 0) := by
 obtain ⟨hl, n1, n7, hw⟩ := chkB_len h
 have hms := chkW_mem n none es hw
 have h128 : 2 ^ n.toNat ≤ 128 := by
  have : n.toNat ≤ 7 := by omega
  exact Nat.pow_le_pow_right (by decide) this
 have e65 : (256 : Nat) ^ 2 = 65536 := by decide
 obtain ⟨a1, a2⟩ := n_front (v := es.length) (k := 2) (by omega) (encAll encEy es)
 have hd := docR_back (n := n) hm h4 es [] [] (fun y hy => ⟨(hms y hy).1, by have := (hms y hy).2; omega, hi y hy⟩)
 rw [List.append_nil] at hd
 unfold parseB encB
 rw [a1, a2, hd]
 unfold finB
 simp [h]
theorem encEy_len (y : Ey) : (encEy y).length = 39 + y.co.lt.length + y.co.tx.length := by
 unfold encEy rowB
 rw [List.length_append, List.length_append, beB_length, beB_length, encCr_len]
 omega
theorem lastC_take {es : List Ey} {i : Nat} (hi : i < es.length) : lastC (es.take (i + 1)) = some (es[i]'hi).co.cl := by
 unfold lastC
 rw [List.getLast?_take]
 simp [List.getElem?_eq_getElem hi]
theorem chkW_drop (n : Int) {es : List Ey} {i : Nat} {y : Ey} (hd : es.drop i = y :: es.drop (i + 1)) (p : Option Int) : chkW n p (es.drop i) = if chk1 n p (chkC y.co n) y ≠ 0 then chk1 n p (chkC y.co n) y else chkW n (some y.co.cl) (es.drop (i + 1)) := by
 rw [hd]; rfl

end Go.Proofs.Ytheecifgbkdecaa
