/-
  BaP RqV NmP
-/
import Derived.Test.YtheecifgbkdecaaSM8
import Derived.Test.YtheecifgbkdecaaSM7
import Derived.Lib.OthersKept
import Derived.Laws.Cover1
import Derived.Laws.RangeAny
namespace Go.Proofs.Ytheecifgbkdecaa
open Go.RowKit

/-- an entry: its core, and who stands behind it -/
structure Ey where
 co : Cr
 ms : Nat
def Ey.eqb (x y : Ey) : Bool := x.co.eqb y.co && (x.ms == y.ms)
theorem Ey.eqb_iff {x y : Ey} : x.eqb y = true ↔ x = y := by
 obtain ⟨x1, x2⟩ := x
 obtain ⟨y1, y2⟩ := y
 simp only [Ey.eqb, Bool.and_eq_true, Cr.eqb_iff, beq_iff_eq, Ey.mk.injEq]
/-- the same batch? -/
def sameB (a b : List Ey) : Bool := allB Ey.eqb a b
theorem sameB_iff {a b : List Ey} : sameB a b = true ↔ a = b := allB_iff (p := Ey.eqb) (fun _ _ => Ey.eqb_iff)
/-- the client of the last of these -/
def lastC (l : List Ey) : Option Int := l.getLast?.map (·.co.cl)
/-- what an entry behind that client comes to, whose core has that error -/
def chk1 (n : Int) (p : Option Int) (e : Int) (y : Ey) : Int :=
 if e ≠ 0 then e else if 2 ^ n.toNat ≤ y.ms then 5 else match p with
  | none => 0
  | some c => if y.co.cl ≤ c then 15 else 0
def chkW (n : Int) : Option Int → List Ey → Int
 | _, [] => 0
 | p, y :: ys => if chk1 n p (chkC y.co n) y ≠ 0 then chk1 n p (chkC y.co n) y else chkW n (some y.co.cl) ys
def sizesE (many : Nat) (n : Int) : Int := if n < 1 ∨ 7 < n then 1 else if 4 < many then 4 else 0
/-- may a batch be, of n? -/
def chkB (es : List Ey) (n : Int) : Int := if sizesE es.length n ≠ 0 then sizesE es.length n else chkW n none es
def encEy (y : Ey) : List UInt8 := rowB (encCr y.co) ++ beB y.ms 1
/-- a batch's bytes -/
def encB (es : List Ey) : List UInt8 := beB es.length 2 ++ encAll encEy es

theorem chkW_snoc (n : Int) (y : Ey) : ∀ (p : Option Int) (l : List Ey), chkW n p (l ++ [y]) = if chkW n p l ≠ 0 then chkW n p l else chk1 n (match lastC l with | some c => some c | none => p) (chkC y.co n) y
 | p, [] => by
  show (if chk1 n p (chkC y.co n) y ≠ 0 then chk1 n p (chkC y.co n) y else 0) = _
  rw [if_neg (show ¬ (chkW n p [] ≠ 0) from fun h => h rfl)]
  show _ = chk1 n p (chkC y.co n) y
  by_cases h : chk1 n p (chkC y.co n) y = 0
  ·rw [h]; rfl
  ·rw [if_pos h]
 | p, x :: l => by
  have hl : (match lastC (x :: l) with | some c => some c | none => p) = (match lastC l with | some c => some c | none => some x.co.cl) := by
   cases l with
   | nil => rfl
   | cons z l => unfold lastC; rw [List.getLast?_cons_cons]; cases hz : (z :: l).getLast? with
    | none => simp at hz
    | some v => rfl
  rw [hl, List.cons_append]
  simp only [chkW]
  by_cases h : chk1 n p (chkC x.co n) x = 0
  ·simp only [h, ne_eq, not_true_eq_false, if_false]
   exact chkW_snoc n y (some x.co.cl) l
  ·simp only [h, ne_eq, not_false_eq_true, if_true]
/-- what is read the document's way: so many, as long as nothing failed; are the cores of form? -/
def docR (m : Nat) : Nat → Bool → List Ey → Option (List UInt8) → List Ey × Bool × Option (List UInt8)
 | 0, b, out, st => (out, b, st)
 | _ + 1, b, out, none => (out, b, none)
 | k + 1, b, out, some xs => docR m k (b && decide ((rdCr m (some (rval m (some xs)))).2 = some [])) (out ++ [⟨(rdCr m (some (rval m (some xs)))).1, nval 1 (rnext m (some xs))⟩]) (nnext 1 (rnext m (some xs)))
def finB (r : List Ey × Bool × Option (List UInt8)) (n : Int) : List Ey × Int :=
 if r.2.2 = some [] ∧ r.2.1 = true then (if chkB r.1 n = 0 then (r.1, 0) else ([], chkB r.1 n)) else ([], 2)
/-- which batch bytes tell, or why none -/
def parseB (m : Nat) (xs : List UInt8) (n : Int) : List Ey × Int := finB (docR m (nval 2 (some xs)) true [] (nnext 2 (some xs))) n
/-- what is read the program's way -/
def prgR (M : Nat) (n : Int) : Nat → Int → List Ey → Option (List UInt8) → List Ey × Int
 | 0, e, l, st => if st = some [] then (if e = 0 then (l, 0) else ([], e)) else ([], 2)
 | k + 1, e, l, st =>
  if (parseCr (rval M st).length (rval M st) n).2 = 2 then ([], 2)
  else if e = 0 then prgR M n k (chk1 n (lastC l) (parseCr (rval M st).length (rval M st) n).2 ⟨(parseCr (rval M st).length (rval M st) n).1, nval 1 (rnext M st)⟩) (l ++ [⟨(parseCr (rval M st).length (rval M st) n).1, nval 1 (rnext M st)⟩]) (nnext 1 (rnext M st))
  else prgR M n k e l (nnext 1 (rnext M st))
def parseG (xs : List UInt8) (n : Int) : List Ey × Int := prgR xs.length n (nval 2 (some xs)) (sizesE (nval 2 (some xs)) n) [] (nnext 2 (some xs))
theorem docR_zero (m : Nat) (b : Bool) (out : List Ey) (st : Option (List UInt8)) : docR m 0 b out st = (out, b, st) := rfl
theorem docR_none (m k : Nat) (b : Bool) (out : List Ey) : docR m k b out none = (out, b, none) := by cases k <;> rfl
theorem docR_some (m k : Nat) (b : Bool) (out : List Ey) (xs : List UInt8) : docR m (k + 1) b out (some xs) = docR m k (b && decide ((rdCr m (some (rval m (some xs)))).2 = some [])) (out ++ [⟨(rdCr m (some (rval m (some xs)))).1, nval 1 (rnext m (some xs))⟩]) (nnext 1 (rnext m (some xs))) := rfl
theorem docR_false (m : Nat) : ∀ (k : Nat) (out : List Ey) (st : Option (List UInt8)), (docR m k false out st).2.1 = false
 | 0, _, _ => rfl
 | _ + 1, _, none => rfl
 | k + 1, out, some xs => by rw [docR_some, Bool.false_and]; exact docR_false m k _ _
theorem finB_false {r : List Ey × Bool × Option (List UInt8)} (n : Int) (h : r.2.1 = false) : finB r n = ([], 2) := by
 unfold finB
 rw [if_neg (fun h9 => by rw [h] at h9; exact absurd h9.2 (by decide))]
theorem chkC_ne (c : Cr) (n : Int) : chkC c n ≠ 2 := by
 unfold chkC
 repeat' split
 all_goals decide
theorem chk1_bad {n : Int} {p : Option Int} {e : Int} (h : e ≠ 0) (x y : Ey) : chk1 n p e x = chk1 n p e y := by
 unfold chk1
 rw [if_pos h, if_pos h]
theorem prgR_docR (M m many : Nat) (n : Int) : ∀ (k : Nat) (e : Int) (l out : List Ey) (st : Option (List UInt8)), stL st ≤ M → stL st ≤ m → out.length + k = many →
  e = (if sizesE many n ≠ 0 then sizesE many n else chkW n none out) → (e = 0 → l = out) → prgR M n k e l st = finB (docR m k true out st) n
 | 0, e, l, out, st, _, _, hk, he, hl => by
  have hb : chkB out n = e := by unfold chkB; rw [show out.length = many by omega, he]
  rw [docR_zero]
  unfold finB prgR
  simp only [and_true]
  rw [hb]
  by_cases h1 : st = some []
  ·rw [if_pos h1, if_pos h1]
   by_cases h2 : e = 0
   ·rw [if_pos h2, if_pos h2, hl h2]
   ·rw [if_neg h2, if_neg h2]
  ·rw [if_neg h1, if_neg h1]
 | k + 1, e, l, out, none, _, _, _, _, _ => by
  rw [docR_none]
  unfold finB prgR
  simp only
  have h1 : rval M none = [] := by unfold rval; split <;> rfl
  have h2 : (parseCr (rval M none).length (rval M none) n).2 = 2 := by
   rw [h1, parseCr_fail]
   decide
  rw [if_pos h2, if_neg (fun h9 => by cases h9.1)]
 | k + 1, e, l, out, some xs, hM, hm, hk, he, hl => by
  obtain ⟨a1, a2⟩ := row_free (m := M) (m' := m) (st := some xs) hM hm
  have hrow := rval_stL m (some xs)
  have hp := parseCr_free (m := (rval m (some xs)).length) (m' := m) (xs := rval m (some xs)) n (Nat.le_refl _) (by omega)
  have hn1 : stL (nnext 1 (rnext m (some xs))) ≤ stL (some xs) := Nat.le_trans (nnext_stL _ _) (rnext_stL _ _)
  rw [docR_some, Bool.true_and]
  unfold prgR
  rw [a1, a2, hp]
  generalize nnext 1 (rnext m (some xs)) = st2 at *
  generalize nval 1 (rnext m (some xs)) = ms
  generalize rval m (some xs) = row at *
  by_cases hok : (rdCr m (some row)).2 = some []
  case neg =>
   rw [parseCr_fail hok, if_pos rfl, decide_eq_false hok]
   exact (finB_false n (docR_false m _ _ _)).symm
  rw [decide_eq_true hok]
  have hpc : parseCr m row n = if chkC (rdCr m (some row)).1 n = 0 then ((rdCr m (some row)).1, 0) else (Cr.no, chkC (rdCr m (some row)).1 n) := by unfold parseCr; rw [if_pos hok]
  generalize (rdCr m (some row)).1 = c at *
  have h2 : (parseCr m row n).2 = chkC c n := by
   rw [hpc]
   split
   ·rename_i h9; exact h9.symm
   ·rfl
  have h1 : chkC c n = 0 → (parseCr m row n).1 = c := fun h9 => by rw [hpc, if_pos h9]
  generalize parseCr m row n = p at *
  rw [h2, if_neg (chkC_ne c n)]
  have hz := chkW_snoc n ⟨c, ms⟩ none out
  have hlast : (match lastC out with | some c => some c | none => none) = lastC out := by cases lastC out <;> rfl
  rw [hlast] at hz
  by_cases he0 : e = 0
  ·rw [if_pos he0]
   obtain rfl := hl he0
   have hs0 : sizesE many n = 0 := by
    by_cases h9 : sizesE many n = 0
    ·exact h9
    ·rw [if_pos h9] at he; omega
   rw [hs0, if_neg (by simp)] at he
   have e1 : chk1 n (lastC l) (chkC c n) ⟨p.1, ms⟩ = chk1 n (lastC l) (chkC c n) ⟨c, ms⟩ := by
    by_cases h9 : chkC c n = 0
    ·rw [h1 h9]
    ·exact chk1_bad h9 _ _
   rw [e1]
   refine prgR_docR M m many n k _ _ _ _ (by omega) (by omega) (by simp; omega) ?_ ?_
   ·rw [hs0, if_neg (by simp), hz, if_neg (by rw [← he]; simp [he0])]
   ·intro h9
    have h8 : chkC c n = 0 := by
     unfold chk1 at h9
     by_cases h7 : chkC c n = 0
     ·exact h7
     ·rw [if_pos h7] at h9; exact h9
    rw [h1 h8]
  ·rw [if_neg he0]
   refine prgR_docR M m many n k _ _ _ _ (by omega) (by omega) (by simp; omega) ?_ (fun h9 => absurd h9 he0)
   rw [hz]
   by_cases hs : sizesE many n = 0
   ·rw [hs, if_neg (by simp)] at he ⊢
    rw [← he, if_pos he0]
   ·rw [if_pos hs] at he ⊢
    exact he
theorem parseG_eq {m : Nat} {xs : List UInt8} (n : Int) (h : xs.length ≤ m) : parseG xs n = parseB m xs n := by
 have hs := nnext_stL 2 (some xs)
 have hl : stL (some xs) = xs.length := rfl
 show prgR xs.length n (nval 2 (some xs)) (sizesE (nval 2 (some xs)) n) [] (nnext 2 (some xs)) = finB (docR m (nval 2 (some xs)) true [] (nnext 2 (some xs))) n
 refine prgR_docR xs.length m (nval 2 (some xs)) n _ _ _ _ _ (by omega) (by omega) (by simp) ?_ (fun _ => rfl)
 by_cases h9 : sizesE (nval 2 (some xs)) n = 0
 ·rw [h9]; rfl
 ·rw [if_pos h9]

/-- the numbers of a core lie in their types -/
def Ey.In (y : Ey) : Prop := (-9223372036854775808 ≤ y.co.a ∧ y.co.a ≤ 9223372036854775807) ∧ (-9223372036854775808 ≤ y.co.b ∧ y.co.b ≤ 9223372036854775807)
theorem chkW_mem (n : Int) : ∀ (p : Option Int) (es : List Ey), chkW n p es = 0 → ∀ y ∈ es, chkC y.co n = 0 ∧ y.ms < 2 ^ n.toNat
 | _, [], _, y, hy => by cases hy
 | p, x :: xs, h, y, hy => by
  simp only [chkW] at h
  by_cases h1 : chk1 n p (chkC x.co n) x = 0
  ·rw [if_neg (by simp [h1])] at h
   rcases List.mem_cons.1 hy with rfl | hy
   ·unfold chk1 at h1
    by_cases h2 : chkC y.co n = 0
    ·rw [if_neg (by simp [h2])] at h1
     by_cases h3 : 2 ^ n.toNat ≤ y.ms
     ·rw [if_pos h3] at h1; cases h1
     ·exact ⟨h2, by omega⟩
    ·rw [if_pos h2] at h1; exact absurd h1 h2
   ·exact chkW_mem n _ xs h y hy
  ·rw [if_pos h1] at h; exact absurd h h1
theorem docR_back {m : Nat} (hm : m < 4294967296) (h4 : 400 ≤ m) {n : Int} : ∀ (es out : List Ey) (ys : List UInt8), (∀ y ∈ es, chkC y.co n = 0 ∧ y.ms < 256 ∧ y.In) → docR m es.length true out (some (encAll encEy es ++ ys)) = (out ++ es, true, some ys)
 | [], out, ys, _ => by simp [docR_zero, encAll]
 | y :: es, out, ys, h => by
  obtain ⟨h1, h2, h3, h5⟩ := h y (List.mem_cons_self ..)
  have hM := chkC_iff.1 h1
  have hn := (isNm_len hM.nm).2
  have htx := hM.tx
  have eE : encAll encEy (y :: es) ++ ys = rowB (encCr y.co) ++ (beB y.ms 1 ++ (encAll encEy es ++ ys)) := by simp [encAll, encEy]
  obtain ⟨a1, a2⟩ := r_front (most := m) (row := encCr y.co) (by rw [encCr_len]; omega) hm (beB y.ms 1 ++ (encAll encEy es ++ ys))
  obtain ⟨b1, b2⟩ := n_front (v := y.ms) (k := 1) (by rw [e1]; exact h2) (encAll encEy es ++ ys)
  have hc := rdCr_front hm (by omega) y.co n [] hM h3 h5
  rw [List.append_nil] at hc
  rw [eE, List.length_cons, docR_some, a1, a2, b1, b2, hc]
  simp only [decide_true, Bool.and_true]
  have ey : (⟨y.co, y.ms⟩ : Ey) = y := rfl
  rw [ey, docR_back hm h4 es _ ys (fun z hz => h z (List.mem_cons_of_mem _ hz))]
  simp
theorem chkB_len {es : List Ey} {n : Int} (h : chkB es n = 0) : es.length ≤ 4 ∧ 1 ≤ n ∧ n ≤ 7 ∧ chkW n none es = 0 := by
 unfold chkB at h
 by_cases h1 : sizesE es.length n = 0
 ·rw [if_neg (by simp [h1])] at h
  unfold sizesE at h1
  by_cases h2 : n < 1 ∨ 7 < n
  ·rw [if_pos h2] at h1; cases h1
  ·rw [if_neg h2] at h1
   by_cases h3 : 4 < es.length
   ·rw [if_pos h3] at h1; cases h1
   ·exact ⟨by omega, by omega, by omega, h⟩
 ·rw [if_pos h1] at h; exact absurd h h1
theorem parseB_back {m : Nat} (hm : m < 4294967296) (h4 : 400 ≤ m) {es : List Ey} {n : Int} (h : chkB es n = 0) (hi : ∀ y ∈ es, y.In) : parseB m (encB es) n = (es, 0) := by
 obtain ⟨hl, n1, n7, hw⟩ := chkB_len h
 have hms := chkW_mem n none es hw
 have h128 : 2 ^ n.toNat ≤ 128 := by
  have : n.toNat ≤ 7 := by omega
  exact Nat.pow_le_pow_right (by decide) this
 have e65 : (256 : Nat) ^ 2 = 65536 := by decide
 obtain ⟨a1, a2⟩ := n_front (v := es.length) (k := 2) (by omega) (encAll encEy es)
 have hd := docR_back (n := n) hm h4 es [] [] (fun y hy => ⟨(hms y hy).1, by have := (hms y hy).2; omega, hi y hy⟩)
 rw [List.append_nil] at hd
 unfold parseB encB
 rw [a1, a2, hd]
 unfold finB
 simp [h]
theorem encEy_len (y : Ey) : (encEy y).length = 39 + y.co.lt.length + y.co.tx.length := by
 unfold encEy rowB
 rw [List.length_append, List.length_append, beB_length, beB_length, encCr_len]
 omega
theorem lastC_take {es : List Ey} {i : Nat} (hi : i < es.length) : lastC (es.take (i + 1)) = some (es[i]'hi).co.cl := by
 unfold lastC
 rw [List.getLast?_take]
 simp [List.getElem?_eq_getElem hi]
theorem chkW_drop (n : Int) {es : List Ey} {i : Nat} {y : Ey} (hd : es.drop i = y :: es.drop (i + 1)) (p : Option Int) : chkW n p (es.drop i) = if chk1 n p (chkC y.co n) y ≠ 0 then chk1 n p (chkC y.co n) y else chkW n (some y.co.cl) (es.drop (i + 1)) := by
 rw [hd]; rfl

end Go.Proofs.Ytheecifgbkdecaa

namespace Go.Proofs.Ytheecifgbkdecaa
open Go.RowKit

theorem Blk.whole {w : World} {g : Nat} {t : TypeId} {cs : List Value} (h : Blk w g t cs) : w.rangeAt g 0 cs := Blk.range (pre := []) (post := []) (by simpa using h)
theorem eqb_ba (a b : List UInt8) : ((ba a).toList == (ba b).toList) = (a == b) := by rw [ba_list, ba_list]
end Go.Proofs.Ytheecifgbkdecaa

namespace Go.Proofs.Ytheecifgbkdecaa
open Go.RowKit

/-- may a name have this rune? -/
def nmR (r : Int) : Bool := (decide (97 ≤ r) && decide (r ≤ 122)) || (decide (48 ≤ r) && decide (r ≤ 57)) || (r == 45)
theorem nmR_byte (x : UInt8) : nmR (x.toNat : Int) = nmB x := by
 have h : ∀ a b : Bool, (a = true ↔ b = true) → a = b := fun a b h => by cases a <;> cases b <;> simp_all
 apply h
 simp only [nmR, nmB, Bool.or_eq_true, Bool.and_eq_true, decide_eq_true_eq, beq_iff_eq]
 omega
theorem nmR_high {r : Int} (h : 128 ≤ r) : nmR r = false := by
 cases hb : nmR r
 ·rfl
 ·simp only [nmR, Bool.or_eq_true, Bool.and_eq_true, decide_eq_true_eq, beq_iff_eq] at hb
  omega
theorem nmR_yes {x : Int} (h : 97 ≤ x ∧ x ≤ 122 ∨ 48 ≤ x ∧ x ≤ 57 ∨ x = 45) : nmR x = true := by
 simp only [nmR, Bool.or_eq_true, Bool.and_eq_true, decide_eq_true_eq, beq_iff_eq]
 omega
theorem nmR_no {x : Int} (h : ¬ (97 ≤ x ∧ x ≤ 122 ∨ 48 ≤ x ∧ x ≤ 57 ∨ x = 45)) : nmR x = false := by
 cases hb : nmR x
 ·rfl
 ·simp only [nmR, Bool.or_eq_true, Bool.and_eq_true, decide_eq_true_eq, beq_iff_eq] at hb
  omega

set_option maxHeartbeats 1000000 in
theorem isofname_any (r : Int) (w : World) : Calls Try.prog 117 #[.int .i32 r] w fun e w' => e = .returned (.bool (nmR r)) ∧ w' = w := by
 by_cases hy : 97 ≤ r ∧ r ≤ 122 ∨ 48 ≤ r ∧ r ≤ 57 ∨ r = 45
 ·rw [nmR_yes hy]
  rcases hy with ⟨h, h'⟩ | ⟨h, h'⟩ | h
  all_goals
   go_enter Try.func117, Try.ntmps117
   go_wp2
   go_ret
   exact ⟨rfl, rfl⟩
 ·rw [nmR_no hy]
  have hcases : r < 45 ∨ (45 < r ∧ r < 48) ∨ (57 < r ∧ r < 97) ∨ 122 < r := by omega
  have hne : (r == 45) = false := by simp; omega
  clear hy
  rcases hcases with h | ⟨h, h'⟩ | ⟨h, h'⟩ | h
  ·go_enter Try.func117, Try.ntmps117
   go_wp2
   go_ret
   exact ⟨rfl, rfl⟩
  ·go_enter Try.func117, Try.ntmps117
   go_wp2
   go_ret
   exact ⟨rfl, rfl⟩
  ·have b57 : decide (r ≤ 57) = false := by simp; omega
   go_enter Try.func117, Try.ntmps117
   go_wp2
   go_ret
   exact ⟨rfl, rfl⟩
  ·have b57 : decide (r ≤ 57) = false := by simp; omega
   have b122 : decide (r ≤ 122) = false := by simp; omega
   go_enter Try.func117, Try.ntmps117
   go_wp2
   go_ret
   exact ⟨rfl, rfl⟩

set_option maxHeartbeats 4000000 in
set_option maxRecDepth 100000 in
theorem isname_any (t : List UInt8) (w : World) (hl : t.length ≤ 140737488355328) : Calls Try.prog 115 #[.string (ba t)] w fun e w' => e = .returned (.bool (isNm t)) ∧ Below w.heap.size w w' := by
 have hsz := ba_size
 obtain ⟨bb, hbb⟩ : ∃ bb, isNm t = bb := ⟨_, rfl⟩
 rw [hbb]
 have HBB := Lib.hid hbb
 clear hbb
 by_cases h1 : t.length < 1
 ·go_enter Try.func115, Try.ntmps115
  go_wp2
  go_ret
  exact ⟨ret_b (by rw [← HBB.out, isNm_eq]; simp; omega), Below.refl _ _⟩
 by_cases h16 : 16 < t.length
 ·go_enter Try.func115, Try.ntmps115
  go_wp2
  go_ret
  exact ⟨ret_b (by rw [← HBB.out, isNm_eq]; simp; omega), Below.refl _ _⟩
 have hd1 : decide ((t.length : Int) < 1) = false := by simp; omega
 have hd2 : decide ((16 : Int) < t.length) = false := by simp; omega
 have H1 := Lib.hid h1
 have H16 := Lib.hid h16
 clear h1 h16
 go_enter Try.func115, Try.ntmps115
 go_wp2
 go_loopw [4] (fun ev wr => ∃ pos : Nat, pos ≤ t.length ∧ wr.heap[w.heap.size]? = some (.stringIter (ba t) pos) ∧ Below w.heap.size w wr ∧ (t.take pos).all nmB = true ∧ ∃ ev', ev' = ev) (fun _ wr => t.length - wr.iterPos w.heap.size)
 case atStart => exact ⟨0, Nat.zero_le _, World.iter_heap w (ba t) 0, (Below.refl _ w).alloc (Nat.le_refl _) _, rfl, _, rfl⟩
 case round =>
  obtain ⟨pos, hp, hit, hx, hs, ev', rfl⟩ := hrel
  have HX := Lib.hid hx
  have HS := Lib.hid hs
  have hmeas : wr.iterPos w.heap.size = pos := by simp only [World.iterPos, hit]
  clear hx hs
  by_cases hlt : pos < t.length
  ·have hpz : pos < (ba t).size := by rw [ba_size]; exact hlt
   obtain ⟨x, hxx⟩ : ∃ x, t[pos]? = some x := ⟨_, List.getElem?_eq_getElem hlt⟩
   have hxe : (ba t)[pos]'hpz = x := by rw [ba_get]; exact (List.getElem?_eq_some_iff.1 hxx).2
   have hal : (t.take (pos + 1)).all nmB = nmB x := by
    rw [List.take_add_one, hxx]
    simp [HS.out]
   have hall : nmB x = false → t.all nmB = false := fun h => by
    rw [← List.take_append_drop (pos + 1) t, List.all_append, hal, h]
    rfl
   cases hq : nmB x with
   | true =>
    have ha : ((ba t)[pos]'hpz).toNat < 128 := by
     rw [hxe]
     have h9 := nmR_byte x
     rw [hq] at h9
     by_cases h8 : x.toNat < 128
     ·exact h8
     ·rw [nmR_high (by omega)] at h9; cases h9
    have hnx : ∀ ty, (Instr.next (.pointer (some ⟨w.heap.size, 0, none⟩)) true ty).run Try.prog wr = .ok (.tuple #[.bool true, .int .i64 (pos : Int), .int .i32 (x.toNat : Int)]) (wr.iterAt w.heap.size (ba t) (pos + 1)) := fun ty => by
     rw [← hxe]
     exact Lib.run_next_ascii_at wr w.heap.size (ba t) pos ty hit hpz ha
    have hk := fun W => isofname_any (x.toNat : Int) W
    rw [nmR_byte x, hq] at hk
    have HKd := Lib.hid hk
    have hit2 := Lib.iterAt_heap wr w.heap.size (ba t) pos (pos + 1) hit
    have hx2 := Lib.below_iterAt HX.out (Nat.le_refl _) (ba t) (pos + 1)
    have HSp := Lib.hid (hal.trans hq)
    generalize wr.iterAt w.heap.size (ba t) (pos + 1) = w2 at *
    have HI2 := Lib.hid hit2
    have HX2 := Lib.hid hx2
    clear hk hq hal hall hxe hxx hit2 hx2 ha
    go_wp2_with (go_at_call 117; (with_reducible refine (HKd.out _).mono ?_); rintro e w3 ⟨rfl, rfl⟩)
    go_roundw
    case rel => exact ⟨pos + 1, by omega, HI2.out, HX2.out, HSp.out, _, rfl⟩
    case measure => rw [hmeas]; have h9 := HI2.out; simp only [World.iterPos, h9]; omega
   | false =>
    have HN := Lib.hid (hall hq)
    obtain ⟨r, wd, hnx, hrk⟩ : ∃ (r : Int) (wd : Nat), (∀ ty, (Instr.next (.pointer (some ⟨w.heap.size, 0, none⟩)) true ty).run Try.prog wr = .ok (.tuple #[.bool true, .int .i64 (pos : Int), .int .i32 r]) (wr.iterAt w.heap.size (ba t) wd)) ∧ nmR r = false := by
     by_cases ha : ((ba t)[pos]'hpz).toNat < 128
     ·refine ⟨x.toNat, pos + 1, fun ty => ?_, ?_⟩
      ·rw [← hxe]
       exact Lib.run_next_ascii_at wr w.heap.size (ba t) pos ty hit hpz ha
      ·rw [nmR_byte x, hq]
     ·refine ⟨(Utf8.decode (ba t) pos).1, _, fun ty => Lib.run_next_any_at wr w.heap.size (ba t) pos ty hit hpz, ?_⟩
      have hd := (decode_high (ba t) pos hpz (by omega)).1
      exact nmR_high (by omega)
    have hk := fun W => isofname_any r W
    rw [hrk] at hk
    have HKd := Lib.hid hk
    have hx2 := Lib.below_iterAt HX.out (Nat.le_refl _) (ba t) wd
    generalize wr.iterAt w.heap.size (ba t) wd = w2 at *
    have HX2 := Lib.hid hx2
    clear hk hrk hq hal hall hxe hxx hx2 hit hmeas
    go_wp2_with (go_at_call 117; (with_reducible refine (HKd.out _).mono ?_); rintro e w3 ⟨rfl, rfl⟩)
    go_ret
    exact ⟨ret_b (by rw [← HBB.out, isNm_eq, HN.out]; rfl), HX2.out⟩
  ·have hpe : pos = t.length := by omega
   have hs := HS.out
   rw [hpe, List.take_length] at hs
   have HA := Lib.hid hs
   subst hpe
   have hnx : ∀ ty, (Instr.next (.pointer (some ⟨w.heap.size, 0, none⟩)) true ty).run Try.prog wr = .ok (.tuple #[.bool false]) wr := fun ty => Lib.run_next_end_at wr w.heap.size (ba t) _ ty hit (by rw [ba_size]; omega)
   clear hs hmeas
   go_wp2
   go_ret
   exact ⟨ret_b (by rw [← HBB.out, isNm_eq, HA.out]; have := H1.out; have := H16.out; simp; omega), HX.out⟩


end Go.Proofs.Ytheecifgbkdecaa
