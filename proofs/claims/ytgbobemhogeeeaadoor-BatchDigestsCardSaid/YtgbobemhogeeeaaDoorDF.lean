/-
  Joined: BaP, BaM, BaC, BaK, BaD.
-/
import Derived.Test.YtgbobemhogeeeaaDoorDC
import Derived.BigQuiet
import Derived.WalkSpells
import Derived.Deep.QuietTactic
import Derived.Test.YtgbobemhogeeeaaDoorDD
import Derived.Deep.RegionHeld
namespace Go.Proofs.YtgbobemhogeeeaaDoor

section
open Go.RowKit
/-- an entry: its core, and who stands behind it -/
structure Ey where
  co : Cr
  ms : Nat
def Ey.eqb (x y : Ey) : Bool := x.co.eqb y.co && (x.ms == y.ms)
theorem Ey.eqb_iff {x y : Ey} : x.eqb y = true ↔ x = y := by
  obtain ⟨x1, x2⟩ := x
  obtain ⟨y1, y2⟩ := y
  simp only [Ey.eqb, Bool.and_eq_true, Cr.eqb_iff, beq_iff_eq, Ey.mk.injEq]
/-- the same batch? -/
def sameB (a b : List Ey) : Bool := allB Ey.eqb a b
theorem sameB_iff {a b : List Ey} : sameB a b = true ↔ a = b := allB_iff (p := Ey.eqb) (fun _ _ => Ey.eqb_iff)
theorem sameB_self (a : List Ey) : sameB a a = true := sameB_iff.2 rfl
/-- the client of the last of these -/
def lastC (l : List Ey) : Option Int := l.getLast?.map (·.co.cl)
/-- what an entry behind that client comes to, whose core has that error -/
def chk1 (n : Int) (p : Option Int) (e : Int) (y : Ey) : Int :=
  if e ≠ 0 then e else if 2 ^ n.toNat ≤ y.ms then 5 else match p with
    | none => 0
    | some c => if y.co.cl ≤ c then 15 else 0
def chkW (n : Int) : Option Int → List Ey → Int
  | _, [] => 0
  | p, y :: ys => if chk1 n p (chkC y.co n) y ≠ 0 then chk1 n p (chkC y.co n) y else chkW n (some y.co.cl) ys
def sizesE (many : Nat) (n : Int) : Int := if n < 1 ∨ 7 < n then 1 else if 4 < many then 4 else 0
/-- may a batch be, of n? -/
def chkB (es : List Ey) (n : Int) : Int := if sizesE es.length n ≠ 0 then sizesE es.length n else chkW n none es
def encEy (y : Ey) : List UInt8 := rowB (encCr y.co) ++ beB y.ms 1
/-- a batch's bytes -/
def encB (es : List Ey) : List UInt8 := beB es.length 2 ++ encAll encEy es

theorem chkW_snoc (n : Int) (y : Ey) : ∀ (p : Option Int) (l : List Ey), chkW n p (l ++ [y]) = if chkW n p l ≠ 0 then chkW n p l else chk1 n (match lastC l with | some c => some c | none => p) (chkC y.co n) y
  | p, [] => by
    show (if chk1 n p (chkC y.co n) y ≠ 0 then chk1 n p (chkC y.co n) y else 0) = _
    rw [if_neg (show ¬ (chkW n p [] ≠ 0) from fun h => h rfl)]
    show _ = chk1 n p (chkC y.co n) y
    by_cases h : chk1 n p (chkC y.co n) y = 0
    · rw [h]; rfl
    · rw [if_pos h]
  | p, x :: l => by
    have hl : (match lastC (x :: l) with | some c => some c | none => p) = (match lastC l with | some c => some c | none => some x.co.cl) := by
      cases l with
      | nil => rfl
      | cons z l => unfold lastC; rw [List.getLast?_cons_cons]; cases hz : (z :: l).getLast? with
        | none => simp at hz
        | some v => rfl
    rw [hl, List.cons_append]
    simp only [chkW]
    by_cases h : chk1 n p (chkC x.co n) x = 0
    · simp only [h, ne_eq, not_true_eq_false, if_false]
      exact chkW_snoc n y (some x.co.cl) l
    · simp only [h, ne_eq, not_false_eq_true, if_true]
/-- what is read the document's way: so many, as long as nothing failed; are the cores of form? -/
def docR (m : Nat) : Nat → Bool → List Ey → Option (List UInt8) → List Ey × Bool × Option (List UInt8)
  | 0, b, out, st => (out, b, st)
  | _ + 1, b, out, none => (out, b, none)
  | k + 1, b, out, some xs => docR m k (b && decide ((rdCr m (some (rval m (some xs)))).2 = some [])) (out ++ [⟨(rdCr m (some (rval m (some xs)))).1, nval 1 (rnext m (some xs))⟩]) (nnext 1 (rnext m (some xs)))
def finB (r : List Ey × Bool × Option (List UInt8)) (n : Int) : List Ey × Int :=
  if r.2.2 = some [] ∧ r.2.1 = true then (if chkB r.1 n = 0 then (r.1, 0) else ([], chkB r.1 n)) else ([], 2)
/-- which batch bytes tell, or why none -/
def parseB (m : Nat) (xs : List UInt8) (n : Int) : List Ey × Int := finB (docR m (nval 2 (some xs)) true [] (nnext 2 (some xs))) n
/-- what is read the program's way -/
def prgR (M : Nat) (n : Int) : Nat → Int → List Ey → Option (List UInt8) → List Ey × Int
  | 0, e, l, st => if st = some [] then (if e = 0 then (l, 0) else ([], e)) else ([], 2)
  | k + 1, e, l, st =>
    if (parseCr (rval M st).length (rval M st) n).2 = 2 then ([], 2)
    else if e = 0 then prgR M n k (chk1 n (lastC l) (parseCr (rval M st).length (rval M st) n).2 ⟨(parseCr (rval M st).length (rval M st) n).1, nval 1 (rnext M st)⟩) (l ++ [⟨(parseCr (rval M st).length (rval M st) n).1, nval 1 (rnext M st)⟩]) (nnext 1 (rnext M st))
    else prgR M n k e l (nnext 1 (rnext M st))
def parseG (xs : List UInt8) (n : Int) : List Ey × Int := prgR xs.length n (nval 2 (some xs)) (sizesE (nval 2 (some xs)) n) [] (nnext 2 (some xs))
theorem docR_zero (m : Nat) (b : Bool) (out : List Ey) (st : Option (List UInt8)) : docR m 0 b out st = (out, b, st) := rfl
theorem docR_none (m k : Nat) (b : Bool) (out : List Ey) : docR m k b out none = (out, b, none) := by cases k <;> rfl
theorem docR_some (m k : Nat) (b : Bool) (out : List Ey) (xs : List UInt8) : docR m (k + 1) b out (some xs) = docR m k (b && decide ((rdCr m (some (rval m (some xs)))).2 = some [])) (out ++ [⟨(rdCr m (some (rval m (some xs)))).1, nval 1 (rnext m (some xs))⟩]) (nnext 1 (rnext m (some xs))) := rfl
theorem docR_false (m : Nat) : ∀ (k : Nat) (out : List Ey) (st : Option (List UInt8)), (docR m k false out st).2.1 = false
  | 0, _, _ => rfl
  | _ + 1, _, none => rfl
  | k + 1, out, some xs => by rw [docR_some, Bool.false_and]; exact docR_false m k _ _
theorem finB_false {r : List Ey × Bool × Option (List UInt8)} (n : Int) (h : r.2.1 = false) : finB r n = ([], 2) := by
  unfold finB
  rw [if_neg (fun h9 => by rw [h] at h9; exact absurd h9.2 (by decide))]
theorem chkC_ne (c : Cr) (n : Int) : chkC c n ≠ 2 := by
  unfold chkC
  repeat' split
  all_goals decide
theorem chk1_bad {n : Int} {p : Option Int} {e : Int} (h : e ≠ 0) (x y : Ey) : chk1 n p e x = chk1 n p e y := by
  unfold chk1
  rw [if_pos h, if_pos h]
theorem prgR_docR (M m many : Nat) (n : Int) : ∀ (k : Nat) (e : Int) (l out : List Ey) (st : Option (List UInt8)), stL st ≤ M → stL st ≤ m → out.length + k = many →
    e = (if sizesE many n ≠ 0 then sizesE many n else chkW n none out) → (e = 0 → l = out) → prgR M n k e l st = finB (docR m k true out st) n
  | 0, e, l, out, st, _, _, hk, he, hl => by
    have hb : chkB out n = e := by unfold chkB; rw [show out.length = many by omega, he]
    rw [docR_zero]
    unfold finB prgR
    simp only [and_true]
    rw [hb]
    by_cases h1 : st = some []
    · rw [if_pos h1, if_pos h1]
      by_cases h2 : e = 0
      · rw [if_pos h2, if_pos h2, hl h2]
      · rw [if_neg h2, if_neg h2]
    · rw [if_neg h1, if_neg h1]
  | k + 1, e, l, out, none, _, _, _, _, _ => by
    rw [docR_none]
    unfold finB prgR
    simp only
    have h1 : rval M none = [] := by unfold rval; split <;> rfl
    have h2 : (parseCr (rval M none).length (rval M none) n).2 = 2 := by
      rw [h1, parseCr_fail]
      decide
    rw [if_pos h2, if_neg (fun h9 => by cases h9.1)]
  | k + 1, e, l, out, some xs, hM, hm, hk, he, hl => by
    obtain ⟨a1, a2⟩ := row_free (m := M) (m' := m) (st := some xs) hM hm
    have hrow := rval_stL m (some xs)
    have hp := parseCr_free (m := (rval m (some xs)).length) (m' := m) (xs := rval m (some xs)) n (Nat.le_refl _) (by omega)
    have hn1 : stL (nnext 1 (rnext m (some xs))) ≤ stL (some xs) := Nat.le_trans (nnext_stL _ _) (rnext_stL _ _)
    rw [docR_some, Bool.true_and]
    unfold prgR
    rw [a1, a2, hp]
    generalize nnext 1 (rnext m (some xs)) = st2 at *
    generalize nval 1 (rnext m (some xs)) = ms
    generalize rval m (some xs) = row at *
    by_cases hok : (rdCr m (some row)).2 = some []
    case neg =>
      rw [parseCr_fail hok, if_pos rfl, decide_eq_false hok]
      exact (finB_false n (docR_false m _ _ _)).symm
    rw [decide_eq_true hok]
    have hpc : parseCr m row n = if chkC (rdCr m (some row)).1 n = 0 then ((rdCr m (some row)).1, 0) else (Cr.no, chkC (rdCr m (some row)).1 n) := by unfold parseCr; rw [if_pos hok]
    generalize (rdCr m (some row)).1 = c at *
    have h2 : (parseCr m row n).2 = chkC c n := by
      rw [hpc]
      split
      · rename_i h9; exact h9.symm
      · rfl
    have h1 : chkC c n = 0 → (parseCr m row n).1 = c := fun h9 => by rw [hpc, if_pos h9]
    generalize parseCr m row n = p at *
    rw [h2, if_neg (chkC_ne c n)]
    have hz := chkW_snoc n ⟨c, ms⟩ none out
    have hlast : (match lastC out with | some c => some c | none => none) = lastC out := by cases lastC out <;> rfl
    rw [hlast] at hz
    by_cases he0 : e = 0
    · rw [if_pos he0]
      obtain rfl := hl he0
      have hs0 : sizesE many n = 0 := by
        by_cases h9 : sizesE many n = 0
        · exact h9
        · rw [if_pos h9] at he; omega
      rw [hs0, if_neg (by simp)] at he
      have e1 : chk1 n (lastC l) (chkC c n) ⟨p.1, ms⟩ = chk1 n (lastC l) (chkC c n) ⟨c, ms⟩ := by
        by_cases h9 : chkC c n = 0
        · rw [h1 h9]
        · exact chk1_bad h9 _ _
      rw [e1]
      refine prgR_docR M m many n k _ _ _ _ (by omega) (by omega) (by simp; omega) ?_ ?_
      · rw [hs0, if_neg (by simp), hz, if_neg (by rw [← he]; simp [he0])]
      · intro h9
        have h8 : chkC c n = 0 := by
          unfold chk1 at h9
          by_cases h7 : chkC c n = 0
          · exact h7
          · rw [if_pos h7] at h9; exact h9
        rw [h1 h8]
    · rw [if_neg he0]
      refine prgR_docR M m many n k _ _ _ _ (by omega) (by omega) (by simp; omega) ?_ (fun h9 => absurd h9 he0)
      rw [hz]
      by_cases hs : sizesE many n = 0
      · rw [hs, if_neg (by simp)] at he ⊢
        rw [← he, if_pos he0]
      · rw [if_pos hs] at he ⊢
        exact he
theorem parseG_eq {m : Nat} {xs : List UInt8} (n : Int) (h : xs.length ≤ m) : parseG xs n = parseB m xs n := by
  have hs := nnext_stL 2 (some xs)
  have hl : stL (some xs) = xs.length := rfl
  show prgR xs.length n (nval 2 (some xs)) (sizesE (nval 2 (some xs)) n) [] (nnext 2 (some xs)) = finB (docR m (nval 2 (some xs)) true [] (nnext 2 (some xs))) n
  refine prgR_docR xs.length m (nval 2 (some xs)) n _ _ _ _ _ (by omega) (by omega) (by simp) ?_ (fun _ => rfl)
  by_cases h9 : sizesE (nval 2 (some xs)) n = 0
  · rw [h9]; rfl
  · rw [if_pos h9]

/-- the numbers of a core lie in their types -/
def Ey.In (y : Ey) : Prop := (-9223372036854775808 ≤ y.co.a ∧ y.co.a ≤ 9223372036854775807) ∧ (-9223372036854775808 ≤ y.co.b ∧ y.co.b ≤ 9223372036854775807)
theorem chkW_mem (n : Int) : ∀ (p : Option Int) (es : List Ey), chkW n p es = 0 → ∀ y ∈ es, chkC y.co n = 0 ∧ y.ms < 2 ^ n.toNat
  | _, [], _, y, hy => by cases hy
  | p, x :: xs, h, y, hy => by
    simp only [chkW] at h
    by_cases h1 : chk1 n p (chkC x.co n) x = 0
    · rw [if_neg (by simp [h1])] at h
      rcases List.mem_cons.1 hy with rfl | hy
      · unfold chk1 at h1
        by_cases h2 : chkC y.co n = 0
        · rw [if_neg (by simp [h2])] at h1
          by_cases h3 : 2 ^ n.toNat ≤ y.ms
          · rw [if_pos h3] at h1; cases h1
          · exact ⟨h2, by omega⟩
        · rw [if_pos h2] at h1; exact absurd h1 h2
      · exact chkW_mem n _ xs h y hy
    · rw [if_pos h1] at h; exact absurd h h1
theorem docR_back {m : Nat} (hm : m < 4294967296) (h4 : 400 ≤ m) {n : Int} : ∀ (es out : List Ey) (ys : List UInt8), (∀ y ∈ es, chkC y.co n = 0 ∧ y.ms < 256 ∧ y.In) → docR m es.length true out (some (encAll encEy es ++ ys)) = (out ++ es, true, some ys)
  | [], out, ys, _ => by simp [docR_zero, encAll]
  | y :: es, out, ys, h => by
    obtain ⟨h1, h2, h3, h5⟩ := h y (List.mem_cons_self ..)
    have hM := chkC_iff.1 h1
    have hn := (isNm_len hM.nm).2
    have htx := hM.tx
    have eE : encAll encEy (y :: es) ++ ys = rowB (encCr y.co) ++ (beB y.ms 1 ++ (encAll encEy es ++ ys)) := by simp [encAll, encEy]
    obtain ⟨a1, a2⟩ := r_front (most := m) (row := encCr y.co) (by rw [encCr_len]; omega) hm (beB y.ms 1 ++ (encAll encEy es ++ ys))
    obtain ⟨b1, b2⟩ := n_front (v := y.ms) (k := 1) (by rw [e1]; exact h2) (encAll encEy es ++ ys)
    have hc := rdCr_front hm (by omega) y.co n [] hM h3 h5
    rw [List.append_nil] at hc
    rw [eE, List.length_cons, docR_some, a1, a2, b1, b2, hc]
    simp only [decide_true, Bool.and_true]
    have ey : (⟨y.co, y.ms⟩ : Ey) = y := rfl
    rw [ey, docR_back hm h4 es _ ys (fun z hz => h z (List.mem_cons_of_mem _ hz))]
    simp
theorem chkB_len {es : List Ey} {n : Int} (h : chkB es n = 0) : es.length ≤ 4 ∧ 1 ≤ n ∧ n ≤ 7 ∧ chkW n none es = 0 := by
  unfold chkB at h
  by_cases h1 : sizesE es.length n = 0
  · rw [if_neg (by simp [h1])] at h
    unfold sizesE at h1
    by_cases h2 : n < 1 ∨ 7 < n
    · rw [if_pos h2] at h1; cases h1
    · rw [if_neg h2] at h1
      by_cases h3 : 4 < es.length
      · rw [if_pos h3] at h1; cases h1
      · exact ⟨by omega, by omega, by omega, h⟩
  · rw [if_pos h1] at h; exact absurd h h1
theorem parseB_back {m : Nat} (hm : m < 4294967296) (h4 : 400 ≤ m) {es : List Ey} {n : Int} (h : chkB es n = 0) (hi : ∀ y ∈ es, y.In) : parseB m (encB es) n = (es, 0) := by
  obtain ⟨hl, n1, n7, hw⟩ := chkB_len h
  have hms := chkW_mem n none es hw
  have h128 : 2 ^ n.toNat ≤ 128 := by
    have : n.toNat ≤ 7 := by omega
    exact Nat.pow_le_pow_right (by decide) this
  have e65 : (256 : Nat) ^ 2 = 65536 := by decide
  obtain ⟨a1, a2⟩ := n_front (v := es.length) (k := 2) (by omega) (encAll encEy es)
  have hd := docR_back (n := n) hm h4 es [] [] (fun y hy => ⟨(hms y hy).1, by have := (hms y hy).2; omega, hi y hy⟩)
  rw [List.append_nil] at hd
  unfold parseB encB
  rw [a1, a2, hd]
  unfold finB
  simp [h]
theorem encB_inj {es es' : List Ey} {n : Int} (h : chkB es n = 0) (h' : chkB es' n = 0) (hi : ∀ y ∈ es, y.In) (hi' : ∀ y ∈ es', y.In) (he : encB es = encB es') : es = es' := by
  have h1 := parseB_back (m := 1048576) (by omega) (by omega) h hi
  have h2 := parseB_back (m := 1048576) (by omega) (by omega) h' hi'
  rw [he, h2] at h1
  exact (congrArg Prod.fst h1).symm
theorem encEy_len (y : Ey) : (encEy y).length = 39 + y.co.lt.length + y.co.tx.length := by
  unfold encEy rowB
  rw [List.length_append, List.length_append, beB_length, beB_length, encCr_len]
  omega
theorem lastC_take {es : List Ey} {i : Nat} (hi : i < es.length) : lastC (es.take (i + 1)) = some (es[i]'hi).co.cl := by
  unfold lastC
  rw [List.getLast?_take]
  simp [List.getElem?_eq_getElem hi]
theorem chkW_drop (n : Int) {es : List Ey} {i : Nat} {y : Ey} (hd : es.drop i = y :: es.drop (i + 1)) (p : Option Int) : chkW n p (es.drop i) = if chk1 n p (chkC y.co n) y ≠ 0 then chk1 n p (chkC y.co n) y else chkW n (some y.co.cl) (es.drop (i + 1)) := by
  rw [hd]; rfl
end

section
open Go.RowKit
def Ey.cells (y : Ey) : List Value := [.int .i64 y.co.cl, .int .i64 y.co.sp, .int .i64 y.co.op, .string (ba y.co.lt), .int .i64 y.co.a, .int .i64 y.co.b, .string (ba y.co.tx), .int .u32 (y.ms : Int)]
theorem Tryd.el_ey : El Tryd.prog 22 43 8 80 (.agg #[.int .i64 0, .int .i64 0, .int .i64 0, .string ⟨#[]⟩, .int .i64 0, .int .i64 0, .string ⟨#[]⟩, .int .u32 0]) := ⟨Tryd.underlying22, by kernel_rfl, rfl, by omega, by omega, by omega⟩
theorem Tryd.ix_ey (W : World) (g o n c j : Nat) (hj : j < n) : (Instr.indexAt 22 (.slice (some ⟨g, o, none⟩) n c) (.int .i64 (j : Int))).run Tryd.prog W = .ok (.pointer (some ⟨g, o + j * 8, none⟩)) W := Tryd.el_ey.index (by kernel_rfl) W g o n c j hj
theorem Blk.front {w : World} {g : Nat} {t : TypeId} {cs post : List Value} (h : Blk w g t (cs ++ post)) : w.rangeAt g 0 cs := Blk.range (pre := []) (post := post) (by simpa using h)
/-- Entries, as they lie in memory. -/
def EysIn (w : World) (E : Option Addr) (k : Nat) (es : List Ey) : Prop := Sl w 8 E k (es.map Ey.cells) ∧ ∀ y ∈ es, y.ms < 4294967296
section
variable {w w' : World} {E : Option Addr} {k : Nat} {es : List Ey}
theorem EysIn.through (h : EysIn w E k es) (hb : Below w.heap.size w w') : EysIn w' E k es := ⟨h.1.through hb, h.2⟩
theorem EysIn.alloc (h : EysIn w E k es) (o : Obj) : EysIn (w.alloc o) E k es := ⟨h.1.alloc o, h.2⟩
theorem EysIn.drewN (h : EysIn w E k es) (m : Nat) : EysIn (w.drewN m) E k es := h
theorem EysIn.none_ : EysIn w none 0 [] := ⟨Sl.none_, fun _ h => nomatch h⟩
theorem EysIn.len (h : EysIn w E k es) : es.length = k := by simpa using h.1.len
theorem EysIn.at (h : EysIn w E k es) {i : Nat} (hi : i < k) : ∃ g o y, E = some ⟨g, o, none⟩ ∧ es[i]? = some y ∧ y ∈ es ∧ es.drop i = y :: es.drop (i + 1) ∧ w.rangeAt g (o + i * 8) y.cells := by
  obtain ⟨g, o, cs, e, h1, _, _, h4⟩ := h.1.at hi
  have hl : i < es.length := by rw [h.len]; exact hi
  rw [List.getElem?_map, List.getElem?_eq_getElem hl] at h1
  simp only [Option.map_some, Option.some.injEq] at h1
  subst h1
  exact ⟨g, o, es[i], e, List.getElem?_eq_getElem hl, List.getElem_mem hl, List.drop_eq_getElem_cons hl, h4⟩
theorem EysIn.range {g o : Nat} (h : EysIn w (some ⟨g, o, none⟩) k es) {j : Nat} {y : Ey} (hy : es[j]? = some y) : w.rangeAt g (o + j * 8) y.cells := by
  have hj : j < k := by
    have h1 := (List.getElem?_eq_some_iff.1 hy).1
    have h2 := h.len
    omega
  obtain ⟨g', o', y', e, h1, _, _, h2⟩ := h.at hj
  simp only [Option.some.injEq, Addr.mk.injEq] at e
  obtain ⟨rfl, rfl, _⟩ := e
  rw [hy] at h1
  obtain rfl := Option.some.inj h1
  exact h2
theorem EysIn.take (h : EysIn w E k es) {i : Nat} (hi : i ≤ k) : EysIn w E i (es.take i) := by
  refine ⟨⟨by simp [h.len, hi], fun h0 => ?_⟩, fun y hy => h.2 y (List.mem_of_mem_take hy)⟩
  obtain ⟨g, o, e, hc⟩ := h.1.2 (by omega)
  refine ⟨g, o, e, fun j cs hj => hc j cs ?_⟩
  rw [List.map_take, List.getElem?_take] at hj
  split at hj
  · exact hj
  · cases hj
end
/-- Entries that a call makes: its memory from B on. -/
def OEy (w : World) (B : Nat) (v : Value) (es : List Ey) : Prop := Os w B 43 8 v (es.map Ey.cells) ∧ ∀ y ∈ es, y.ms < 4294967296
theorem OEy.nil (w : World) (B : Nat) : OEy w B (.slice none 0 0) [] := ⟨Os.nil w B 43 8, fun _ h => nomatch h⟩
theorem OEy.out {w : World} {B : Nat} {v : Value} {es : List Ey} (h : OEy w B v es) : ∃ A n c, v = .slice A n c ∧ n ≤ c ∧ c ≤ maxLen ∧ EysIn w A n es ∧ ∀ a, A = some a → B ≤ a.block ∧ a.block < w.heap.size := by
  obtain ⟨A, c, rfl, h1, h2, h3⟩ := h.1.out
  refine ⟨A, _, c, rfl, h1, h2, ⟨h3, h.2⟩, fun a ha => ?_⟩
  subst ha
  exact h.1.lt a.block rfl
theorem Ey.one (y : Ey) : ∀ u ∈ y.cells, u.oneCell' = true := fun u hu => by
  simp [Ey.cells] at hu
  rcases hu with rfl | rfl | rfl | rfl | rfl | rfl | rfl | rfl <;> rfl
theorem OEy.snoc {w : World} {B : Nat} {v : Value} {es : List Ey} {y : Ey} (h : Os w B 43 8 v (es.map Ey.cells ++ [y.cells])) (hm : ∀ z ∈ es, z.ms < 4294967296) (hy : y.ms < 4294967296) : OEy w B v (es ++ [y]) :=
  ⟨by simpa using h, fun z hz => (List.mem_append.1 hz).elim (hm z) fun h9 => by rw [List.mem_singleton.1 h9]; exact hy⟩
theorem ey_beq (x y : Ey) : ((x.ms : Int) == (y.ms : Int)) = (x.ms == y.ms) := by
  by_cases h : x.ms = y.ms
  · simp [h]
  · have h2 : ¬ (x.ms : Int) = (y.ms : Int) := by omega
    rw [beq_eq_false_iff_ne.2 h, beq_eq_false_iff_ne.2 h2]
set_option maxHeartbeats 4000000 in
theorem eq_ey (x y : Ey) (w : World) : (binOp .eql 43 (.agg #[.int .i64 x.co.cl, .int .i64 x.co.sp, .int .i64 x.co.op, .string (ba x.co.lt), .int .i64 x.co.a, .int .i64 x.co.b, .string (ba x.co.tx), .int .u32 (x.ms : Int)]) (.agg #[.int .i64 y.co.cl, .int .i64 y.co.sp, .int .i64 y.co.op, .string (ba y.co.lt), .int .i64 y.co.a, .int .i64 y.co.b, .string (ba y.co.tx), .int .u32 (y.ms : Int)])).run Tryd.prog w = .ok (.bool (x.eqb y)) w := by
  unfold Ey.eqb Cr.eqb
  have hm := ey_beq x y
  cases h0 : (x.co.cl == y.co.cl) with
  | false => simp [go_sem, eqb_ba, h0]
  | true =>
    cases h1 : (x.co.sp == y.co.sp) with
    | false => simp [go_sem, eqb_ba, h0, h1]
    | true =>
      cases h2 : (x.co.op == y.co.op) with
      | false => simp [go_sem, eqb_ba, h0, h1, h2]
      | true =>
        cases h3 : (x.co.lt == y.co.lt) with
        | false => simp [go_sem, eqb_ba, h0, h1, h2, h3]
        | true =>
          cases h4 : (x.co.a == y.co.a) with
          | false => simp [go_sem, eqb_ba, h0, h1, h2, h3, h4]
          | true =>
            cases h5 : (x.co.b == y.co.b) with
            | false => simp [go_sem, eqb_ba, h0, h1, h2, h3, h4, h5]
            | true =>
              cases h6 : (x.co.tx == y.co.tx) with
              | false => simp [go_sem, eqb_ba, h0, h1, h2, h3, h4, h5, h6]
              | true =>
                rw [← hm]
                cases h7 : ((x.ms : Int) == (y.ms : Int)) <;> simp at h7 <;> simp [go_sem, eqb_ba, h0, h1, h2, h3, h4, h5, h6, h7]
theorem neq_ey (x y : Ey) (w : World) : (binOp .neq 43 (.agg #[.int .i64 x.co.cl, .int .i64 x.co.sp, .int .i64 x.co.op, .string (ba x.co.lt), .int .i64 x.co.a, .int .i64 x.co.b, .string (ba x.co.tx), .int .u32 (x.ms : Int)]) (.agg #[.int .i64 y.co.cl, .int .i64 y.co.sp, .int .i64 y.co.op, .string (ba y.co.lt), .int .i64 y.co.a, .int .i64 y.co.b, .string (ba y.co.tx), .int .u32 (y.ms : Int)])).run Tryd.prog w = .ok (.bool (!(x.eqb y))) w := arr_neq (fun w => eq_ey x y w) w
end

section
open Go.RowKit
set_option maxHeartbeats 1000000 in
theorem checksizes_any (many : Nat) (n : Int) (w : World) : Calls Tryd.prog 28 #[.int .i64 (many : Int), .int .i64 n] w fun e w' => e = .returned (.int .i64 (sizesE many n)) ∧ w' = w := by
  by_cases h1 : n < 1
  · have d1 : decide (n < 1) = true := by simpa using h1
    have HV : Hid (sizesE many n = 1) := Lib.hid (by unfold sizesE; rw [if_pos (.inl h1)])
    go_enter Tryd.func28, Tryd.ntmps28
    go_wp2
    go_ret
    exact ⟨ret_i HV.out.symm, rfl⟩
  have d1 : decide (n < 1) = false := by simpa using h1
  by_cases h2 : 7 < n
  · have d2 : decide (7 < n) = true := by simpa using h2
    have HV : Hid (sizesE many n = 1) := Lib.hid (by unfold sizesE; rw [if_pos (.inr h2)])
    go_enter Tryd.func28, Tryd.ntmps28
    go_wp2
    go_ret
    exact ⟨ret_i HV.out.symm, rfl⟩
  have d2 : decide (7 < n) = false := by simpa using h2
  by_cases h3 : 4 < many
  · have d3 : decide ((4 : Int) < (many : Int)) = true := by simp; omega
    have HV : Hid (sizesE many n = 4) := Lib.hid (by unfold sizesE; rw [if_neg (by omega), if_pos h3])
    go_enter Tryd.func28, Tryd.ntmps28
    go_wp2
    go_ret
    exact ⟨ret_i HV.out.symm, rfl⟩
  · have d3 : decide ((4 : Int) < (many : Int)) = false := by simp; omega
    have HV : Hid (sizesE many n = 0) := Lib.hid (by unfold sizesE; rw [if_neg (by omega), if_neg h3])
    go_enter Tryd.func28, Tryd.ntmps28
    go_wp2
    go_ret
    exact ⟨ret_i HV.out.symm, rfl⟩

theorem pow_w (n : Int) (h1 : 1 ≤ n) (h7 : n ≤ 7) : (2 : Int) ^ n.toNat % 4294967296 = ((2 ^ n.toNat : Nat) : Int) := by
  have : n = 1 ∨ n = 2 ∨ n = 3 ∨ n = 4 ∨ n = 5 ∨ n = 6 ∨ n = 7 := by omega
  rcases this with rfl | rfl | rfl | rfl | rfl | rfl | rfl <;> rfl
set_option maxHeartbeats 4000000 in
set_option maxRecDepth 100000 in
theorem checkentry_any (ahead : List Ey) (y : Ey) (er n : Int) (A : Option Addr) (k c : Nat) (w : World) (h : EysIn w A k ahead) (hk : k ≤ 1000000) (hn : er = 0 → 1 ≤ n ∧ n ≤ 7) :
    Calls Tryd.prog 30 #[.slice A k c, .agg #[.int .i64 y.co.cl, .int .i64 y.co.sp, .int .i64 y.co.op, .string (ba y.co.lt), .int .i64 y.co.a, .int .i64 y.co.b, .string (ba y.co.tx), .int .u32 (y.ms : Int)], .int .i64 er, .int .i64 n] w fun e w' => e = .returned (.int .i64 (chk1 n (lastC ahead) er y)) ∧ Below w.heap.size w w' := by
  have HX : Hid (Below w.heap.size w (w.alloc (.cells #[.int .i64 y.co.cl, .int .i64 y.co.sp, .int .i64 y.co.op, .string (ba y.co.lt), .int .i64 y.co.a, .int .i64 y.co.b, .string (ba y.co.tx), .int .u32 (y.ms : Int)] 43))) := Lib.hid ((Below.refl _ w).alloc (Nat.le_refl _) _)
  have HB : Hid (Blk (w.alloc (.cells #[.int .i64 y.co.cl, .int .i64 y.co.sp, .int .i64 y.co.op, .string (ba y.co.lt), .int .i64 y.co.a, .int .i64 y.co.b, .string (ba y.co.tx), .int .u32 (y.ms : Int)] 43)) w.heap.size 43 [.int .i64 y.co.cl, .int .i64 y.co.sp, .int .i64 y.co.op, .string (ba y.co.lt), .int .i64 y.co.a, .int .i64 y.co.b, .string (ba y.co.tx), .int .u32 (y.ms : Int)]) := Lib.hid (Blk.fresh rfl rfl)
  have c0 := HB.out.cellAt (i := 0) rfl
  have c7 := HB.out.cellAt (i := 7) rfl
  by_cases he : er = 0
  case neg =>
    have e1 : (er == 0) = false := by simpa using he
    have e2 : (er != 0) = true := by simpa using he
    have HV : Hid (chk1 n (lastC ahead) er y = er) := Lib.hid (by unfold chk1; rw [if_pos he])
    clear h hn he hk
    go_enter Tryd.func30, Tryd.ntmps30
    go_wp2
    go_ret
    exact ⟨ret_i HV.out.symm, HX.out⟩
  obtain ⟨n1, n7⟩ := hn he
  subst he
  have hpw := pow_w n n1 n7
  obtain ⟨B, hB⟩ : ∃ B : Nat, 2 ^ n.toNat = B := ⟨_, rfl⟩
  rw [hB] at hpw
  by_cases hm : B ≤ y.ms
  case pos =>
    have d1 : decide ((2 : Int) ^ n.toNat % 4294967296 ≤ (y.ms : Int)) = true := by rw [hpw]; simpa using hm
    have HV : Hid (chk1 n (lastC ahead) 0 y = 5) := Lib.hid (by unfold chk1; rw [if_neg (by simp), hB, if_pos hm])
    clear h hn hm hk hpw hB
    go_enter Tryd.func30, Tryd.ntmps30
    go_wp2
    go_quiet (fail)
    go_wp2
    go_ret
    exact ⟨ret_i HV.out.symm, below_drewN HX.out _⟩
  have d1 : decide ((2 : Int) ^ n.toNat % 4294967296 ≤ (y.ms : Int)) = false := by rw [hpw]; simpa using hm
  by_cases hk0 : k = 0
  · subst hk0
    have ha : ahead = [] := List.eq_nil_of_length_eq_zero h.len
    have HV : Hid (chk1 n (lastC ahead) 0 y = 0) := Lib.hid (by unfold chk1; rw [if_neg (by simp), hB, if_neg hm, ha]; rfl)
    clear h hn hm hk hpw hB ha
    go_enter Tryd.func30, Tryd.ntmps30
    go_wp2
    go_quiet (fail)
    go_wp2
    go_quiet (fail)
    go_wp2
    go_ret
    exact ⟨ret_i HV.out.symm, below_drewN (below_drewN HX.out _) _⟩
  have hlt : k - 1 < k := by omega
  obtain ⟨g, o, x, rfl, hx, _, _, hrx⟩ := h.at hlt
  have hl := h.len
  have hla : lastC ahead = some x.co.cl := by
    have h9 := lastC_take (es := ahead) (i := k - 1) (by omega)
    rw [show k - 1 + 1 = ahead.length by omega, List.take_length] at h9
    rw [h9]
    rw [List.getElem?_eq_getElem (by omega)] at hx
    rw [Option.some.inj hx]
  obtain ⟨k', rfl⟩ : ∃ k', k = k' + 1 := ⟨k - 1, by omega⟩
  have hx0 : (w.alloc (.cells #[.int .i64 y.co.cl, .int .i64 y.co.sp, .int .i64 y.co.op, .string (ba y.co.lt), .int .i64 y.co.a, .int .i64 y.co.b, .string (ba y.co.tx), .int .u32 (y.ms : Int)] 43)).cell? ⟨g, o + k' * 8, none⟩ = some (.int .i64 x.co.cl) := (HX.out.cell (p := ⟨g, o + k' * 8, none⟩) (World.block_lt_of_cell? w ⟨g, o + k' * 8 + 0, none⟩ (hrx 0 _ rfl))).trans (hrx 0 _ rfl)
  have hix := fun (W : World) => Tryd.ix_ey W g o (k' + 1) c k' (by omega)
  have hw : IntKind.i64.wrap (k' : Int) = (k' : Int) := IntWalk.i64_in _ (by omega)
  by_cases hc : y.co.cl ≤ x.co.cl
  · have d3 : decide (y.co.cl ≤ x.co.cl) = true := by simpa using hc
    have HV : Hid (chk1 n (lastC ahead) 0 y = 15) := Lib.hid (by unfold chk1; rw [if_neg (by simp), hB, if_neg hm, hla]; simp [hc])
    clear h hn hm hk hpw hB hx hrx hl hla hc
    go_enter Tryd.func30, Tryd.ntmps30
    go_wp2
    go_quiet (fail)
    go_wp2
    go_quiet (fail)
    go_wp2
    go_ret
    exact ⟨ret_i HV.out.symm, below_drewN (below_drewN HX.out _) _⟩
  · have d3 : decide (y.co.cl ≤ x.co.cl) = false := by simpa using hc
    have HV : Hid (chk1 n (lastC ahead) 0 y = 0) := Lib.hid (by unfold chk1; rw [if_neg (by simp), hB, if_neg hm, hla]; simp [hc])
    clear h hn hm hk hpw hB hx hrx hl hla hc
    go_enter Tryd.func30, Tryd.ntmps30
    go_wp2
    go_quiet (fail)
    go_wp2
    go_quiet (fail)
    go_wp2
    go_ret
    exact ⟨ret_i HV.out.symm, below_drewN (below_drewN HX.out _) _⟩
end

section
open Go.RowKit
theorem run_head {P : Program} (w : World) (t e : TypeId) (g o n c : Nat) (k : Nat) (ht : P.underlying t = some (.slice e)) (hs : ((P.info? e).map (·.size)).isSome = true) (hk : k ≤ c) :
    (Instr.slice t (.slice (some ⟨g, o, none⟩) n c) none (some (.int .i64 (k : Int))) none).run P w = .ok (.slice (some ⟨g, o, none⟩) k c) w := by
  cases hq : P.info? e with
  | none => simp [hq] at hs
  | some info => simp [Instr.slice, Sem.run_bind, run_underlying ht, Instr.sliceBounds, run_sliceBound, sizeOf, typeInfo, hq, hk, Addr.add]

set_option maxHeartbeats 8000000 in
set_option maxRecDepth 100000 in
theorem check_any (es : List Ey) (n : Int) (A : Option Addr) (k c : Nat) (w : World) (h : EysIn w A k es) (hk : k ≤ c) (hl : ∀ y ∈ es, y.co.lt.length ≤ 140737488355328) :
    Calls Tryd.prog 16 #[.slice A k c, .int .i64 n] w fun e w' => e = .returned (.int .i64 (chkB es n)) ∧ Below w.heap.size w w' := by
  have HI := Lib.hid h
  have HLn := Lib.hid h.len
  have HLt := Lib.hid hl
  have HKc := Lib.hid hk
  have HSz : Hid (∀ W : World, Calls Tryd.prog 28 #[.int .i64 (k : Int), .int .i64 n] W fun e w' => e = .returned (.int .i64 (sizesE es.length n)) ∧ w' = W) := Lib.hid (fun W => by rw [h.len]; exact checksizes_any k n W)
  by_cases hs : sizesE es.length n = 0
  case neg =>
    have e1 : (sizesE es.length n == 0) = false := by simpa using hs
    have e2 : (sizesE es.length n != 0) = true := by simpa using hs
    have HV : Hid (chkB es n = sizesE es.length n) := Lib.hid (by unfold chkB; rw [if_pos hs])
    generalize sizesE es.length n = sz at *
    clear h hl hk hs
    go_enter Tryd.func16, Tryd.ntmps16
    go_wp2_with (first
      | (go_at_call 28; (with_reducible refine (HSz.out _).mono ?_); rintro e w1 ⟨rfl, hw1⟩; obtain rfl : w = w1 := hw1.symm))
    go_ret
    exact ⟨ret_i HV.out.symm, Below.refl _ _⟩
  have HN : Hid ((1 ≤ n ∧ n ≤ 7) ∧ k ≤ 4) := Lib.hid (by
    rw [h.len] at hs
    unfold sizesE at hs
    split at hs
    · cases hs
    · split at hs
      · cases hs
      · omega)
  have HV : Hid (chkB es n = chkW n none es) := Lib.hid (by unfold chkB; rw [if_neg (by simp [hs])])
  rw [hs] at HSz
  obtain ⟨bb, hbb⟩ : ∃ bb, chkB es n = bb := ⟨_, rfl⟩
  rw [hbb]
  have HBB := Lib.hid hbb
  clear h hl hk hs hbb
  go_enter Tryd.func16, Tryd.ntmps16
  go_wp2_with (first
    | (go_at_call 28; (with_reducible refine (HSz.out _).mono ?_); rintro e w1 ⟨rfl, hw1⟩; obtain rfl : w = w1 := hw1.symm))
  go_loopw [18] (fun iv wr => ∃ i : Nat, i ≤ k ∧ iv = .int .i64 i ∧ bb = chkW n (lastC (es.take i)) (es.drop i) ∧ Below w.heap.size w wr) (fun iv _ => k - (intOf iv).toNat)
  case atStart => exact ⟨0, Nat.zero_le _, rfl, by rw [← HBB.out, HV.out]; rfl, Below.refl _ _⟩
  case round =>
    obtain ⟨i, hi, rfl, hp, hx⟩ := hrel
    have HX := Lib.hid hx
    clear hx
    have hk4 : k ≤ 4 := HN.out.2
    by_cases hlt : i < k
    · obtain ⟨g, o, y, rfl, hyi, hmem, hd, hrx⟩ := (HI.out.through HX.out).at hlt
      have HTk : Hid (lastC (es.take (i + 1)) = some y.co.cl) := Lib.hid (by
        have hil : i < es.length := by rw [HLn.out]; exact hlt
        rw [lastC_take hil]
        rw [List.getElem?_eq_getElem hil] at hyi
        rw [Option.some.inj hyi])
      rw [chkW_drop n hd] at hp
      have HRx := Lib.hid hrx
      have hix := Tryd.ix_ey wr g o k c i hlt
      have hcut := fun W : World => run_head (P := Tryd.prog) W 22 43 g o k c i Tryd.underlying22 (by kernel_rfl) (by have := HKc.out; omega)
      have HB : Hid (Blk (wr.alloc (.cells #[.int .i64 y.co.cl, .int .i64 y.co.sp, .int .i64 y.co.op, .string (ba y.co.lt), .int .i64 y.co.a, .int .i64 y.co.b, .string (ba y.co.tx), .int .u32 (y.ms : Int)] 43)) wr.heap.size 43 [.int .i64 y.co.cl, .int .i64 y.co.sp, .int .i64 y.co.op, .string (ba y.co.lt), .int .i64 y.co.a, .int .i64 y.co.b, .string (ba y.co.tx), .int .u32 (y.ms : Int)]) := Lib.hid (Blk.fresh rfl rfl)
      have HC : Hid ((wr.alloc (.cells #[.int .i64 y.co.cl, .int .i64 y.co.sp, .int .i64 y.co.op, .string (ba y.co.lt), .int .i64 y.co.a, .int .i64 y.co.b, .string (ba y.co.tx), .int .u32 (y.ms : Int)] 43)).rangeAt wr.heap.size 0 [.int .i64 y.co.cl, .int .i64 y.co.sp, .int .i64 y.co.op, .string (ba y.co.lt), .int .i64 y.co.a, .int .i64 y.co.b, .string (ba y.co.tx)]) := Lib.hid (Blk.front (post := [.int .u32 (y.ms : Int)]) HB.out)
      have HXa : Hid (Below w.heap.size w (wr.alloc (.cells #[.int .i64 y.co.cl, .int .i64 y.co.sp, .int .i64 y.co.op, .string (ba y.co.lt), .int .i64 y.co.a, .int .i64 y.co.b, .string (ba y.co.tx), .int .u32 (y.ms : Int)] 43))) := Lib.hid (HX.out.alloc HX.out.size _)
      have HIa := Lib.hid ((HI.out.through HXa.out).take (i := i) (by omega))
      have HCk : Hid (∀ W : World, Calls Tryd.prog 33 #[.agg #[.int .i64 y.co.cl, .int .i64 y.co.sp, .int .i64 y.co.op, .string (ba y.co.lt), .int .i64 y.co.a, .int .i64 y.co.b, .string (ba y.co.tx)], .int .i64 n] W fun e w' => e = .returned (.int .i64 (chkC y.co n)) ∧ Below W.heap.size W w') := Lib.hid (fun W => chkC_any y.co n W (HLt.out y hmem))
      have HCe : Hid (∀ W : World, Below (wr.alloc (.cells #[.int .i64 y.co.cl, .int .i64 y.co.sp, .int .i64 y.co.op, .string (ba y.co.lt), .int .i64 y.co.a, .int .i64 y.co.b, .string (ba y.co.tx), .int .u32 (y.ms : Int)] 43)).heap.size (wr.alloc (.cells #[.int .i64 y.co.cl, .int .i64 y.co.sp, .int .i64 y.co.op, .string (ba y.co.lt), .int .i64 y.co.a, .int .i64 y.co.b, .string (ba y.co.tx), .int .u32 (y.ms : Int)] 43)) W → Calls Tryd.prog 30 #[.slice (some ⟨g, o, none⟩) i c, .agg #[.int .i64 y.co.cl, .int .i64 y.co.sp, .int .i64 y.co.op, .string (ba y.co.lt), .int .i64 y.co.a, .int .i64 y.co.b, .string (ba y.co.tx), .int .u32 (y.ms : Int)], .int .i64 (chkC y.co n), .int .i64 n] W fun e w' => e = .returned (.int .i64 (chk1 n (lastC (es.take i)) (chkC y.co n) y)) ∧ Below W.heap.size W w') := Lib.hid (fun W hW => checkentry_any (es.take i) y (chkC y.co n) n (some ⟨g, o, none⟩) i c W (HIa.out.through hW) (by have := HN.out; omega) (fun _ => HN.out.1))
      clear hrx hd hyi hmem HIa
      generalize chkC y.co n = er at *
      generalize chk1 n (lastC (es.take i)) er y = v at *
      by_cases hv : v = 0
      · subst hv
        have HP : Hid (bb = chkW n (some y.co.cl) (es.drop (i + 1))) := Lib.hid (by rw [hp]; simp)
        clear hp
        go_wp2_with (first
          | (refine wpList_load_mid rfl 43 (.tmp 21) rfl g (o + i * 8) rfl [.int .i64 y.co.cl, .int .i64 y.co.sp, .int .i64 y.co.op, .string (ba y.co.lt), .int .i64 y.co.a, .int .i64 y.co.b, .string (ba y.co.tx), .int .u32 (y.ms : Int)] _ HRx.out Tryd.underlying43 rfl (by kernel_rfl) ?_))
        try dsimp only [Act.put]
        generalize hw1 : wr.alloc (.cells #[.int .i64 y.co.cl, .int .i64 y.co.sp, .int .i64 y.co.op, .string (ba y.co.lt), .int .i64 y.co.a, .int .i64 y.co.b, .string (ba y.co.tx), .int .u32 (y.ms : Int)] 43) = w1 at *
        clear hw1
        generalize hg7 : wr.heap.size = g7 at *
        clear hg7
        refine wp_region_held_drew (S := fun W => Below w1.heap.size w1 W) (by kernel_rfl) (Below.refl _ _).drew (fun hHeld => ?_)
        change wpAnyH _ _ _ _ _ _ #[false, false, false, false, false, false, false, false, false, false, false] _ _
        refine wpAnyH_take (i := 0) (v := (.slice (some ⟨g, o, none⟩) k c)) rfl (by kernel_rfl) (by kernel_rfl) (by kernel_rfl) (fun _ _ _ h => h) (Or.inl ⟨by kernel_rfl, fun w hSw => ?_⟩) (by assumption) ?_
        · (try dsimp only at hSw); go_simp <;> (try rfl)
        change wpAnyH _ _ _ _ _ _ _ (Act.put _ (some (23 : Nat)) (.slice (some ⟨g, o, none⟩) k c)) _
        simp only [Act.put, List.setIfInBounds_toArray, List.set_cons_zero, List.set_cons_succ]
        refine wpAnyH_take (i := 1) (v := (.int .i64 (i : Int))) rfl (by kernel_rfl) (by kernel_rfl) (by kernel_rfl) (fun _ _ _ h => h) (Or.inl ⟨by kernel_rfl, fun w hSw => ?_⟩) (by assumption) ?_
        · (try dsimp only at hSw); go_simp <;> (try rfl)
        change wpAnyH _ _ _ _ _ _ _ (Act.put _ (some (24 : Nat)) (.int .i64 (i : Int))) _
        simp only [Act.put, List.setIfInBounds_toArray, List.set_cons_zero, List.set_cons_succ]
        refine wpAnyH_take (i := 2) (v := (.slice (some ⟨g, o, none⟩) i c)) rfl (by kernel_rfl) (by kernel_rfl) (by kernel_rfl) (fun _ _ _ h => h) (Or.inl ⟨by kernel_rfl, fun w hSw => ?_⟩) (by assumption) ?_
        · (try dsimp only at hSw); go_simp <;> (try rfl)
        change wpAnyH _ _ _ _ _ _ _ (Act.put _ (some (25 : Nat)) (.slice (some ⟨g, o, none⟩) i c)) _
        simp only [Act.put, List.setIfInBounds_toArray, List.set_cons_zero, List.set_cons_succ]
        refine wpAnyH_take (i := 3) (v := (.agg #[.int .i64 y.co.cl, .int .i64 y.co.sp, .int .i64 y.co.op, .string (ba y.co.lt), .int .i64 y.co.a, .int .i64 y.co.b, .string (ba y.co.tx), .int .u32 (y.ms : Int)])) rfl (by kernel_rfl) (by kernel_rfl) (by kernel_rfl) (fun _ _ _ h => h) (yields_load_at (by kernel_rfl) 43 (.tmp 7) rfl (.pointer (some ⟨g7, 0, none⟩)) (by simp [Act.eval]) (.agg #[.int .i64 y.co.cl, .int .i64 y.co.sp, .int .i64 y.co.op, .string (ba y.co.lt), .int .i64 y.co.a, .int .i64 y.co.b, .string (ba y.co.tx), .int .u32 (y.ms : Int)]) (fun W hW => (HB.out.through hW).loadAt 43 _ Tryd.underlying43 rfl (by kernel_rfl))) (by assumption) ?_
        change wpAnyH _ _ _ _ _ _ _ (Act.put _ (some (26 : Nat)) (.agg #[.int .i64 y.co.cl, .int .i64 y.co.sp, .int .i64 y.co.op, .string (ba y.co.lt), .int .i64 y.co.a, .int .i64 y.co.b, .string (ba y.co.tx), .int .u32 (y.ms : Int)])) _
        simp only [Act.put, List.setIfInBounds_toArray, List.set_cons_zero, List.set_cons_succ]
        refine wpAnyH_take (i := 4) (v := (.pointer (some ⟨g7, 0, none⟩))) rfl (by kernel_rfl) (by kernel_rfl) (by kernel_rfl) (fun _ _ _ h => h) (Or.inl ⟨by kernel_rfl, fun w hSw => ?_⟩) (by assumption) ?_
        · (try dsimp only at hSw); go_simp <;> (try rfl)
        change wpAnyH _ _ _ _ _ _ _ (Act.put _ (some (27 : Nat)) (.pointer (some ⟨g7, 0, none⟩))) _
        simp only [Act.put, List.setIfInBounds_toArray, List.set_cons_zero, List.set_cons_succ]
        refine wpAnyH_take (i := 5) (v := (.agg #[.int .i64 y.co.cl, .int .i64 y.co.sp, .int .i64 y.co.op, .string (ba y.co.lt), .int .i64 y.co.a, .int .i64 y.co.b, .string (ba y.co.tx)])) rfl (by kernel_rfl) (by kernel_rfl) (by kernel_rfl) (fun _ _ _ h => h) (yieldsIf_load_mid (by kernel_rfl) 40 (.tmp 27) rfl g7 0 (by simp [Act.eval]) [.int .i64 y.co.cl, .int .i64 y.co.sp, .int .i64 y.co.op, .string (ba y.co.lt), .int .i64 y.co.a, .int .i64 y.co.b, .string (ba y.co.tx)] _ (fun W hW => rangeAt.through HC.out hW) Tryd.underlying40 rfl (by kernel_rfl)) (by assumption) ?_
        change wpAnyH _ _ _ _ _ _ _ (Act.put _ (some (28 : Nat)) (.agg #[.int .i64 y.co.cl, .int .i64 y.co.sp, .int .i64 y.co.op, .string (ba y.co.lt), .int .i64 y.co.a, .int .i64 y.co.b, .string (ba y.co.tx)])) _
        simp only [Act.put, List.setIfInBounds_toArray, List.set_cons_zero, List.set_cons_succ]
        refine wpAnyH_take (i := 6) (v := (.int .i64 n)) rfl (by kernel_rfl) (by kernel_rfl) (by kernel_rfl) (fun _ _ _ h => h) (Or.inl ⟨by kernel_rfl, fun w hSw => ?_⟩) (by assumption) ?_
        · (try dsimp only at hSw); go_simp <;> (try rfl)
        change wpAnyH _ _ _ _ _ _ _ (Act.put _ (some (29 : Nat)) (.int .i64 n)) _
        simp only [Act.put, List.setIfInBounds_toArray, List.set_cons_zero, List.set_cons_succ]
        refine wpAnyH_take (i := 8) (v := (.int .i64 n)) rfl (by kernel_rfl) (by kernel_rfl) (by kernel_rfl) (fun _ _ _ h => h) (Or.inl ⟨by kernel_rfl, fun w hSw => ?_⟩) (by assumption) ?_
        · (try dsimp only at hSw); go_simp <;> (try rfl)
        change wpAnyH _ _ _ _ _ _ _ (Act.put _ (some (31 : Nat)) (.int .i64 n)) _
        simp only [Act.put, List.setIfInBounds_toArray, List.set_cons_zero, List.set_cons_succ]
        refine wpAnyH_ready (rs := [7]) (by kernel_rfl) (by simp) ?_
        refine AllReadyH.cons rfl (fun K hK => ?_) AllReadyH.nil
        go_simp
        refine (HCk.out _).mono ?_
        rintro e w2 ⟨rfl, hb2⟩; have HK2 := Lib.hid (below_step hHeld hb2); clear hb2
        go_wp2_with fail
        refine hK.out _ _ HK2.out (fun hHeld1 => ?_)
        clear hHeld hK K
        have hHeld := hHeld1
        clear hHeld1
        refine wpAnyH_ready (rs := [9]) (by kernel_rfl) (by simp) ?_
        refine AllReadyH.cons rfl (fun K hK => ?_) AllReadyH.nil
        go_simp
        refine (HCe.out _ HK2.out).mono ?_
        rintro e w3 ⟨rfl, hb3⟩; have HK3 := Lib.hid (below_step HK2.out hb3); clear hb3
        go_wp2_with fail
        refine hK.out _ _ HK3.out (fun hHeld1 => ?_)
        clear hHeld hK K
        have hHeld := hHeld1
        clear hHeld1
        refine wpAnyH_take (i := 10) (v := (.int .i64 0)) rfl (by kernel_rfl) (by kernel_rfl) (by kernel_rfl) (fun _ _ _ h => h) (Or.inl ⟨by kernel_rfl, fun w hSw => ?_⟩) (by assumption) ?_
        · (try dsimp only at hSw); go_simp <;> (try rfl)
        change wpAnyH _ _ _ _ _ _ _ (Act.put _ (some (8 : Nat)) (.int .i64 0)) _
        simp only [Act.put, List.setIfInBounds_toArray, List.set_cons_zero, List.set_cons_succ]
        refine wpAnyH_done (by kernel_rfl) ?_ _
        go_wp2
        go_roundw
        case rel => exact ⟨i + 1, by omega, by go_num, by rw [HTk.out]; exact HP.out, below_step HXa.out HK3.out⟩
        case measure => simp [intOf]; omega
      · have v1 : (v == 0) = false := by simpa using hv
        have v2 : (v != 0) = true := by simpa using hv
        have HP : Hid (bb = v) := Lib.hid (by rw [hp]; simp [hv])
        clear hp hv
        go_wp2_with (first
          | (refine wpList_load_mid rfl 43 (.tmp 21) rfl g (o + i * 8) rfl [.int .i64 y.co.cl, .int .i64 y.co.sp, .int .i64 y.co.op, .string (ba y.co.lt), .int .i64 y.co.a, .int .i64 y.co.b, .string (ba y.co.tx), .int .u32 (y.ms : Int)] _ HRx.out Tryd.underlying43 rfl (by kernel_rfl) ?_))
        try dsimp only [Act.put]
        generalize hw1 : wr.alloc (.cells #[.int .i64 y.co.cl, .int .i64 y.co.sp, .int .i64 y.co.op, .string (ba y.co.lt), .int .i64 y.co.a, .int .i64 y.co.b, .string (ba y.co.tx), .int .u32 (y.ms : Int)] 43) = w1 at *
        clear hw1
        generalize hg7 : wr.heap.size = g7 at *
        clear hg7
        refine wp_region_held_drew (S := fun W => Below w1.heap.size w1 W) (by kernel_rfl) (Below.refl _ _).drew (fun hHeld => ?_)
        change wpAnyH _ _ _ _ _ _ #[false, false, false, false, false, false, false, false, false, false, false] _ _
        refine wpAnyH_take (i := 0) (v := (.slice (some ⟨g, o, none⟩) k c)) rfl (by kernel_rfl) (by kernel_rfl) (by kernel_rfl) (fun _ _ _ h => h) (Or.inl ⟨by kernel_rfl, fun w hSw => ?_⟩) (by assumption) ?_
        · (try dsimp only at hSw); go_simp <;> (try rfl)
        change wpAnyH _ _ _ _ _ _ _ (Act.put _ (some (23 : Nat)) (.slice (some ⟨g, o, none⟩) k c)) _
        simp only [Act.put, List.setIfInBounds_toArray, List.set_cons_zero, List.set_cons_succ]
        refine wpAnyH_take (i := 1) (v := (.int .i64 (i : Int))) rfl (by kernel_rfl) (by kernel_rfl) (by kernel_rfl) (fun _ _ _ h => h) (Or.inl ⟨by kernel_rfl, fun w hSw => ?_⟩) (by assumption) ?_
        · (try dsimp only at hSw); go_simp <;> (try rfl)
        change wpAnyH _ _ _ _ _ _ _ (Act.put _ (some (24 : Nat)) (.int .i64 (i : Int))) _
        simp only [Act.put, List.setIfInBounds_toArray, List.set_cons_zero, List.set_cons_succ]
        refine wpAnyH_take (i := 2) (v := (.slice (some ⟨g, o, none⟩) i c)) rfl (by kernel_rfl) (by kernel_rfl) (by kernel_rfl) (fun _ _ _ h => h) (Or.inl ⟨by kernel_rfl, fun w hSw => ?_⟩) (by assumption) ?_
        · (try dsimp only at hSw); go_simp <;> (try rfl)
        change wpAnyH _ _ _ _ _ _ _ (Act.put _ (some (25 : Nat)) (.slice (some ⟨g, o, none⟩) i c)) _
        simp only [Act.put, List.setIfInBounds_toArray, List.set_cons_zero, List.set_cons_succ]
        refine wpAnyH_take (i := 3) (v := (.agg #[.int .i64 y.co.cl, .int .i64 y.co.sp, .int .i64 y.co.op, .string (ba y.co.lt), .int .i64 y.co.a, .int .i64 y.co.b, .string (ba y.co.tx), .int .u32 (y.ms : Int)])) rfl (by kernel_rfl) (by kernel_rfl) (by kernel_rfl) (fun _ _ _ h => h) (yields_load_at (by kernel_rfl) 43 (.tmp 7) rfl (.pointer (some ⟨g7, 0, none⟩)) (by simp [Act.eval]) (.agg #[.int .i64 y.co.cl, .int .i64 y.co.sp, .int .i64 y.co.op, .string (ba y.co.lt), .int .i64 y.co.a, .int .i64 y.co.b, .string (ba y.co.tx), .int .u32 (y.ms : Int)]) (fun W hW => (HB.out.through hW).loadAt 43 _ Tryd.underlying43 rfl (by kernel_rfl))) (by assumption) ?_
        change wpAnyH _ _ _ _ _ _ _ (Act.put _ (some (26 : Nat)) (.agg #[.int .i64 y.co.cl, .int .i64 y.co.sp, .int .i64 y.co.op, .string (ba y.co.lt), .int .i64 y.co.a, .int .i64 y.co.b, .string (ba y.co.tx), .int .u32 (y.ms : Int)])) _
        simp only [Act.put, List.setIfInBounds_toArray, List.set_cons_zero, List.set_cons_succ]
        refine wpAnyH_take (i := 4) (v := (.pointer (some ⟨g7, 0, none⟩))) rfl (by kernel_rfl) (by kernel_rfl) (by kernel_rfl) (fun _ _ _ h => h) (Or.inl ⟨by kernel_rfl, fun w hSw => ?_⟩) (by assumption) ?_
        · (try dsimp only at hSw); go_simp <;> (try rfl)
        change wpAnyH _ _ _ _ _ _ _ (Act.put _ (some (27 : Nat)) (.pointer (some ⟨g7, 0, none⟩))) _
        simp only [Act.put, List.setIfInBounds_toArray, List.set_cons_zero, List.set_cons_succ]
        refine wpAnyH_take (i := 5) (v := (.agg #[.int .i64 y.co.cl, .int .i64 y.co.sp, .int .i64 y.co.op, .string (ba y.co.lt), .int .i64 y.co.a, .int .i64 y.co.b, .string (ba y.co.tx)])) rfl (by kernel_rfl) (by kernel_rfl) (by kernel_rfl) (fun _ _ _ h => h) (yieldsIf_load_mid (by kernel_rfl) 40 (.tmp 27) rfl g7 0 (by simp [Act.eval]) [.int .i64 y.co.cl, .int .i64 y.co.sp, .int .i64 y.co.op, .string (ba y.co.lt), .int .i64 y.co.a, .int .i64 y.co.b, .string (ba y.co.tx)] _ (fun W hW => rangeAt.through HC.out hW) Tryd.underlying40 rfl (by kernel_rfl)) (by assumption) ?_
        change wpAnyH _ _ _ _ _ _ _ (Act.put _ (some (28 : Nat)) (.agg #[.int .i64 y.co.cl, .int .i64 y.co.sp, .int .i64 y.co.op, .string (ba y.co.lt), .int .i64 y.co.a, .int .i64 y.co.b, .string (ba y.co.tx)])) _
        simp only [Act.put, List.setIfInBounds_toArray, List.set_cons_zero, List.set_cons_succ]
        refine wpAnyH_take (i := 6) (v := (.int .i64 n)) rfl (by kernel_rfl) (by kernel_rfl) (by kernel_rfl) (fun _ _ _ h => h) (Or.inl ⟨by kernel_rfl, fun w hSw => ?_⟩) (by assumption) ?_
        · (try dsimp only at hSw); go_simp <;> (try rfl)
        change wpAnyH _ _ _ _ _ _ _ (Act.put _ (some (29 : Nat)) (.int .i64 n)) _
        simp only [Act.put, List.setIfInBounds_toArray, List.set_cons_zero, List.set_cons_succ]
        refine wpAnyH_take (i := 8) (v := (.int .i64 n)) rfl (by kernel_rfl) (by kernel_rfl) (by kernel_rfl) (fun _ _ _ h => h) (Or.inl ⟨by kernel_rfl, fun w hSw => ?_⟩) (by assumption) ?_
        · (try dsimp only at hSw); go_simp <;> (try rfl)
        change wpAnyH _ _ _ _ _ _ _ (Act.put _ (some (31 : Nat)) (.int .i64 n)) _
        simp only [Act.put, List.setIfInBounds_toArray, List.set_cons_zero, List.set_cons_succ]
        refine wpAnyH_ready (rs := [7]) (by kernel_rfl) (by simp) ?_
        refine AllReadyH.cons rfl (fun K hK => ?_) AllReadyH.nil
        go_simp
        refine (HCk.out _).mono ?_
        rintro e w2 ⟨rfl, hb2⟩; have HK2 := Lib.hid (below_step hHeld hb2); clear hb2
        go_wp2_with fail
        refine hK.out _ _ HK2.out (fun hHeld1 => ?_)
        clear hHeld hK K
        have hHeld := hHeld1
        clear hHeld1
        refine wpAnyH_ready (rs := [9]) (by kernel_rfl) (by simp) ?_
        refine AllReadyH.cons rfl (fun K hK => ?_) AllReadyH.nil
        go_simp
        refine (HCe.out _ HK2.out).mono ?_
        rintro e w3 ⟨rfl, hb3⟩; have HK3 := Lib.hid (below_step HK2.out hb3); clear hb3
        go_wp2_with fail
        refine hK.out _ _ HK3.out (fun hHeld1 => ?_)
        clear hHeld hK K
        have hHeld := hHeld1
        clear hHeld1
        refine wpAnyH_take (i := 10) (v := (.int .i64 v)) rfl (by kernel_rfl) (by kernel_rfl) (by kernel_rfl) (fun _ _ _ h => h) (Or.inl ⟨by kernel_rfl, fun w hSw => ?_⟩) (by assumption) ?_
        · (try dsimp only at hSw); go_simp <;> (try rfl)
        change wpAnyH _ _ _ _ _ _ _ (Act.put _ (some (8 : Nat)) (.int .i64 v)) _
        simp only [Act.put, List.setIfInBounds_toArray, List.set_cons_zero, List.set_cons_succ]
        refine wpAnyH_done (by kernel_rfl) ?_ _
        go_wp2
        go_ret
        exact ⟨ret_i HP.out.symm, below_step HXa.out HK3.out⟩
    · have e : es.drop i = [] := List.drop_of_length_le (by have := HLn.out; omega)
      rw [e] at hp
      have HP : Hid (bb = 0) := Lib.hid hp
      clear hp e
      go_wp2
      go_ret
      exact ⟨ret_i HP.out.symm, HX.out⟩
end

section
open Go.RowKit
theorem chk1_five {n : Int} {p : Option Int} {y : Ey} (h : 2 ^ n.toNat ≤ y.ms) : chk1 n p 0 y = 5 := by unfold chk1; rw [if_neg (by simp), if_pos h]
theorem chk1_none {n : Int} {y : Ey} (h : ¬ 2 ^ n.toNat ≤ y.ms) : chk1 n none 0 y = 0 := by unfold chk1; rw [if_neg (by simp), if_neg h]
theorem chk1_twice {n c : Int} {y : Ey} (h : ¬ 2 ^ n.toNat ≤ y.ms) (hc : y.co.cl ≤ c) : chk1 n (some c) 0 y = 15 := by unfold chk1; rw [if_neg (by simp), if_neg h]; exact if_pos hc
theorem chk1_ok {n c : Int} {y : Ey} (h : ¬ 2 ^ n.toNat ≤ y.ms) (hc : ¬ y.co.cl ≤ c) : chk1 n (some c) 0 y = 0 := by unfold chk1; rw [if_neg (by simp), if_neg h]; exact if_neg hc
theorem chk1_core {n : Int} {p : Option Int} {e : Int} {y : Ey} (h : e ≠ 0) : chk1 n p e y = e := by unfold chk1; rw [if_pos h]
theorem sizes_arg {many : Nat} {n : Int} (h : n < 1 ∨ 7 < n) : sizesE many n = 1 := by unfold sizesE; rw [if_pos h]
theorem sizes_many {many : Nat} {n : Int} (h : ¬ (n < 1 ∨ 7 < n)) (h4 : 4 < many) : sizesE many n = 4 := by unfold sizesE; rw [if_neg h, if_pos h4]
theorem sizes_ok {many : Nat} {n : Int} (h : ¬ (n < 1 ∨ 7 < n)) (h4 : ¬ 4 < many) : sizesE many n = 0 := by unfold sizesE; rw [if_neg h, if_neg h4]

set_option maxHeartbeats 8000000 in
set_option maxRecDepth 100000 in
theorem rcheck15_any (es : List Ey) (n : Int) (A : Option Addr) (k c : Nat) (w : World) (h : EysIn w A k es) (hl : ∀ y ∈ es, y.co.lt.length ≤ 1000000) :
    Calls Tryd.prog 13 #[.slice A k c, .int .i64 n] w fun e w' => e = .returned (.int .i64 (chkB es n)) ∧ Below w.heap.size w w' := by
  have HI := Lib.hid h
  have HLn := Lib.hid h.len
  have HLt := Lib.hid hl
  have hlen := h.len
  obtain ⟨bb, hbb⟩ : ∃ bb, chkB es n = bb := ⟨_, rfl⟩
  rw [hbb]
  by_cases h1 : n < 1
  · have d1 : decide (n < 1) = true := by simpa using h1
    have HV : Hid (bb = 1) := Lib.hid (by rw [← hbb]; unfold chkB; rw [sizes_arg (.inl h1)]; rfl)
    clear h hl hlen hbb h1
    go_enter Tryd.func13, Tryd.ntmps13
    go_wp2
    go_ret
    exact ⟨ret_i HV.out.symm, Below.refl _ _⟩
  have d1 : decide (n < 1) = false := by simpa using h1
  by_cases h2 : 7 < n
  · have d2 : decide (7 < n) = true := by simpa using h2
    have HV : Hid (bb = 1) := Lib.hid (by rw [← hbb]; unfold chkB; rw [sizes_arg (.inr h2)]; rfl)
    clear h hl hlen hbb h1 h2
    go_enter Tryd.func13, Tryd.ntmps13
    go_wp2
    go_ret
    exact ⟨ret_i HV.out.symm, Below.refl _ _⟩
  have d2 : decide (7 < n) = false := by simpa using h2
  by_cases h3 : 4 < k
  · have d3 : decide ((4 : Int) < (k : Int)) = true := by simp; omega
    have HV : Hid (bb = 4) := Lib.hid (by rw [← hbb]; unfold chkB; rw [sizes_many (by omega) (by omega)]; rfl)
    clear h hl hlen hbb h1 h2 h3
    go_enter Tryd.func13, Tryd.ntmps13
    go_wp2
    go_ret
    exact ⟨ret_i HV.out.symm, Below.refl _ _⟩
  have d3 : decide ((4 : Int) < (k : Int)) = false := by simp; omega
  obtain ⟨m, rfl⟩ : ∃ m : Nat, n = m := ⟨n.toNat, by omega⟩
  have HV : Hid (bb = chkW (m : Int) none es) := Lib.hid (by rw [← hbb]; unfold chkB; rw [sizes_ok (by omega) (by omega)]; simp)
  have HM : Hid ((1 ≤ m ∧ m ≤ 7) ∧ k ≤ 4) := Lib.hid (by omega)
  clear h hl hlen hbb h1 h2 h3
  go_enter Tryd.func13, Tryd.ntmps13
  go_wp2
  go_loopw [5, 6] (fun bv jv wr => ∃ j : Nat, j ≤ m ∧ jv = .int .i64 j ∧ bv = .int .u32 ((2 ^ j : Nat) : Int) ∧ wr = w) (fun _ jv _ => m - (intOf jv).toNat)
  case atStart => exact ⟨0, Nat.zero_le _, rfl, rfl, rfl⟩
  case round =>
    obtain ⟨j, hj, rfl, rfl, hww⟩ := hrel
    obtain rfl : w = wr := hww.symm
    have hM := HM.out
    by_cases hjm : j < m
    · have hB64 : 2 ^ j ≤ 64 := Nat.pow_le_pow_right (n := 2) (by decide) (show j ≤ 6 by omega)
      have HB2 : Hid (2 ^ (j + 1) = 2 ^ j * 2) := Lib.hid (Nat.pow_succ 2 j)
      generalize 2 ^ j = B at *
      have hwr2 : IntKind.u32.wrap ((B : Int) * 2) = (B : Int) * 2 := IntWalk.u32_in _ (by omega)
      have hwr3 : (B : Int) * 2 % 4294967296 = (B : Int) * 2 := by omega
      go_wp2
      go_roundw
      case rel => exact ⟨j + 1, by omega, by go_num, by rw [HB2.out]; simp, by first | rfl | trivial⟩
      case measure => simp [intOf]; omega
    · obtain rfl : m = j := by omega
      go_wp2
      try rename_i wr0
      go_loopw [28] (fun iv wr => ∃ i : Nat, i ≤ k ∧ iv = .int .i64 i ∧ bb = chkW (m : Int) (lastC (es.take i)) (es.drop i) ∧ Below w.heap.size w wr) (fun iv _ => k - (intOf iv).toNat)
      case atStart => exact ⟨0, Nat.zero_le _, rfl, HV.out, Below.refl _ _⟩
      case round =>
        obtain ⟨i, hi, rfl, hp, hx⟩ := hrel
        have HX := Lib.hid hx
        clear hx
        by_cases hlt : i < k
        · obtain ⟨g, o, y, rfl, hyi, hmem, hd, hrx⟩ := (HI.out.through HX.out).at hlt
          have HTk : Hid (lastC (es.take (i + 1)) = some y.co.cl) := Lib.hid (by
            have hil : i < es.length := by rw [HLn.out]; exact hlt
            rw [lastC_take hil]
            rw [List.getElem?_eq_getElem hil] at hyi
            rw [Option.some.inj hyi])
          rw [chkW_drop (m : Int) hd] at hp
          have HRx := Lib.hid hrx
          have HB : Hid (Blk (wr.alloc (.cells #[.int .i64 y.co.cl, .int .i64 y.co.sp, .int .i64 y.co.op, .string (ba y.co.lt), .int .i64 y.co.a, .int .i64 y.co.b, .string (ba y.co.tx), .int .u32 (y.ms : Int)] 43)) wr.heap.size 43 [.int .i64 y.co.cl, .int .i64 y.co.sp, .int .i64 y.co.op, .string (ba y.co.lt), .int .i64 y.co.a, .int .i64 y.co.b, .string (ba y.co.tx), .int .u32 (y.ms : Int)]) := Lib.hid (Blk.fresh rfl rfl)
          have HC : Hid ((wr.alloc (.cells #[.int .i64 y.co.cl, .int .i64 y.co.sp, .int .i64 y.co.op, .string (ba y.co.lt), .int .i64 y.co.a, .int .i64 y.co.b, .string (ba y.co.tx), .int .u32 (y.ms : Int)] 43)).rangeAt wr.heap.size 0 [.int .i64 y.co.cl, .int .i64 y.co.sp, .int .i64 y.co.op, .string (ba y.co.lt), .int .i64 y.co.a, .int .i64 y.co.b, .string (ba y.co.tx)]) := Lib.hid (Blk.front (post := [.int .u32 (y.ms : Int)]) HB.out)
          have HXa : Hid (Below w.heap.size w (wr.alloc (.cells #[.int .i64 y.co.cl, .int .i64 y.co.sp, .int .i64 y.co.op, .string (ba y.co.lt), .int .i64 y.co.a, .int .i64 y.co.b, .string (ba y.co.tx), .int .u32 (y.ms : Int)] 43))) := Lib.hid (HX.out.alloc HX.out.size _)
          have HCk : Hid (∀ W : World, Calls Tryd.prog 25 #[.agg #[.int .i64 y.co.cl, .int .i64 y.co.sp, .int .i64 y.co.op, .string (ba y.co.lt), .int .i64 y.co.a, .int .i64 y.co.b, .string (ba y.co.tx)], .int .i64 (m : Int)] W fun e w' => e = .returned (.int .i64 (chkC y.co m)) ∧ Below W.heap.size W w') := Lib.hid (fun W => rchkC_any y.co m W (HLt.out y hmem))
          have hms : y.ms < 4294967296 := HI.out.2 y hmem
          have hix := Tryd.ix_ey wr g o k c i hlt
          clear hrx hd hmem
          by_cases he : chkC y.co m = 0
          case neg =>
            have HP : Hid (bb = chkC y.co m) := Lib.hid (by rw [hp, chk1_core he, if_pos he])
            generalize chkC y.co m = er at *
            have e1 : (er == 0) = false := by simpa using he
            have e2 : (er != 0) = true := by simpa using he
            clear hp he
            go_wp2_with (first
              | (refine wpList_load_mid rfl 43 (.tmp 31) rfl g (o + i * 8) rfl [.int .i64 y.co.cl, .int .i64 y.co.sp, .int .i64 y.co.op, .string (ba y.co.lt), .int .i64 y.co.a, .int .i64 y.co.b, .string (ba y.co.tx), .int .u32 (y.ms : Int)] _ HRx.out Tryd.underlying43 rfl (by kernel_rfl) ?_)
              | (refine wpList_load_mid rfl 40 (.tmp 33) rfl wr.heap.size 0 rfl [.int .i64 y.co.cl, .int .i64 y.co.sp, .int .i64 y.co.op, .string (ba y.co.lt), .int .i64 y.co.a, .int .i64 y.co.b, .string (ba y.co.tx)] _ HC.out Tryd.underlying40 rfl (by kernel_rfl) ?_)
              | (go_at_call 25; (with_reducible refine (HCk.out _).mono ?_); rintro e w2 ⟨rfl, hb2⟩; have HX2 := Lib.hid (below_step HXa.out hb2); have HB2 := Lib.hid (HB.out.through hb2); have c0 := HB2.out.cellAt (i := 0) rfl; have c7 := HB2.out.cellAt (i := 7) rfl;  clear hb2))
            go_ret
            exact ⟨ret_i HP.out.symm, HX2.out⟩
          rw [he] at HCk hp
          by_cases hm : 2 ^ m ≤ y.ms
          case pos =>
            have HP : Hid (bb = 5) := Lib.hid (by rw [hp, chk1_five (n := (m : Int)) hm]; rfl)
            have d5 : decide ((2 : Int) ^ m ≤ (y.ms : Int)) = true := by simp; exact_mod_cast hm
            clear hp he hm
            go_wp2_with (first
              | (refine wpList_load_mid rfl 43 (.tmp 31) rfl g (o + i * 8) rfl [.int .i64 y.co.cl, .int .i64 y.co.sp, .int .i64 y.co.op, .string (ba y.co.lt), .int .i64 y.co.a, .int .i64 y.co.b, .string (ba y.co.tx), .int .u32 (y.ms : Int)] _ HRx.out Tryd.underlying43 rfl (by kernel_rfl) ?_)
              | (refine wpList_load_mid rfl 40 (.tmp 33) rfl wr.heap.size 0 rfl [.int .i64 y.co.cl, .int .i64 y.co.sp, .int .i64 y.co.op, .string (ba y.co.lt), .int .i64 y.co.a, .int .i64 y.co.b, .string (ba y.co.tx)] _ HC.out Tryd.underlying40 rfl (by kernel_rfl) ?_)
              | (go_at_call 25; (with_reducible refine (HCk.out _).mono ?_); rintro e w2 ⟨rfl, hb2⟩; have HX2 := Lib.hid (below_step HXa.out hb2); have HB2 := Lib.hid (HB.out.through hb2); have c0 := HB2.out.cellAt (i := 0) rfl; have c7 := HB2.out.cellAt (i := 7) rfl;  clear hb2))
            go_ret
            exact ⟨ret_i HP.out.symm, HX2.out⟩
          rcases Nat.eq_zero_or_pos i with rfl | hpos
          · have HP : Hid (bb = chkW (m : Int) (some y.co.cl) (es.drop (0 + 1))) := Lib.hid (by rw [hp, show lastC (es.take 0) = none from rfl, chk1_none (n := (m : Int)) hm]; rfl)
            have d5 : decide ((2 : Int) ^ m ≤ (y.ms : Int)) = false := by simp; have := Nat.lt_of_not_le hm; exact_mod_cast this
            clear hp he hm
            go_wp2_with (first
              | (refine wpList_load_mid rfl 43 (.tmp 31) rfl g (o + 0 * 8) rfl [.int .i64 y.co.cl, .int .i64 y.co.sp, .int .i64 y.co.op, .string (ba y.co.lt), .int .i64 y.co.a, .int .i64 y.co.b, .string (ba y.co.tx), .int .u32 (y.ms : Int)] _ HRx.out Tryd.underlying43 rfl (by kernel_rfl) ?_)
              | (refine wpList_load_mid rfl 40 (.tmp 33) rfl wr.heap.size 0 rfl [.int .i64 y.co.cl, .int .i64 y.co.sp, .int .i64 y.co.op, .string (ba y.co.lt), .int .i64 y.co.a, .int .i64 y.co.b, .string (ba y.co.tx)] _ HC.out Tryd.underlying40 rfl (by kernel_rfl) ?_)
              | (go_at_call 25; (with_reducible refine (HCk.out _).mono ?_); rintro e w2 ⟨rfl, hb2⟩; have HX2 := Lib.hid (below_step HXa.out hb2); have HB2 := Lib.hid (HB.out.through hb2); have c0 := HB2.out.cellAt (i := 0) rfl; have c7 := HB2.out.cellAt (i := 7) rfl;  clear hb2))
            go_quiet (fail)
            go_wp2
            go_roundw
            case rel => exact ⟨0 + 1, by omega, by go_num, by rw [HTk.out]; exact HP.out, below_drewN HX2.out _⟩
            case measure => simp [intOf]; omega
          · obtain ⟨j, rfl⟩ : ∃ j, i = j + 1 := ⟨i - 1, by omega⟩
            have hjk : j < k := by omega
            obtain ⟨g', o', x, hgo, hxj, _, _, hrp⟩ := (HI.out.through HX.out).at hjk
            obtain ⟨rfl, rfl⟩ : g = g' ∧ o = o' := by simpa using hgo
            have hla : lastC (es.take (j + 1)) = some x.co.cl := by
              have hil : j < es.length := by rw [HLn.out]; exact hjk
              rw [lastC_take hil]
              rw [List.getElem?_eq_getElem hil] at hxj
              rw [Option.some.inj hxj]
            have HRp := Lib.hid hrp
            have hixp := fun W : World => Tryd.ix_ey W g o k c j hjk
            have hwj : IntKind.i64.wrap (j : Int) = (j : Int) := IntWalk.i64_in _ (by have := HM.out; omega)
            clear hrp hgo hxj
            by_cases hc : y.co.cl ≤ x.co.cl
            case pos =>
              have d6 : decide (y.co.cl ≤ x.co.cl) = true := by simpa using hc
              have HP : Hid (bb = 15) := Lib.hid (by rw [hp, hla, chk1_twice (n := (m : Int)) hm hc]; rfl)
              have d5 : decide ((2 : Int) ^ m ≤ (y.ms : Int)) = false := by simp; have := Nat.lt_of_not_le hm; exact_mod_cast this
              clear hp he hm hla hc
              go_wp2_with (first
                | (refine wpList_load_mid rfl 43 (.tmp 31) rfl g (o + (j + 1) * 8) rfl [.int .i64 y.co.cl, .int .i64 y.co.sp, .int .i64 y.co.op, .string (ba y.co.lt), .int .i64 y.co.a, .int .i64 y.co.b, .string (ba y.co.tx), .int .u32 (y.ms : Int)] _ HRx.out Tryd.underlying43 rfl (by kernel_rfl) ?_)
                | (refine wpList_load_mid rfl 40 (.tmp 33) rfl wr.heap.size 0 rfl [.int .i64 y.co.cl, .int .i64 y.co.sp, .int .i64 y.co.op, .string (ba y.co.lt), .int .i64 y.co.a, .int .i64 y.co.b, .string (ba y.co.tx)] _ HC.out Tryd.underlying40 rfl (by kernel_rfl) ?_)
                | (go_at_call 25; (with_reducible refine (HCk.out _).mono ?_); rintro e w2 ⟨rfl, hb2⟩; have HX2 := Lib.hid (below_step HXa.out hb2); have HB2 := Lib.hid (HB.out.through hb2); have c0 := HB2.out.cellAt (i := 0) rfl; have c7 := HB2.out.cellAt (i := 7) rfl; have hx0 : w2.cell? ⟨g, o + j * 8, none⟩ = some (.int .i64 x.co.cl) := rangeAt.through (rangeAt.through HRp.out ((Below.refl _ wr).alloc (Nat.le_refl _) (.cells #[.int .i64 y.co.cl, .int .i64 y.co.sp, .int .i64 y.co.op, .string (ba y.co.lt), .int .i64 y.co.a, .int .i64 y.co.b, .string (ba y.co.tx), .int .u32 (y.ms : Int)] 43))) hb2 0 _ rfl; clear hb2))
              go_quiet (fail)
              go_wp2
              go_ret
              exact ⟨ret_i HP.out.symm, below_drewN HX2.out _⟩
            case neg =>
              have d6 : decide (y.co.cl ≤ x.co.cl) = false := by simpa using hc
              have HP : Hid (bb = chkW (m : Int) (some y.co.cl) (es.drop (j + 1 + 1))) := Lib.hid (by rw [hp, hla, chk1_ok (n := (m : Int)) hm hc]; rfl)
              have d5 : decide ((2 : Int) ^ m ≤ (y.ms : Int)) = false := by simp; have := Nat.lt_of_not_le hm; exact_mod_cast this
              clear hp he hm hla hc
              go_wp2_with (first
                | (refine wpList_load_mid rfl 43 (.tmp 31) rfl g (o + (j + 1) * 8) rfl [.int .i64 y.co.cl, .int .i64 y.co.sp, .int .i64 y.co.op, .string (ba y.co.lt), .int .i64 y.co.a, .int .i64 y.co.b, .string (ba y.co.tx), .int .u32 (y.ms : Int)] _ HRx.out Tryd.underlying43 rfl (by kernel_rfl) ?_)
                | (refine wpList_load_mid rfl 40 (.tmp 33) rfl wr.heap.size 0 rfl [.int .i64 y.co.cl, .int .i64 y.co.sp, .int .i64 y.co.op, .string (ba y.co.lt), .int .i64 y.co.a, .int .i64 y.co.b, .string (ba y.co.tx)] _ HC.out Tryd.underlying40 rfl (by kernel_rfl) ?_)
                | (go_at_call 25; (with_reducible refine (HCk.out _).mono ?_); rintro e w2 ⟨rfl, hb2⟩; have HX2 := Lib.hid (below_step HXa.out hb2); have HB2 := Lib.hid (HB.out.through hb2); have c0 := HB2.out.cellAt (i := 0) rfl; have c7 := HB2.out.cellAt (i := 7) rfl; have hx0 : w2.cell? ⟨g, o + j * 8, none⟩ = some (.int .i64 x.co.cl) := rangeAt.through (rangeAt.through HRp.out ((Below.refl _ wr).alloc (Nat.le_refl _) (.cells #[.int .i64 y.co.cl, .int .i64 y.co.sp, .int .i64 y.co.op, .string (ba y.co.lt), .int .i64 y.co.a, .int .i64 y.co.b, .string (ba y.co.tx), .int .u32 (y.ms : Int)] 43))) hb2 0 _ rfl; clear hb2))
              go_quiet (fail)
              go_wp2
              go_roundw
              case rel => exact ⟨j + 1 + 1, by omega, by go_num, by rw [HTk.out]; exact HP.out, below_drewN HX2.out _⟩
              case measure => simp [intOf]; omega
        · have e : es.drop i = [] := List.drop_of_length_le (by have := HLn.out; omega)
          rw [e] at hp
          have HP : Hid (bb = 0) := Lib.hid hp
          clear hp e
          go_wp2
          go_ret
          exact ⟨ret_i HP.out.symm, HX.out⟩
end

end Go.Proofs.YtgbobemhogeeeaaDoor
