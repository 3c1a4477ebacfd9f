/-
  BaM VoP ChP VoD
-/
import Derived.BigQuiet
import Derived.Test.YtheecifgbkdecaaSM9
import Derived.Test.YtheecifgbkdecaaSM10
import Derived.Test.YtheecifgbkdecaaSM7
namespace Go.Proofs.Ytheecifgbkdecaa
open Go.RowKit

def Ey.cells (y : Ey) : List Value := [.int .i64 y.co.cl, .int .i64 y.co.sp, .int .i64 y.co.op, .string (ba y.co.lt), .int .i64 y.co.a, .int .i64 y.co.b, .string (ba y.co.tx), .int .u32 (y.ms : Int)]
theorem Try.el_ey : El Try.prog 53 61 8 80 (.agg #[.int .i64 0, .int .i64 0, .int .i64 0, .string ⟨#[]⟩, .int .i64 0, .int .i64 0, .string ⟨#[]⟩, .int .u32 0]) := ⟨Try.underlying53, by kernel_rfl, rfl, by omega, by omega, by omega⟩
theorem Try.ix_ey (W : World) (g o n c j : Nat) (hj : j < n) : (Instr.indexAt 53 (.slice (some ⟨g, o, none⟩) n c) (.int .i64 (j : Int))).run Try.prog W = .ok (.pointer (some ⟨g, o + j * 8, none⟩)) W := Try.el_ey.index (by kernel_rfl) W g o n c j hj
theorem Blk.front {w : World} {g : Nat} {t : TypeId} {cs post : List Value} (h : Blk w g t (cs ++ post)) : w.rangeAt g 0 cs := Blk.range (pre := []) (post := post) (by simpa using h)
/-- Entries, as they lie in memory. -/
def EysIn (w : World) (E : Option Addr) (k : Nat) (es : List Ey) : Prop := Sl w 8 E k (es.map Ey.cells) ∧ ∀ y ∈ es, y.ms < 4294967296
section
variable {w w' : World} {E : Option Addr} {k : Nat} {es : List Ey}
theorem EysIn.through (h : EysIn w E k es) (hb : Below w.heap.size w w') : EysIn w' E k es := ⟨h.1.through hb, h.2⟩
theorem EysIn.alloc (h : EysIn w E k es) (o : Obj) : EysIn (w.alloc o) E k es := ⟨h.1.alloc o, h.2⟩
theorem EysIn.drewN (h : EysIn w E k es) (m : Nat) : EysIn (w.drewN m) E k es := h
theorem EysIn.none_ : EysIn w none 0 [] := ⟨Sl.none_, fun _ h => nomatch h⟩
theorem EysIn.len (h : EysIn w E k es) : es.length = k := by simpa using h.1.len
theorem EysIn.at (h : EysIn w E k es) {i : Nat} (hi : i < k) : ∃ g o y, E = some ⟨g, o, none⟩ ∧ es[i]? = some y ∧ y ∈ es ∧ es.drop i = y :: es.drop (i + 1) ∧ w.rangeAt g (o + i * 8) y.cells := by
 obtain ⟨g, o, cs, e, h1, _, _, h4⟩ := h.1.at hi
 have hl : i < es.length := by rw [h.len]; exact hi
 rw [List.getElem?_map, List.getElem?_eq_getElem hl] at h1
 simp only [Option.map_some, Option.some.injEq] at h1
 subst h1
 exact ⟨g, o, es[i], e, List.getElem?_eq_getElem hl, List.getElem_mem hl, List.drop_eq_getElem_cons hl, h4⟩
theorem EysIn.range {g o : Nat} (h : EysIn w (some ⟨g, o, none⟩) k es) {j : Nat} {y : Ey} (hy : es[j]? = some y) : w.rangeAt g (o + j * 8) y.cells := by
 have hj : j < k := by
  have h1 := (List.getElem?_eq_some_iff.1 hy).1
  have h2 := h.len
  omega
 obtain ⟨g', o', y', e, h1, _, _, h2⟩ := h.at hj
 simp only [Option.some.injEq, Addr.mk.injEq] at e
 obtain ⟨rfl, rfl, _⟩ := e
 rw [hy] at h1
 obtain rfl := Option.some.inj h1
 exact h2
theorem EysIn.take (h : EysIn w E k es) {i : Nat} (hi : i ≤ k) : EysIn w E i (es.take i) := by
 refine ⟨⟨by simp [h.len, hi], fun h0 => ?_⟩, fun y hy => h.2 y (List.mem_of_mem_take hy)⟩
 obtain ⟨g, o, e, hc⟩ := h.1.2 (by omega)
 refine ⟨g, o, e, fun j cs hj => hc j cs ?_⟩
 rw [List.map_take, List.getElem?_take] at hj
 split at hj
 ·exact hj
 ·cases hj
end
/-- Entries that a call makes: its memory from B on. -/
def OEy (w : World) (B : Nat) (v : Value) (es : List Ey) : Prop := Os w B 61 8 v (es.map Ey.cells) ∧ ∀ y ∈ es, y.ms < 4294967296
theorem OEy.nil (w : World) (B : Nat) : OEy w B (.slice none 0 0) [] := ⟨Os.nil w B 61 8, fun _ h => nomatch h⟩
theorem OEy.out {w : World} {B : Nat} {v : Value} {es : List Ey} (h : OEy w B v es) : ∃ A n c, v = .slice A n c ∧ n ≤ c ∧ c ≤ maxLen ∧ EysIn w A n es ∧ ∀ a, A = some a → B ≤ a.block ∧ a.block < w.heap.size := by
 obtain ⟨A, c, rfl, h1, h2, h3⟩ := h.1.out
 refine ⟨A, _, c, rfl, h1, h2, ⟨h3, h.2⟩, fun a ha => ?_⟩
 subst ha
 exact h.1.lt a.block rfl
theorem Ey.one (y : Ey) : ∀ u ∈ y.cells, u.oneCell' = true := fun u hu => by
 simp [Ey.cells] at hu
 rcases hu with rfl | rfl | rfl | rfl | rfl | rfl | rfl | rfl <;> rfl
theorem OEy.snoc {w : World} {B : Nat} {v : Value} {es : List Ey} {y : Ey} (h : Os w B 61 8 v (es.map Ey.cells ++ [y.cells])) (hm : ∀ z ∈ es, z.ms < 4294967296) (hy : y.ms < 4294967296) : OEy w B v (es ++ [y]) :=
 ⟨by simpa using h, fun z hz => (List.mem_append.1 hz).elim (hm z) fun h9 => by rw [List.mem_singleton.1 h9]; exact hy⟩
theorem ey_beq (x y : Ey) : ((x.ms : Int) == (y.ms : Int)) = (x.ms == y.ms) := by
 by_cases h : x.ms = y.ms
 ·simp [h]
 ·have h2 : ¬ (x.ms : Int) = (y.ms : Int) := by omega
  rw [beq_eq_false_iff_ne.2 h, beq_eq_false_iff_ne.2 h2]
set_option maxHeartbeats 4000000 in
theorem eq_ey (x y : Ey) (w : World) : (binOp .eql 61 (.agg #[.int .i64 x.co.cl, .int .i64 x.co.sp, .int .i64 x.co.op, .string (ba x.co.lt), .int .i64 x.co.a, .int .i64 x.co.b, .string (ba x.co.tx), .int .u32 (x.ms : Int)]) (.agg #[.int .i64 y.co.cl, .int .i64 y.co.sp, .int .i64 y.co.op, .string (ba y.co.lt), .int .i64 y.co.a, .int .i64 y.co.b, .string (ba y.co.tx), .int .u32 (y.ms : Int)])).run Try.prog w = .ok (.bool (x.eqb y)) w := by
 unfold Ey.eqb Cr.eqb
 have hm := ey_beq x y
 cases h0 : (x.co.cl == y.co.cl) with
 | false => simp [go_sem, eqb_ba, h0]
 | true =>
  cases h1 : (x.co.sp == y.co.sp) with
  | false => simp [go_sem, eqb_ba, h0, h1]
  | true =>
   cases h2 : (x.co.op == y.co.op) with
   | false => simp [go_sem, eqb_ba, h0, h1, h2]
   | true =>
    cases h3 : (x.co.lt == y.co.lt) with
    | false => simp [go_sem, eqb_ba, h0, h1, h2, h3]
    | true =>
     cases h4 : (x.co.a == y.co.a) with
     | false => simp [go_sem, eqb_ba, h0, h1, h2, h3, h4]
     | true =>
      cases h5 : (x.co.b == y.co.b) with
      | false => simp [go_sem, eqb_ba, h0, h1, h2, h3, h4, h5]
      | true =>
       cases h6 : (x.co.tx == y.co.tx) with
       | false => simp [go_sem, eqb_ba, h0, h1, h2, h3, h4, h5, h6]
       | true =>
        rw [← hm]
        cases h7 : ((x.ms : Int) == (y.ms : Int)) <;> simp at h7 <;> simp [go_sem, eqb_ba, h0, h1, h2, h3, h4, h5, h6, h7]
theorem neq_ey (x y : Ey) (w : World) : (binOp .neq 61 (.agg #[.int .i64 x.co.cl, .int .i64 x.co.sp, .int .i64 x.co.op, .string (ba x.co.lt), .int .i64 x.co.a, .int .i64 x.co.b, .string (ba x.co.tx), .int .u32 (x.ms : Int)]) (.agg #[.int .i64 y.co.cl, .int .i64 y.co.sp, .int .i64 y.co.op, .string (ba y.co.lt), .int .i64 y.co.a, .int .i64 y.co.b, .string (ba y.co.tx), .int .u32 (y.ms : Int)])).run Try.prog w = .ok (.bool (!(x.eqb y))) w := arr_neq (fun w => eq_ey x y w) w

end Go.Proofs.Ytheecifgbkdecaa

namespace Go.Proofs.Ytheecifgbkdecaa
open Go.RowKit

/-- may it be a view, or a sequence number? -/
def isW (v : Int) : Bool := decide (0 ≤ v) && decide (v ≤ 1048576)
def badN (n : Int) : Bool := decide (n < 1) || decide (7 < n)
def In64 (v : Int) : Prop := -9223372036854775808 ≤ v ∧ v ≤ 9223372036854775807

structure Vo where
 vw : Int
 sq : Int
 dg : List UInt8
def Vo.no : Vo := ⟨0, 0, List.replicate 32 0⟩
structure Vu where
 cl : Int
 sp : Int
 dg : List UInt8
 ms : Nat
def Vu.no : Vu := ⟨0, 0, List.replicate 32 0, 0⟩
structure Re where
 vw : Int
 cl : Int
 sp : Int
 rs : Int
def Re.no : Re := ⟨0, 0, 0, 0⟩
structure Pr where
 vw : Int
 sq : Int
 es : List Ey
def Pr.no : Pr := ⟨0, 0, []⟩
theorem n8_front (v : Int) (h : In64 v) (ys : List UInt8) : sx 8 (nval 8 (some (beB (u64N v) 8 ++ ys))) = v ∧ nnext 8 (some (beB (u64N v) 8 ++ ys)) = some ys := by
 obtain ⟨a, b⟩ := n_front (u64N_lt v) ys
 exact ⟨by rw [a]; exact sx_u64N h.1 h.2, b⟩
theorem t32_front {d : List UInt8} (h : d.length = 32) (ys : List UInt8) : tval 32 (some (d ++ ys)) = d ∧ nnext 32 (some (d ++ ys)) = some ys := by
 have h9 := t_front d ys
 rw [h] at h9
 exact h9
end Go.Proofs.Ytheecifgbkdecaa

namespace Go.Proofs.Ytheecifgbkdecaa
open Go.RowKit

structure Po where
  sq : Int
  dg : List UInt8
structure Pf where
  sq : Int
  vw : Int
  es : List Ey
structure Ch where
  vw : Int
  lw : Int
  po : List Po
  pp : List Pf
  pd : List Pf
def Ch.no : Ch := ⟨0, 0, [], [], []⟩
def encPo (p : Po) : List UInt8 := beB (u64N p.sq) 8 ++ p.dg
def encPf (p : Pf) : List UInt8 := beB (u64N p.sq) 8 ++ (beB (u64N p.vw) 8 ++ rowB (encB p.es))
def encPos (l : List Po) : List UInt8 := beB l.length 2 ++ encAll encPo l
def encPfs (l : List Pf) : List UInt8 := beB l.length 2 ++ encAll encPf l
def encCh (c : Ch) : List UInt8 := beB (u64N c.vw) 8 ++ (beB (u64N c.lw) 8 ++ (encPos c.po ++ (encPfs c.pp ++ encPfs c.pd)))

/-- a sequence number that 4 divides -/
def markB (s : Int) : Bool := isW s && decide (s % 4 = 0)
/-- may a proof stand in a change of this view and mark? -/
def prfB (vw lw n : Int) (p : Pf) : Bool := decide (lw < p.sq) && decide (p.sq ≤ lw + 8) && decide (0 ≤ p.vw) && decide (p.vw < vw) && decide (chkB p.es n = 0)
def poB : Option Int → List Po → Bool
  | _, [] => true
  | q, p :: ps => markB p.sq && (match q with | some s => decide (s < p.sq) | none => true) && poB (some p.sq) ps
def ppB (vw lw n : Int) : Option Int → List Pf → Bool
  | _, [] => true
  | q, p :: ps => prfB vw lw n p && (match q with | some s => decide (s < p.sq) | none => true) && ppB vw lw n (some p.sq) ps
def pdB (vw lw n : Int) : Option (Int × Int) → List Pf → Bool
  | _, [] => true
  | q, p :: ps => prfB vw lw n p && (match q with | some (s, v) => decide (s < p.sq) || (decide (s = p.sq) && decide (v < p.vw)) | none => true) && pdB vw lw n (some (p.sq, p.vw)) ps
/-- the head of what is asked: all but the rows -/
def headB (c : Ch) : Bool := decide (1 ≤ c.vw) && isW c.vw && markB c.lw && decide (1 ≤ c.po.length) && decide (c.po.length ≤ 4) && (match c.po with | [] => false | p :: _ => decide (p.sq = c.lw)) && decide (c.pp.length ≤ 8) && decide (c.pd.length ≤ 64)
def rightB (c : Ch) (n : Int) : Bool := headB c && poB none c.po && ppB c.vw c.lw n none c.pp && pdB c.vw c.lw n none c.pd
def chkCh (c : Ch) (n : Int) : Int := if badN n = true then 1 else if rightB c n = true then 0 else 2

def rdPo (st : Option (List UInt8)) : Po × Option (List UInt8) := (⟨sx 8 (nval 8 st), tagOf (tval 32 (nnext 8 st))⟩, nnext 32 (nnext 8 st))
/-- entries out of a row: whether they are of a form, too -/
def rdRow (row : List UInt8) : List Ey × Bool :=
  ((docR 1048576 (nval 2 (some row)) true [] (nnext 2 (some row))).1, (docR 1048576 (nval 2 (some row)) true [] (nnext 2 (some row))).2.1 && decide ((docR 1048576 (nval 2 (some row)) true [] (nnext 2 (some row))).2.2 = some []))
def rdPf (st : Option (List UInt8)) : (Pf × Bool) × Option (List UInt8) :=
  ((⟨sx 8 (nval 8 st), sx 8 (nval 8 (nnext 8 st)), (rdRow (rval 1048576 (nnext 8 (nnext 8 st)))).1⟩, (rdRow (rval 1048576 (nnext 8 (nnext 8 st)))).2), rnext 1048576 (nnext 8 (nnext 8 st)))
def rdPfs (most : Nat) (st : Option (List UInt8)) : List (Pf × Bool) × Option (List UInt8) := rdMany rdPf (cval most st) (cnext most st)
def rdPos (st : Option (List UInt8)) : List Po × Option (List UInt8) := rdMany rdPo (cval 4 st) (cnext 4 st)
/-- a reader's way through a change: the change, whether the rows were of a form, what is left -/
def rdCh (st : Option (List UInt8)) : Ch × Bool × Option (List UInt8) :=
  (⟨sx 8 (nval 8 st), sx 8 (nval 8 (nnext 8 st)), (rdPos (nnext 8 (nnext 8 st))).1, (rdPfs 8 (rdPos (nnext 8 (nnext 8 st))).2).1.map (·.1), (rdPfs 64 (rdPfs 8 (rdPos (nnext 8 (nnext 8 st))).2).2).1.map (·.1)⟩,
   (rdPfs 8 (rdPos (nnext 8 (nnext 8 st))).2).1.all (·.2) && (rdPfs 64 (rdPfs 8 (rdPos (nnext 8 (nnext 8 st))).2).2).1.all (·.2),
   (rdPfs 64 (rdPfs 8 (rdPos (nnext 8 (nnext 8 st))).2).2).2)
def finCh (r : Ch × Bool × Option (List UInt8)) (n : Int) : Ch × Int := if r.2.2 = some [] ∧ r.2.1 = true ∧ rightB r.1 n = true then (r.1, 0) else (Ch.no, 2)
def parseCh (xs : List UInt8) (n : Int) : Ch × Int := if badN n = true then (Ch.no, 1) else finCh (rdCh (some xs)) n

/-- what a change must be, to be told by its bytes -/
def Po.Fit (p : Po) : Prop := In64 p.sq ∧ p.dg.length = 32
def Pf.Fit (n : Int) (p : Pf) : Prop := In64 p.sq ∧ In64 p.vw ∧ chkB p.es n = 0 ∧ (∀ y ∈ p.es, y.In) ∧ (encB p.es).length ≤ 1048576
theorem rdPo_front (p : Po) (ys : List UInt8) (h : p.Fit) : rdPo (some (encPo p ++ ys)) = (p, some ys) := by
  obtain ⟨sq, dg⟩ := p
  obtain ⟨h1, hd⟩ := h
  simp only at h1 hd
  unfold rdPo encPo
  simp only [List.append_assoc]
  obtain ⟨a1, a2⟩ := n8_front sq h1 (dg ++ ys)
  obtain ⟨b1, b2⟩ := t32_front hd ys
  rw [a1, a2, b1, b2]
  unfold tagOf
  rw [if_pos hd]
theorem rdRow_enc {es : List Ey} {n : Int} (hc : chkB es n = 0) (hi : ∀ y ∈ es, y.In) : rdRow (encB es) = (es, true) := by
  have h9 := parseB_back (m := 1048576) (by omega) (by omega) hc hi
  unfold parseB finB at h9
  unfold rdRow
  generalize docR 1048576 (nval 2 (some (encB es))) true [] (nnext 2 (some (encB es))) = R at *
  obtain ⟨o, b, s⟩ := R
  simp only at h9 ⊢
  by_cases hh : s = some [] ∧ b = true
  · rw [if_pos hh] at h9
    by_cases h2 : chkB o n = 0
    · rw [if_pos h2] at h9
      obtain ⟨rfl, rfl⟩ := hh
      rw [(Prod.mk.inj h9).1]
      rfl
    · rw [if_neg h2] at h9
      exact absurd (Prod.mk.inj h9).2 h2
  · rw [if_neg hh] at h9
    exact absurd (Prod.mk.inj h9).2 (by decide)
theorem rdPf_front {n : Int} (p : Pf) (ys : List UInt8) (h : p.Fit n) : rdPf (some (encPf p ++ ys)) = ((p, true), some ys) := by
  obtain ⟨sq, vw, es⟩ := p
  obtain ⟨h1, h2, hc, hi, hl⟩ := h
  simp only at h1 h2 hc hi hl
  unfold rdPf encPf
  simp only [List.append_assoc]
  obtain ⟨a1, a2⟩ := n8_front sq h1 (beB (u64N vw) 8 ++ (rowB (encB es) ++ ys))
  obtain ⟨b1, b2⟩ := n8_front vw h2 (rowB (encB es) ++ ys)
  obtain ⟨c1, c2⟩ := r_front hl (by omega) ys
  rw [a1, a2, b1, b2, c1, c2, rdRow_enc hc hi]
theorem rdPfs_front {n : Int} {most : Nat} (l : List Pf) (ys : List UInt8) (h : ∀ p ∈ l, p.Fit n) (hl : l.length ≤ most) (hm : most < 65536) : rdPfs most (some (encPfs l ++ ys)) = (l.map (fun p => (p, true)), some ys) := by
  unfold rdPfs encPfs
  rw [List.append_assoc]
  obtain ⟨a1, a2⟩ := c_front hl hm (encAll encPf l ++ ys)
  rw [a1, a2]
  have h9 := rdMany_front (rd := rdPf) (f := fun q : Pf × Bool => encPf q.1) (ok := fun q => q.1.Fit n ∧ q.2 = true) (fun q ys hq => by
    obtain ⟨p, b⟩ := q
    obtain ⟨hq1, hq2⟩ := hq
    simp only at hq1 hq2
    rw [rdPf_front p ys hq1, hq2]) (l.map (fun p => (p, true))) ys (fun q hq => by
    obtain ⟨p, hp, rfl⟩ := List.mem_map.1 hq
    exact ⟨h p hp, rfl⟩)
  have e : ∀ l : List Pf, encAll (fun q : Pf × Bool => encPf q.1) (l.map (fun p => (p, true))) = encAll encPf l := fun l => by
    induction l with
    | nil => rfl
    | cons p l ih => simp only [List.map_cons, encAll]; rw [ih]
  rw [e, List.length_map] at h9
  exact h9
theorem rdPos_front (l : List Po) (ys : List UInt8) (h : ∀ p ∈ l, p.Fit) (hl : l.length ≤ 4) : rdPos (some (encPos l ++ ys)) = (l, some ys) := by
  unfold rdPos encPos
  rw [List.append_assoc]
  obtain ⟨a1, a2⟩ := c_front (most := 4) hl (by omega) (encAll encPo l ++ ys)
  rw [a1, a2]
  exact rdMany_front (rd := rdPo) (f := encPo) (ok := Po.Fit) (fun p ys hp => rdPo_front p ys hp) l ys h
/-- a change that may be is told by its bytes -/
theorem parseCh_enc {n : Int} (c : Ch) (hn : badN n = false) (h : rightB c n = true) (h1 : In64 c.vw) (h2 : In64 c.lw) (ho : ∀ p ∈ c.po, p.Fit) (hp : ∀ p ∈ c.pp, p.Fit n) (hd : ∀ p ∈ c.pd, p.Fit n) : parseCh (encCh c) n = (c, 0) := by
  have hh : headB c = true := by unfold rightB at h; simp at h; exact h.1.1.1
  have hlen : c.po.length ≤ 4 ∧ c.pp.length ≤ 8 ∧ c.pd.length ≤ 64 := by
    unfold headB at hh
    simp only [Bool.and_eq_true, decide_eq_true_eq] at hh
    exact ⟨hh.1.1.1.2, hh.1.2, hh.2⟩
  obtain ⟨vw, lw, po, pp, pd⟩ := c
  simp only at h1 h2 ho hp hd hlen
  have hr : rdCh (some (encCh ⟨vw, lw, po, pp, pd⟩)) = (⟨vw, lw, po, pp, pd⟩, true, some []) := by
    unfold rdCh encCh
    simp only
    obtain ⟨a1, a2⟩ := n8_front vw h1 (beB (u64N lw) 8 ++ (encPos po ++ (encPfs pp ++ encPfs pd)))
    obtain ⟨b1, b2⟩ := n8_front lw h2 (encPos po ++ (encPfs pp ++ encPfs pd))
    have c1 := rdPos_front po (encPfs pp ++ encPfs pd) ho hlen.1
    have d1 := rdPfs_front (n := n) (most := 8) pp (encPfs pd) hp hlen.2.1 (by omega)
    have e1 := rdPfs_front (n := n) (most := 64) pd [] hd hlen.2.2 (by omega)
    rw [List.append_nil] at e1
    rw [a1, a2, b1, b2, c1, d1, e1]
    have e : ∀ l : List Pf, (l.map (fun p => (p, true))).map (·.1) = l := fun l => by rw [List.map_map]; exact List.map_id' l
    simp only [e]
    have e' : ∀ l : List Pf, (l.map (fun p => (p, true))).all (·.2) = true := fun l => by simp
    rw [e', e']
    rfl
  unfold parseCh finCh
  rw [hn, if_neg (by simp), hr, if_pos ⟨rfl, rfl, h⟩]

end Go.Proofs.Ytheecifgbkdecaa

namespace Go.Proofs.Ytheecifgbkdecaa
open Go.RowKit

theorem ret_bo {b c : Bool} (h : b = c) : Ending.returned (.bool b) = Ending.returned (.bool c) := by rw [h]

set_option maxHeartbeats 1000000 in
theorem rview_any (v : Int) (w : World) : Calls Try.prog 64 #[.int .i64 v] w fun e w' => e = .returned (.bool (isW v)) ∧ w' = w := by
 unfold isW
 by_cases h1 : 0 ≤ v
 ·have d1 : decide (0 ≤ v) = true := by simpa using h1
  go_enter Try.func64, Try.ntmps64
  go_wp2
  go_ret
  exact ⟨ret_bo (by simp [h1]), rfl⟩
 ·have d1 : decide (0 ≤ v) = false := by simpa using h1
  go_enter Try.func64, Try.ntmps64
  go_wp2
  go_ret
  exact ⟨ret_bo (by simp), rfl⟩

set_option maxHeartbeats 1000000 in
theorem rseq_any (v : Int) (w : World) : Calls Try.prog 100 #[.int .i64 v] w fun e w' => e = .returned (.bool (isW v)) ∧ w' = w := by
 unfold isW
 by_cases h1 : 0 ≤ v
 ·have d1 : decide (0 ≤ v) = true := by simpa using h1
  go_enter Try.func100, Try.ntmps100
  go_wp2
  go_ret
  exact ⟨ret_bo (by simp [h1]), rfl⟩
 ·have d1 : decide (0 ≤ v) = false := by simpa using h1
  go_enter Try.func100, Try.ntmps100
  go_wp2
  go_ret
  exact ⟨ret_bo (by simp), rfl⟩

end Go.Proofs.Ytheecifgbkdecaa
