/-
  ClL0 ClW ClBk ChO
-/
import Derived.Test.YtheecifgbkdecaaSN21
import Derived.Test.YtheecifgbkdecaaSN23
import Derived.BigGuard
import Derived.Test.YtheecifgbkdecaaSN19
import Derived.Test.YtheecifgbkdecaaSN11
namespace Go.Proofs.Ytheecifgbkdecaa
open Go.RowKit

def fewE (y : Ey) : Bool := decide (y.co.lt.length ≤ 100) && decide (y.co.tx.length ≤ 300)
def fewP (p : Pf) : Bool := decide (p.es.length ≤ 10) && p.es.all fewE
def fewPs (l : List Pf) : Bool := decide (l.length ≤ 80) && l.all fewP
def fewCh (c : Ch) : Bool := fewPs c.pp && fewPs c.pd && decide (c.po.length ≤ 20)
theorem fewP_low {p : Pf} (h : fewP p = true) : p.es.length ≤ 10 ∧ ∀ y ∈ p.es, y.co.lt.length ≤ 100 ∧ y.co.tx.length ≤ 300 := by
 unfold fewP fewE at h
 simp only [Bool.and_eq_true, decide_eq_true_eq, List.all_eq_true] at h
 exact h
theorem fewCh_low {c : Ch} (h : fewCh c = true) : (c.pp.length ≤ 80 ∧ ∀ p ∈ c.pp, fewP p = true) ∧ (c.pd.length ≤ 80 ∧ ∀ p ∈ c.pd, fewP p = true) ∧ c.po.length ≤ 20 := by
 unfold fewCh fewPs at h
 simp only [Bool.and_eq_true, decide_eq_true_eq, List.all_eq_true] at h
 exact ⟨h.1.1, h.1.2, h.2⟩
theorem encB_len18 {es : List Ey} (h : ∀ y ∈ es, y.co.lt.length ≤ 100 ∧ y.co.tx.length ≤ 300) : (encB es).length ≤ 2 + es.length * 439 := by
 have : (encAll encEy es).length ≤ es.length * 439 := by
  induction es with
  | nil => simp [encAll]
  | cons y es ih =>
   have h1 := h y (List.mem_cons_self ..)
   have h2 := ih (fun z hz => h z (List.mem_cons_of_mem _ hz))
   simp only [encAll, List.length_append, List.length_cons, encEy_len]
   rw [Nat.add_mul, Nat.one_mul]
   omega
 unfold encB
 rw [List.length_append, beB_length]
 omega
theorem encPfs_len {l : List Pf} (hn : l.length ≤ 80) (h : ∀ p ∈ l, fewP p = true) : (encPfs l).length ≤ 354000 := by
 have : ∀ l : List Pf, (∀ p ∈ l, fewP p = true) → (encAll encPf l).length ≤ l.length * 4412 := fun l => by
  induction l with
  | nil => intro _; simp [encAll]
  | cons p l ih =>
   intro h
   have h2 := ih (fun z hz => h z (List.mem_cons_of_mem _ hz))
   obtain ⟨h3, h4⟩ := fewP_low (h p (List.mem_cons_self ..))
   have h5 := encB_len18 h4
   simp only [encAll, List.length_append, List.length_cons, encPf_len]
   rw [Nat.add_mul, Nat.one_mul]
   omega
 have h9 := this l h
 have h8 : l.length * 4412 ≤ 80 * 4412 := Nat.mul_le_mul hn (Nat.le_refl _)
 unfold encPfs
 rw [List.length_append, beB_length]
 omega
theorem encPos_len {l : List Po} (hn : l.length ≤ 20) (h : ∀ p ∈ l, p.dg.length = 32) : (encPos l).length ≤ 900 := by
 have : ∀ l : List Po, (∀ p ∈ l, p.dg.length = 32) → (encAll encPo l).length = l.length * 40 := fun l => by
  induction l with
  | nil => intro _; simp [encAll]
  | cons p l ih =>
   intro h
   have h2 := ih (fun z hz => h z (List.mem_cons_of_mem _ hz))
   have h3 := h p (List.mem_cons_self ..)
   simp only [encAll, List.length_append, List.length_cons, encPo, beB_length, h2, h3]
   omega
 unfold encPos
 rw [List.length_append, beB_length, this l h]
 omega
theorem encCh_len {c : Ch} (h : fewCh c = true) (hd : ∀ p ∈ c.po, p.dg.length = 32) : (encCh c).length ≤ 800000 := by
 obtain ⟨h1, h2, h3⟩ := fewCh_low h
 have a := encPos_len h3 hd
 have b := encPfs_len h1.1 h1.2
 have d := encPfs_len h2.1 h2.2
 unfold encCh
 simp only [List.length_append, beB_length]
 omega
theorem Low.of_few {p : Pf} (h : fewP p = true) : p.Low := by
 obtain ⟨h1, h2⟩ := fewP_low h
 exact ⟨by omega, fun y hy => by have := h2 y hy; omega⟩

theorem one5h (c : Ch) (P Q R : Pl) : (Ch.cells c P Q R).toArray.all (·.oneCell') = true := by simp [Ch.cells, Value.oneCell']

end Go.Proofs.Ytheecifgbkdecaa

namespace Go.Proofs.Ytheecifgbkdecaa
open Go.RowKit

theorem wpList_build_two {P : Program} {ops : Array Oper} {rest : List Oper} {o : Oper} {a : Act} {w : World} {Q : Exit → Act → World → Prop} (hgd : o.guard = none) (s e : TypeId) (x0 x1 : Operand) (ho : o.op = .buildSlice s 2 #[(0, x0), (1, x1)])
  (p0 p1 : Value) (cs : List Value) (h0 : a.eval x0 = p0) (h1 : a.eval x1 = p1)
  (hrun : (Instr.buildSlice s 2 #[(0, p0), (1, p1)]).run P w = .ok (.slice (some ⟨w.heap.size, 0, none⟩) 2 2) (w.alloc (.cells cs.toArray e)))
  (h : ∀ g w', Blk w' g e cs → Below w.heap.size w w' → wpList P ops Q rest (a.put o.dst (.slice (some ⟨g, 0, none⟩) 2 2)) w') : wpList P ops Q (o :: rest) a w :=
 wpList_plain hgd fun K hK => by
  unfold Oper.wp execOp
  simp only [ho, Sem.run_bind, List.map_toArray, List.map_cons, List.map_nil, h0, h1, hrun, Result.andThen_ok]
  exact hK _ _ (h _ _ (Blk.fresh rfl rfl) ((Below.refl _ w).alloc (Nat.le_refl _) _))

theorem Try.run_bpfs2 (A : Option Addr) (n c : Nat) (B : Option Addr) (m d : Nat) (w : World) : (Instr.buildSlice 56 2 #[(0, .slice A n c), (1, .slice B m d)]).run Try.prog w = .ok (.slice (some ⟨w.heap.size, 0, none⟩) 2 2) (w.alloc (.cells [.slice A n c, .slice B m d].toArray 23)) := by kernel_rfl
theorem Try.ix_pfss0 (W : World) (g : Nat) : (Instr.indexAt 56 (.slice (some ⟨g, 0, none⟩) 2 2) (.int .i64 0)).run Try.prog W = .ok (.pointer (some ⟨g, 0, none⟩)) W := by kernel_rfl
theorem Try.ix_pfss1 (W : World) (g : Nat) : (Instr.indexAt 56 (.slice (some ⟨g, 0, none⟩) 2 2) (.int .i64 1)).run Try.prog W = .ok (.pointer (some ⟨g, 1, none⟩)) W := by kernel_rfl
/-- the rows of which the law asks -/
def rowsOf (c : Ch) (Q R : Pl) : List (Pl × List Pf) := [(Q, c.pp), (R, c.pd)]
def fewRs (l : List (Pl × List Pf)) : Bool := l.all (fun x => fewPs x.2)

end Go.Proofs.Ytheecifgbkdecaa

namespace Go.Proofs.Ytheecifgbkdecaa
open Go.RowKit
theorem step_convw {P : Program} {ops : Array Oper} {o : Oper} {a : Act} {w : World} {K : Act → World → Prop} {Q : Exit → Act → World → Prop} {E : Prop} (hw : Region.wanted o (yielded ops a.tmps) = true) (src dst : TypeId) (x : Operand) (ho : o.op = .convert src dst x)
  (p v : Value) (hx : a.eval x = p) (hrun : (convert src dst p).run P w = .ok v w) (h : K (a.put o.dst v) w) : if Region.wanted o (yielded ops a.tmps) = true then Oper.wp P o a w K Q else E := by
 rw [if_pos hw]
 unfold Oper.wp execOp
 simp only [ho, hx, Sem.run_bind, hrun, Result.andThen_ok]
 exact h

/-- what a change's reading gives of its numbers -/
def Ch.InR (c : Ch) : Prop := In64 c.vw ∧ In64 c.lw ∧ (∀ p ∈ c.po, In64 p.sq) ∧ (∀ p ∈ c.pp, In64 p.sq ∧ In64 p.vw ∧ ∀ y ∈ p.es, y.In) ∧ ∀ p ∈ c.pd, In64 p.sq ∧ In64 p.vw ∧ ∀ y ∈ p.es, y.In
theorem ppB_all {vw lw n : Int} : ∀ {q : Option Int} {l : List Pf}, ppB vw lw n q l = true → ∀ p ∈ l, prfB vw lw n p = true
 | _, [], _, p, hp => by cases hp
 | q, x :: l, h, p, hp => by
  unfold ppB at h
  simp only [Bool.and_eq_true] at h
  rcases List.mem_cons.1 hp with rfl | hp
  ·exact h.1.1
  ·exact ppB_all h.2 p hp
theorem pdB_all {vw lw n : Int} : ∀ {q : Option (Int × Int)} {l : List Pf}, pdB vw lw n q l = true → ∀ p ∈ l, prfB vw lw n p = true
 | _, [], _, p, hp => by cases hp
 | q, x :: l, h, p, hp => by
  unfold pdB at h
  simp only [Bool.and_eq_true] at h
  rcases List.mem_cons.1 hp with rfl | hp
  ·exact h.1.1
  ·exact pdB_all h.2 p hp
theorem prfB_chk {vw lw n : Int} {p : Pf} (h : prfB vw lw n p = true) : chkB p.es n = 0 := by
 unfold prfB at h
 simp only [Bool.and_eq_true, decide_eq_true_eq] at h
 exact h.2
/-- a change that may be is told by its bytes -/
theorem parse18_back {c : Ch} {N : Int} (hf : fewCh c = true) (hi : c.InR) (hd : ∀ p ∈ c.po, p.dg.length = 32) (h : chkCh c N = 0) : parseCh (encCh c) N = (c, 0) := by
 unfold chkCh at h
 by_cases hb : badN N = true
 ·rw [if_pos hb] at h; exact absurd h (by decide)
 ·rw [if_neg hb] at h
  by_cases hr : rightB c N = true
  ·obtain ⟨h1, h2, _⟩ := fewCh_low hf
   have hr2 := hr
   unfold rightB at hr2
   simp only [Bool.and_eq_true] at hr2
   have lo : ∀ p : Pf, fewP p = true → (encB p.es).length ≤ 1048576 := fun p hp => by
    obtain ⟨h3, h4⟩ := fewP_low hp
    have h5 := encB_len18 h4
    have h6 : p.es.length * 439 ≤ 10 * 439 := Nat.mul_le_mul h3 (Nat.le_refl _)
    omega
   refine parseCh_enc c (by simpa using hb) hr hi.1 hi.2.1 (fun p hp => ⟨hi.2.2.1 p hp, hd p hp⟩) (fun p hp => ?_) (fun p hp => ?_)
   ·obtain ⟨a, b, d⟩ := hi.2.2.2.1 p hp
    exact ⟨a, b, prfB_chk (ppB_all hr2.1.2 p hp), d, lo p (h1.2 p hp)⟩
   ·obtain ⟨a, b, d⟩ := hi.2.2.2.2 p hp
    exact ⟨a, b, prfB_chk (pdB_all hr2.2 p hp), d, lo p (h2.2 p hp)⟩
  ·rw [if_neg hr] at h; exact absurd h (by decide)

end Go.Proofs.Ytheecifgbkdecaa

namespace Go.Proofs.Ytheecifgbkdecaa
open Go.ChangeShapes Go.WideShapes Go.ChangeAt Go.RowKit Go.Deep

/-- the byte in a cell -/
def cellByte18 : Value → UInt8
 | .int _ a => UInt8.ofNat a.toNat
 | _ => 0
set_option maxRecDepth 100000 in
theorem dig_of_trod {H : Type} {enc : TypeId × Value → H} {W : World} {base : Nat} {spare : Nat → Bool} {held : Bool} {fuel : Nat} {cs : List Value} {x : DataW H × List MemPlace}
  (hf : DataW.trod enc Try.prog W base spare held fuel 40 cs = some x) : ∃ tg : List UInt8, tg.length = 32 ∧ cs = vs tg := by
 obtain ⟨xs, m, rfl, _, hl, hn, hi⟩ := DataW.trod_array Try.underlying40 hf
 rw [Try.cells_u8] at hi
 have hcs : cs.length = 32 := by
  have e : Try.prog.cellsOf 40 = 32 := by kernel_rfl
  rw [e] at hl
  exact hl
 have hcell : ∀ i (h : i < cs.length), ∃ a, cs[i] = .int .u8 a ∧ 0 ≤ a ∧ a ≤ 255 := fun i h => by
  have h32 : i < 32 := by omega
  have hx := hi i h32
  have hx2 : i < xs.length := by omega
  rw [List.getElem?_eq_getElem hx2] at hx
  obtain ⟨a, ea, _, wa⟩ := DataW.trod_int Try.underlying5 hx
  have e2 : (cs.drop (i * 1)).take 1 = [cs[i]] := by
   rw [Nat.mul_one, List.drop_eq_getElem_cons h]
   rfl
  rw [e2] at ea
  exact ⟨a, by simpa using ea, by simpa [Lit.wf, IntKind.min, IntKind.max, IntKind.signed, IntKind.bits] using wa⟩
 refine ⟨cs.map cellByte18, by rw [List.length_map]; exact hcs, ?_⟩
 refine (List.ext_getElem (by simp [vs]) fun i h1 h2 => ?_).symm
 obtain ⟨a, ea, a0, a1⟩ := hcell i h2
 simp only [vs, List.getElem_map, ea, cellByte18, u8]
 congr 1
 rw [UInt8.toNat_ofNat']
 omega
theorem sl_of {W : World} {k len : Nat} {a : Addr} (z : Nat → List Value) (hpos : 0 < k) (hk : ∀ i, i < len → (z i).length = k) (h : ∀ i, i < len → W.cells? 0 (a.add (i * k)) k = some (z i)) : Sl W k (some a) len ((List.range len).map z) := by
 refine ⟨by simp, fun hn => ?_⟩
 have hcell : ∀ i, i < len → ∀ j v, (z i)[j]? = some v → W.cell? ((a.add (i * k)).add j) = some v := fun i hi j v hv => by
  obtain ⟨_, hlen', hc⟩ := World.cells?_some (h i hi)
  have hj : j < k := by
   have := (List.getElem?_eq_some_iff.1 hv).1
   rw [hk i hi] at this
   exact this
  rw [hc j hj]
  exact hv
 obtain ⟨b, o, s⟩ := a
 have hc0 := hcell 0 hn 0 _ (List.getElem?_eq_getElem (by rw [hk 0 hn]; exact hpos))
 obtain rfl : s = none := by simpa [Addr.add] using World.cell?_spot hc0
 refine ⟨b, o, rfl, fun i cs hi => ?_⟩
 have hil : i < len := by
  have := (List.getElem?_eq_some_iff.1 hi).1
  simpa using this
 have ek : z i = cs := by simpa [hil] using hi
 subst ek
 intro j v hv
 have h1 := hcell i hil j v hv
 rw [Go.WideShapes.add_plain, Go.WideShapes.add_plain] at h1
 exact h1

theorem sl_rows {H : Type} {enc : TypeId × Value → H} {W : World} {fuel : Nat} {T e : TypeId} {k : Nat} (ht : Try.prog.underlying T = some (.slice e)) (hk : Try.prog.cellsOf e = k) (hpos : 0 < k) {Q : List Value → Prop}
  (hone : ∀ (f : Nat) (cs : List Value) (x : DataW H × List MemPlace), DataW.trod enc Try.prog W 0 (fun _ => true) true f e cs = some x → Q cs ∧ cs.length = k) {c0 : Value} {x : DataW H × List MemPlace} (hf : DataW.trod enc Try.prog W 0 (fun _ => true) true fuel T [c0] = some x) :
  ∃ (A : Option Addr) (n c : Nat) (rows : List (List Value)), c0 = .slice A n c ∧ Sl W k A n rows ∧ (∀ r ∈ rows, Q r) ∧ n ≤ c ∧ c ≤ maxLen := by
 rcases DataW.trod_slice ht hf with ⟨hcs, _⟩ | ⟨a, len, cap, elems, rest, m', rfl, hcs, _, _, hle, hmx, hel, hin, _, _⟩
 ·have e2 : c0 = .slice none 0 0 := by simpa using hcs
  subst e2
  exact ⟨none, 0, 0, [], rfl, Sl.none_, (fun _ h => nomatch h), Nat.le_refl _, Nat.zero_le _⟩
 ·have e2 : c0 = .slice (some a) len cap := by simpa using hcs
  subst e2
  rw [hk] at hin
  have all : ∀ i, ∃ z : List Value, i < len → W.cells? 0 (a.add (i * k)) k = some z ∧ Q z ∧ z.length = k := fun i => by
   by_cases hil : i < len
   ·have h1 := hin i hil
    rw [List.getElem?_eq_getElem (by omega)] at h1
    obtain ⟨cs', h2, h3⟩ := Option.bind_eq_some_iff.1 h1
    obtain ⟨h4, h5⟩ := hone _ _ _ h3
    exact ⟨cs', fun _ => ⟨h2, h4, h5⟩⟩
   ·exact ⟨[], fun h => absurd h hil⟩
  obtain ⟨z, hz⟩ := Classical.axiomOfChoice all
  exact ⟨some a, len, cap, (List.range len).map z, rfl, sl_of z hpos (fun i hi => (hz i hi).2.2) (fun i hi => (hz i hi).1), fun r hr => by
   obtain ⟨i, hi, rfl⟩ := List.mem_map.1 hr
   exact (hz i (by simpa using hi)).2.1, by omega, by omega⟩

set_option maxRecDepth 100000 in
/-- A point's cells. -/
theorem po_of_trod {H : Type} {enc : TypeId × Value → H} {W : World} {fuel : Nat} {cs : List Value} {x : DataW H × List MemPlace} (hf : DataW.trod enc Try.prog W 0 (fun _ => true) true fuel 52 cs = some x) :
  (∃ p : Po, cs = p.cells ∧ p.dg.length = 32 ∧ In64 p.sq) ∧ cs.length = 33 := by
 obtain ⟨xs, m, rfl, _, hl, hlen, hg⟩ := DataW.trod_struct Try.underlying52 hf
 have e8 : Try.prog.cellsOf 52 = 33 := by kernel_rfl
 have hcl : cs.length = 33 := by rw [e8] at hl; exact hl
 obtain ⟨c0, rest, rfl⟩ : ∃ c0 rest, cs = c0 :: rest := by
  cases cs with
  | nil => simp at hcl
  | cons c0 rest => exact ⟨c0, rest, rfl⟩
 have hr : rest.length = 32 := by simpa using hcl
 have hx : ∀ i, i < 2 → ∃ y, xs[i]? = some y := fun i hi => ⟨_, List.getElem?_eq_getElem (by have := hlen; simp at this; omega)⟩
 have g0 := hg 0 _ rfl
 obtain ⟨z0, hz0⟩ := hx 0 (by omega)
 rw [hz0] at g0
 have g1 := hg 1 _ rfl
 obtain ⟨z1, hz1⟩ := hx 1 (by omega)
 rw [hz1] at g1
 have k0 : Try.prog.cellsOf 2 = 1 := by kernel_rfl
 have k1 : Try.prog.cellsOf 40 = 32 := by kernel_rfl
 simp only [List.getElem_toArray, List.getElem_cons_zero, List.getElem_cons_succ] at g0 g1
 rw [k0] at g0
 rw [k1] at g1
 obtain ⟨v0, hv0, _, hw0⟩ := DataW.trod_int Try.underlying2 g0
 have d0 : c0 = .int .i64 v0 := by simpa using hv0
 have er : (((c0 :: rest).drop 1).take 32) = rest := by rw [List.drop_succ_cons, List.drop_zero, ← hr, List.take_length]
 obtain ⟨tg, h4, h5⟩ := dig_of_trod g1
 have h6 : rest = vs tg := er.symm.trans h5
 subst d0 h6
 exact ⟨⟨⟨v0, tg⟩, rfl, h4, by simpa [In64, Lit.wf, IntKind.min, IntKind.max, IntKind.signed, IntKind.bits] using hw0⟩, hcl⟩
set_option maxRecDepth 100000 in
/-- A proof's cells. -/
theorem pf_of_trod {H : Type} {enc : TypeId × Value → H} {W : World} {fuel : Nat} {cs : List Value} {x : DataW H × List MemPlace} (hf : DataW.trod enc Try.prog W 0 (fun _ => true) true fuel 55 cs = some x) :
  (∃ (p : Pf) (s : Pl), cs = pfC p s ∧ (EysIn W s.1 s.2.1 p.es ∧ s.2.1 ≤ s.2.2 ∧ s.2.2 ≤ maxLen) ∧ In64 p.sq ∧ In64 p.vw ∧ ∀ y ∈ p.es, y.In) ∧ cs.length = 3 := by
 obtain ⟨xs, m, rfl, _, hl, hlen, hg⟩ := DataW.trod_struct Try.underlying55 hf
 have e8 : Try.prog.cellsOf 55 = 3 := by kernel_rfl
 have hcl : cs.length = 3 := by rw [e8] at hl; exact hl
 match cs, hcl with
 | [c0, c1, c2], hcl =>
  have hx : ∀ i, i < 3 → ∃ y, xs[i]? = some y := fun i hi => ⟨_, List.getElem?_eq_getElem (by have := hlen; simp at this; omega)⟩
  have g0 := hg 0 _ rfl
  obtain ⟨z0, hz0⟩ := hx 0 (by omega)
  rw [hz0] at g0
  have g1 := hg 1 _ rfl
  obtain ⟨z1, hz1⟩ := hx 1 (by omega)
  rw [hz1] at g1
  have g2 := hg 2 _ rfl
  obtain ⟨z2, hz2⟩ := hx 2 (by omega)
  rw [hz2] at g2
  have k0 : Try.prog.cellsOf 2 = 1 := by kernel_rfl
  have k2 : Try.prog.cellsOf 53 = 1 := by kernel_rfl
  simp only [List.getElem_toArray, List.getElem_cons_zero, List.getElem_cons_succ] at g0 g1 g2
  rw [k0] at g0 g1
  rw [k2] at g2
  obtain ⟨v0, hv0, _, hw0⟩ := DataW.trod_int Try.underlying2 g0
  obtain ⟨v1, hv1, _, hw1⟩ := DataW.trod_int Try.underlying2 g1
  have d0 : c0 = .int .i64 v0 := by simpa using hv0
  have d1 : c1 = .int .i64 v1 := by simpa using hv1
  obtain ⟨A, n, c, es, d2, h1, h4, h2, h3⟩ := sl_ey (c0 := c2) (by simpa using g2)
  subst d0 d1 d2
  exact ⟨⟨⟨v0, v1, es⟩, (A, n, c), rfl, ⟨h1, h2, h3⟩, by simpa [In64, Lit.wf, IntKind.min, IntKind.max, IntKind.signed, IntKind.bits] using hw0, by simpa [In64, Lit.wf, IntKind.min, IntKind.max, IntKind.signed, IntKind.bits] using hw1, h4⟩, rfl⟩
theorem pos_rows : ∀ {rows : List (List Value)}, (∀ r ∈ rows, ∃ p : Po, r = p.cells ∧ p.dg.length = 32 ∧ In64 p.sq) → ∃ ps : List Po, rows = ps.map Po.cells ∧ (∀ p ∈ ps, p.dg.length = 32) ∧ ∀ p ∈ ps, In64 p.sq
 | [], _ => ⟨[], rfl, (fun _ h => nomatch h), (fun _ h => nomatch h)⟩
 | r :: rows, h => by
  obtain ⟨p, e, h1, h2⟩ := h r (List.mem_cons_self ..)
  obtain ⟨ps, e2, h3, h4⟩ := pos_rows (fun q hq => h q (List.mem_cons_of_mem _ hq))
  exact ⟨p :: ps, by rw [e, e2]; rfl, fun q hq => by
   rcases List.mem_cons.1 hq with rfl | hq
   ·exact h1
   ·exact h3 q hq, fun q hq => by
   rcases List.mem_cons.1 hq with rfl | hq
   ·exact h2
   ·exact h4 q hq⟩
theorem pfs_rows {W : World} : ∀ {rows : List (List Value)}, (∀ r ∈ rows, ∃ (p : Pf) (s : Pl), r = pfC p s ∧ (EysIn W s.1 s.2.1 p.es ∧ s.2.1 ≤ s.2.2 ∧ s.2.2 ≤ maxLen) ∧ In64 p.sq ∧ In64 p.vw ∧ ∀ y ∈ p.es, y.In) → ∃ (ps : List Pf) (ss : List Pl), rows = pfR ps ss ∧ AllP W ps ss ∧ ∀ p ∈ ps, In64 p.sq ∧ In64 p.vw ∧ ∀ y ∈ p.es, y.In
 | [], _ => ⟨[], [], rfl, trivial, (fun _ h => nomatch h)⟩
 | r :: rows, h => by
  obtain ⟨p, s, e, h1, h2⟩ := h r (List.mem_cons_self ..)
  obtain ⟨ps, ss, e2, h3, h4⟩ := pfs_rows (fun q hq => h q (List.mem_cons_of_mem _ hq))
  exact ⟨p :: ps, s :: ss, by rw [e, e2]; rfl, ⟨h1, h3⟩, fun q hq => by
   rcases List.mem_cons.1 hq with rfl | hq
   ·exact h2
   ·exact h4 q hq⟩
theorem sl_po {H : Type} {enc : TypeId × Value → H} {W : World} {fuel : Nat} {c0 : Value} {x : DataW H × List MemPlace} (hf : DataW.trod enc Try.prog W 0 (fun _ => true) true fuel 22 [c0] = some x) : ∃ (P : Pl) (ps : List Po), c0 = .slice P.1 P.2.1 P.2.2 ∧ (PosIn W P.1 P.2.1 ps ∧ P.2.1 ≤ P.2.2 ∧ P.2.2 ≤ maxLen) ∧ ∀ p ∈ ps, In64 p.sq := by
 obtain ⟨A, n, c, rows, e, h1, h2, h3, h4⟩ := sl_rows Try.underlying22 (show Try.prog.cellsOf 52 = 33 by kernel_rfl) (by omega) (fun _ _ _ h => po_of_trod h) hf
 obtain ⟨ps, e2, h5, h6⟩ := pos_rows h2
 exact ⟨(A, n, c), ps, e, ⟨⟨e2 ▸ h1, h5⟩, h3, h4⟩, h6⟩
theorem sl_pf {H : Type} {enc : TypeId × Value → H} {W : World} {fuel : Nat} {c0 : Value} {x : DataW H × List MemPlace} (hf : DataW.trod enc Try.prog W 0 (fun _ => true) true fuel 23 [c0] = some x) : ∃ (P : Pl) (ps : List Pf), c0 = .slice P.1 P.2.1 P.2.2 ∧ (PfsIn W P.1 P.2.1 ps ∧ P.2.1 ≤ P.2.2 ∧ P.2.2 ≤ maxLen) ∧ ∀ p ∈ ps, In64 p.sq ∧ In64 p.vw ∧ ∀ y ∈ p.es, y.In := by
 obtain ⟨A, n, c, rows, e, h1, h2, h3, h4⟩ := sl_rows Try.underlying23 (show Try.prog.cellsOf 55 = 3 by kernel_rfl) (by omega) (fun _ _ _ h => pf_of_trod h) hf
 obtain ⟨ps, ss, e2, h5, h6⟩ := pfs_rows h2
 exact ⟨(A, n, c), ps, e, ⟨⟨ss, e2 ▸ h1, h5⟩, h3, h4⟩, h6⟩
set_option maxRecDepth 100000 in
/-- A change's cells. -/
theorem ch_of_trod {H : Type} {enc : TypeId × Value → H} {W : World} {fuel : Nat} {cs : List Value} {x : DataW H × List MemPlace} (hf : DataW.trod enc Try.prog W 0 (fun _ => true) true fuel 25 cs = some x) :
  (∃ (c : Ch) (P Q R : Pl), cs = Ch.cells c P Q R ∧ ChIn W P Q R c ∧ c.InR) ∧ cs.length = 5 := by
 obtain ⟨xs, m, rfl, _, hl, hlen, hg⟩ := DataW.trod_struct Try.underlying25 hf
 have e8 : Try.prog.cellsOf 25 = 5 := by kernel_rfl
 have hcl : cs.length = 5 := by rw [e8] at hl; exact hl
 match cs, hcl with
 | [c0, c1, c2, c3, c4], hcl =>
  have hx : ∀ i, i < 5 → ∃ y, xs[i]? = some y := fun i hi => ⟨_, List.getElem?_eq_getElem (by have := hlen; simp at this; omega)⟩
  have g0 := hg 0 _ rfl
  obtain ⟨z0, hz0⟩ := hx 0 (by omega)
  rw [hz0] at g0
  have g1 := hg 1 _ rfl
  obtain ⟨z1, hz1⟩ := hx 1 (by omega)
  rw [hz1] at g1
  have g2 := hg 2 _ rfl
  obtain ⟨z2, hz2⟩ := hx 2 (by omega)
  rw [hz2] at g2
  have g3 := hg 3 _ rfl
  obtain ⟨z3, hz3⟩ := hx 3 (by omega)
  rw [hz3] at g3
  have g4 := hg 4 _ rfl
  obtain ⟨z4, hz4⟩ := hx 4 (by omega)
  rw [hz4] at g4
  have k0 : Try.prog.cellsOf 2 = 1 := by kernel_rfl
  have k2 : Try.prog.cellsOf 22 = 1 := by kernel_rfl
  have k3 : Try.prog.cellsOf 23 = 1 := by kernel_rfl
  simp only [List.getElem_toArray, List.getElem_cons_zero, List.getElem_cons_succ] at g0 g1 g2 g3 g4
  rw [k0] at g0 g1
  rw [k2] at g2
  rw [k3] at g3 g4
  obtain ⟨v0, hv0, _, hw0⟩ := DataW.trod_int Try.underlying2 g0
  obtain ⟨v1, hv1, _, hw1⟩ := DataW.trod_int Try.underlying2 g1
  have d0 : c0 = .int .i64 v0 := by simpa using hv0
  have d1 : c1 = .int .i64 v1 := by simpa using hv1
  obtain ⟨P, po, d2, h2, i2⟩ := sl_po (c0 := c2) (by simpa using g2)
  obtain ⟨Q, pp, d3, h3, i3⟩ := sl_pf (c0 := c3) (by simpa using g3)
  obtain ⟨R, pd, d4, h4, i4⟩ := sl_pf (c0 := c4) (by simpa using g4)
  subst d0 d1 d2 d3 d4
  exact ⟨⟨⟨v0, v1, po, pp, pd⟩, P, Q, R, rfl, ⟨h2, h3, h4⟩, by simpa [In64, Lit.wf, IntKind.min, IntKind.max, IntKind.signed, IntKind.bits] using hw0, by simpa [In64, Lit.wf, IntKind.min, IntKind.max, IntKind.signed, IntKind.bits] using hw1, i2, i3, i4⟩, rfl⟩
end Go.Proofs.Ytheecifgbkdecaa
