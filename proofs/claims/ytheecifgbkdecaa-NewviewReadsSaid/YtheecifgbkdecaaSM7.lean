/-
  El2 B2
-/
import Derived.Laws.AppendOwn
import Derived.Test.YtheecifgbkdecaaSM6
import Derived.Handy
import Derived.WalkSpells
import Derived.Deep.AppendLies
import Derived.Deep.Draws
import Derived.Deep.AppendSrc
import Derived.Deep.RegionLaw
import Derived.Lib.Hide
import Derived.Laws.CopyOwn
import Derived.Deep.MidRow
import Derived.Deep.RegionHeld
import Derived.Outline
import Derived.Lib.SlBytesConst
import Derived.ChangeKeysEq
import Derived.Laws.StructEq
import Derived.Laws.BitsAllLaws
import Derived.IntWalk
import Derived.MapKept
namespace Go.Proofs.Ytheecifgbkdecaa
open Go.RowKit

section
variable {k : Nat}
end

section
variable {P : Program} {s e : TypeId} {k bytes : Nat} {z : Value}
/-- append(nil, make([]T, m)...), m at least 1: a new row. -/
theorem El.run_append_zeros (E : El P s e k bytes z) (w : World) (ti ty : TypeId) (hti : P.underlying ti = some (.int .i64)) (m : Nat) (hpos : 0 < m) (hm : m ≤ 1000000) :
  ∃ cap w', (Builtin.append_ #[s, ti] ty #[.slice none 0 0, .int .i64 (m : Int)]).run P w = .ok (.slice (some ⟨w.heap.size, 0, none⟩) m cap) w' ∧ Os w' w.heap.size e k (.slice (some ⟨w.heap.size, 0, none⟩) 0 cap) [] ∧ m ≤ cap ∧ Below w.heap.size w w' := by
 obtain ⟨i, hi, h2⟩ := Option.map_eq_some_iff.1 E.info
 simp only [Prod.mk.injEq] at h2
 obtain ⟨hz, hsize, hby⟩ := h2
 have hp := E.pos
 have hbs := E.bsm
 have hw : IntKind.i64.wrap (m : Int) = m := IntWalk.i64_in _ (by omega)
 have h0 : ¬ ((m : Int) < 0) := by omega
 have hm0 : m ≠ 0 := by omega
 have hks := E.small
 have hmul : m * bytes ≤ 1000000 * 100000 := Nat.mul_le_mul hm hbs
 have h48 : ¬ (281474976710656 < (m : Int) * (bytes : Int)) := by
  rw [← Int.natCast_mul]
  omega
 have hmk : ¬ (m * k = 0) := fun h9 => by rcases Nat.mul_eq_zero.1 h9 with h9 | h9 <;> omega
 have hge := grownCap_ge w m 0 e
 have hcm : grownCap w m 0 e ≤ maxLen := grownCap_le_maxLen w m 0 e (by simp only [maxLen]; omega)
 have hfit := growslice_fits (need := m) (old := 0) (bytes := bytes) (by omega) (by omega)
 have hfit' : ¬ (281474976710656 < Builtin.nextslicecap m 0 * bytes) := by omega
 have h63 : ¬ (9223372036854775807 < (m : Int)) := by omega
 have hold : ∀ W, (Builtin.firstCells k 0 (.slice none 0 0)).run P W = .ok #[] W := fun W => run_firstCells_none W k 0 0 0
 obtain ⟨row, hrow⟩ : ∃ row, row = Builtin.zeroCells z.cells m ++ Builtin.zeroCells z.cells (grownCap w m 0 e - m) := ⟨_, rfl⟩
 have hrs : row.size = grownCap w m 0 e * k := by
  rw [hrow]
  simp only [Array.size_append, size_zeroCells, E.zero]
  rw [← Nat.add_mul]
  congr 1
  omega
 refine ⟨grownCap w m 0 e, w.drew.alloc (.cells row e), ?_, ⟨⟨by simp, .inr ⟨w.heap.size, _, row, rfl, Nat.le_refl _, heap_alloc_new w.drew _, Nat.zero_le _, hcm, hrs, by simp⟩⟩, fun x hx => by cases hx⟩, hge, ⟨rfl, rfl, rfl, by simp, fun q hq => Below.heap_alloc w.drew _ q hq⟩⟩
 simp [Builtin.append_, run_underlying E.sl, run_underlying hti, sizeOf, typeInfo, zeroValue, hi, hz, hsize, hby, asInt, asIntOf, hw, h0, h48, hmk, hm0, hold, hfit', h63, Question.forced, newRow, hrow, grownCap]
theorem wpList_append_zeros {ops : Array Oper} {rest : List Oper} {o : Oper} {a : Act} {w : World} {Q : Exit → Act → World → Prop} (hgd : o.guard = none) (E : El P s e k bytes z) (ti : TypeId) (hti : P.underlying ti = some (.int .i64)) (sl x : Operand)
  (ho : o.op = .call { callee := .builtin .append, args := #[sl, x], argTypes := #[s, ti] })
  (hs : a.eval sl = .slice none 0 0) (m : Nat) (hx : a.eval x = .int .i64 (m : Int)) (hpos : 0 < m) (hm : m ≤ 1000000)
  (h : ∀ cap w', Os w' w.heap.size e k (.slice (some ⟨w.heap.size, 0, none⟩) 0 cap) [] → m ≤ cap → Below w.heap.size w w' → wpList P ops Q rest (a.put o.dst (.slice (some ⟨w.heap.size, 0, none⟩) m cap)) w') : wpList P ops Q (o :: rest) a w := by
 refine wpList_plain hgd fun K hK => ?_
 obtain ⟨cap, w', hrun, h2, h3, h4⟩ := E.run_append_zeros w ti o.type hti m hpos hm
 unfold Oper.wp execOp
 simp only [ho, resolve, invoke, builtin, Sem.run_bind, Sem.run_pure, Result.andThen_ok, List.map_toArray, List.map_cons, List.map_nil, hs, hx, hrun]
 exact hK _ _ (h cap w' h2 h3 h4)
end

theorem yields_build {P : Program} {ops : Array Oper} {S : World → Prop} {op : Oper} {a : Act} (hw : Region.wanted op (yielded ops a.tmps) = true) (t : TypeId) (parts : Array (Nat × Operand)) (ho : op.op = .build t parts)
  (vs : Array (Nat × Value)) (hx : parts.map (fun (i, x) => (i, a.eval x)) = vs) (v : Value) (hS : ∀ w, S w → (Instr.build t vs).run P w = .ok v w) : YieldsIf P ops S op v a :=
 .inl ⟨hw, fun w hw' => by
  unfold execOp
  simp only [ho, hx, Sem.run_bind, hS w hw', Result.andThen_ok]
  rfl⟩
theorem step_build_el {P : Program} {s e : TypeId} {k bytes : Nat} {z : Value} {ops : Array Oper} {o : Oper} {a : Act} {w : World} {K : Act → World → Prop} {Q : Exit → Act → World → Prop} {F : Prop} (hgd : o.guard = none) (E : El P s e k bytes z) (x : Operand) (ho : o.op = .buildSlice s 1 #[(0, x)])
  (q : List Value) (hx : a.eval x = .agg q.toArray) (hq : q.length = k)
  (h : K (a.put o.dst (.slice (some ⟨w.heap.size, 0, none⟩) 1 1)) (w.alloc (.cells q.toArray e))) : if Region.wanted o (yielded ops a.tmps) = true then Oper.wp P o a w K Q else F := by
 have hw : Region.wanted o (yielded ops a.tmps) = true := by simp [Region.wanted, hgd]
 rw [if_pos hw]
 unfold Oper.wp execOp
 simp only [ho, Sem.run_bind, List.map_toArray, List.map_cons, List.map_nil, hx, E.run_build w q hq, Result.andThen_ok]
 exact h
theorem step_build_el_w {P : Program} {s e : TypeId} {k bytes : Nat} {z : Value} {ops : Array Oper} {o : Oper} {a : Act} {w : World} {K : Act → World → Prop} {Q : Exit → Act → World → Prop} {F : Prop} (hgd : o.guard = none) (E : El P s e k bytes z) (x : Operand) (ho : o.op = .buildSlice s 1 #[(0, x)])
  (q : List Value) (hx : a.eval x = .agg q.toArray) (hq : q.length = k)
  (h : ∀ g w', Blk w' g e q → Below w.heap.size w w' → K (a.put o.dst (.slice (some ⟨g, 0, none⟩) 1 1)) w') : if Region.wanted o (yielded ops a.tmps) = true then Oper.wp P o a w K Q else F :=
 step_build_el hgd E x ho q hx hq (h _ _ (Blk.fresh rfl rfl) ((Below.refl _ w).alloc (Nat.le_refl _) _))
theorem step_append_el {P : Program} {s e : TypeId} {k bytes : Nat} {z : Value} {ops : Array Oper} {o : Oper} {a : Act} {w : World} {K : Act → World → Prop} {Q : Exit → Act → World → Prop} {F : Prop} (hgd : o.guard = none) (E : El P s e k bytes z) (sl x : Operand)
  (ho : o.op = .call { callee := .builtin .append, args := #[sl, x], argTypes := #[s, s] })
  (B : Nat) (v : Value) (xs : List (List Value)) (hs : a.eval sl = v) (hown : Os w B e k v xs) (g : Nat) (q : List Value) (hx : a.eval x = .slice (some ⟨g, 0, none⟩) 1 1) (hg : Blk w g e q) (hq : q.length = k) (h1 : ∀ u ∈ q, u.oneCell' = true)
  (hn : xs.length ≤ 1000000) (hB : B ≤ w.heap.size)
  (h : ∀ A' n' c' w', n' = xs.length + 1 → Os w' B e k (.slice A' n' c') (xs ++ [q]) → w.grownBy w' v.ownBlock → K (a.put o.dst (.slice A' n' c')) w') : if Region.wanted o (yielded ops a.tmps) = true then Oper.wp P o a w K Q else F := by
 obtain ⟨i, hi, h2⟩ := Option.map_eq_some_iff.1 E.info
 simp only [Prod.mk.injEq] at h2
 have hp := E.pos
 have hbs := E.bsm
 have hcell : ∀ j u, q[j]? = some u → w.cell? ((⟨g, 0, none⟩ : Addr).add j) = some u := fun j u hu => by
  have ea : (⟨g, 0, none⟩ : Addr).add j = ⟨g, j, none⟩ := by unfold Addr.add; split <;> simp_all
  rw [ea]
  exact hg.cellAt hu
 have hmul : (xs.length + 1) * bytes ≤ 1000001 * 100000 := Nat.mul_le_mul (by omega) hbs
 refine step_append_lies w hgd sl x s ho B e i z k bytes E.sl hi h2.1 h2.2.1 h2.2.2 E.zero hp v xs.length xs.flatten hs hown.1 ⟨g, 0, none⟩ 1 1 q hx (by rw [hq]; omega) hcell h1 (by omega) (by unfold maxLen; omega) (by omega) hB _ rfl fun g' cap w' h3 h4 _ _ => h _ _ _ w' rfl ⟨?_, ?_⟩ h4
 ·have e1 : (xs ++ [q]).flatten = xs.flatten ++ q := by simp
  rw [e1, List.length_append]
  exact h3
 ·intro y hy
  rcases List.mem_append.1 hy with hy | hy
  ·exact hown.2 y hy
  ·rw [List.mem_singleton.1 hy]; exact hq
theorem step_store_cell {P : Program} {w : World} {ops : Array Oper} {o : Oper} {a : Act} {K : Act → World → Prop} {Q : Exit → Act → World → Prop} {E : Prop} (hw : Region.wanted o (yielded ops a.tmps) = true) (ty : TypeId) (x y : Operand) (ho : o.op = .store ty x y)
  (g i : Nat) (hx : a.eval x = .pointer (some ⟨g, i, none⟩)) (v : Value) (hy : a.eval y = v) (hv : v.cells = #[v]) (hv1 : v.oneCell' = true) (hsz : ∀ w, (sizeOf ty).run P w = .ok 1 w) (t : TypeId) (cs : List Value) (hb : Blk w g t cs) (hi : i < cs.length)
  (h : ∀ w', Blk w' g t (cs.set i v) → w.grownBy w' (some g) → K (a.put o.dst undef) w') : if Region.wanted o (yielded ops a.tmps) = true then Oper.wp P o a w K Q else E := by
 rw [if_pos hw]
 have hc := hb.cellAt (List.getElem?_eq_getElem hi)
 have hf := hb.frozen i
 have hrun : (Instr.storeAt ty (.pointer (some ⟨g, i, none⟩)) v).run P w = .ok () (w.setCell ⟨g, i, none⟩ v) := by
  simp only [Instr.storeAt, Instr.sureAddr, storeVar, Sem.run_bind, Sem.run_pure, Result.andThen_ok]
  have ha : (⟨g, i, none⟩ : Addr).add 0 = ⟨g, i, none⟩ := by simp [Addr.add]
  have hst := run_store P w ⟨g, i, none⟩ v .plain hv1
  simp only [hc, hf, Bool.false_eq_true, if_false] at hst
  simp [hv, storeCells, ha, hsz, hst]
 unfold Oper.wp execOp
 simp only [ho, hx, hy, Sem.run_bind, hrun, Result.andThen_ok]
 exact h _ (hb.set_ i v) (only_set w g i v)

end Go.Proofs.Ytheecifgbkdecaa

namespace Go.Proofs.Ytheecifgbkdecaa
open Go.RowKit

theorem wpList_build_to {P : Program} {ops : Array Oper} {rest : List Oper} {o : Oper} {a : Act} {w : World} {Q : Exit → Act → World → Prop} (hg : o.guard = none) (t : TypeId) (parts : List (Nat × Operand)) (ho : o.op = .build t parts.toArray)
    (vals : List (Nat × Value)) (hv : (parts.map fun p => (p.1, a.eval p.2)) = vals) (v : Value) (hrun : (Instr.build t vals.toArray).run P w = .ok v w)
    (h : wpList P ops Q rest (a.put o.dst v) w) : wpList P ops Q (o :: rest) a w :=
  wpList_plain hg fun _ hK => by
    unfold Oper.wp execOp
    subst hv
    simp only [ho, Sem.run_bind, List.map_toArray, hrun, Result.andThen_ok]
    exact hK _ _ h

theorem Blk.cells {t : TypeId} (g : Nat) : ∀ (vs : List Value) (pre old rest : List Value) (w : World), old.length = vs.length → Blk w g t (pre ++ (old ++ rest)) → Blk (w.setCells g pre.length vs) g t (pre ++ (vs ++ rest))
  | [], pre, old, rest, w, hl, h => by
    obtain rfl : old = [] := List.eq_nil_of_length_eq_zero hl
    exact h
  | v :: r, pre, [], rest, w, hl, h => by simp at hl
  | v :: r, pre, x :: old, rest, w, hl, h => by
    rw [World.setCells]
    have h1 := h.set_ pre.length v
    rw [List.set_append_right _ _ (Nat.le_refl _), Nat.sub_self] at h1
    have h2 : Blk (w.setCell ⟨g, pre.length, none⟩ v) g t ((pre ++ [v]) ++ (old ++ rest)) := by
      rw [List.append_assoc]
      exact h1
    have h3 := Blk.cells g r (pre ++ [v]) old rest _ (by simpa using hl) h2
    rw [List.length_append] at h3
    rw [List.append_assoc] at h3
    exact h3

/-- copy into a block that is known whole, in a region that draws its order. -/
theorem step_copy_blk {P : Program} {ops : Array Oper} {o : Oper} {a : Act} {w : World} {K : Act → World → Prop} {Q : Exit → Act → World → Prop} {E : Prop} (hgd : o.guard = none) (d s : Operand) (dT sT : TypeId)
    (ho : o.op = .call { callee := .builtin .copy, args := #[d, s], argTypes := #[dT, sT] }) (elem : TypeId) (hu : P.underlying dT = some (.slice elem)) (hsz : (P.info? elem).map (·.size) = some 1)
    (g off dLen dCap : Nat) (sp : Option Addr) (sLen sCap : Nat) (hd : a.eval d = .slice (some ⟨g, off, none⟩) dLen dCap) (hs : a.eval s = .slice sp sLen sCap)
    (cur : List Value) (t : TypeId) (hg : Blk w g t cur) (cs : List Value) (kk : Nat) (hk : cs.length = kk) (hn : kk = Nat.min sLen dLen) (hpos : 0 < kk)
    (hsrc : ∃ ad, sp = some ad ∧ ∀ j v, cs[j]? = some v → w.cell? (ad.add j) = some v) (hfit : off + kk ≤ cur.length) (h1 : ∀ v ∈ cs, v.oneCell' = true)
    (h : ∀ w', Blk w' g t (splice cur off cs) → w.grownBy w' (some g) → K (a.put o.dst (.int .i64 (kk : Int))) w') :
    if Region.wanted o (yielded ops a.tmps) = true then Oper.wp P o a w K Q else E := by
  have hw : Region.wanted o (yielded ops a.tmps) = true := by simp [Region.wanted, hgd]
  rw [if_pos hw]
  obtain ⟨ad, rfl, hsrc⟩ := hsrc
  subst hk
  have hrun := run_copy_row (P := P) w dT sT o.type elem g off dLen dCap ad sLen sCap cur.toArray t cs hu hsz hg hn hsrc (by simpa using hfit) h1
  unfold Oper.wp
  simp [execOp, ho, resolve, invoke, builtin, hd, hs, hrun, Result.andThen]
  exact h _ (show _ = _ by simpa [splice] using setRow_heap w g _ _ t _ hg) (only_row w g _)

theorem step_append_by {P : Program} {ops : Array Oper} {o : Oper} {a : Act} {w : World} {K : Act → World → Prop} {R : Exit → Act → World → Prop} {E : Prop} (hw : Region.wanted o (yielded ops a.tmps) = true) (s x : Operand) (t : TypeId)
    (ho : o.op = .call { callee := .builtin .append, args := #[s, x], argTypes := #[t, t] })
    (base : Nat) (i : TypeInfo) (ht : P.underlying t = some (.slice 5)) (hi : P.info? 5 = some i) (hz : i.zero = some (.int .u8 0))
    (hsize : i.size = 1) (hby : i.bytes = 1) (v : Value) (n : Nat) (ys : List UInt8) (hs : a.eval s = v) (hown : w.ownsRow base 5 1 v n (vs ys))
    (Q : Nat → Prop) (A : Option Addr) (m c : Nat) (xs : List UInt8) (hx : a.eval x = .slice A m c) (hr : By w Q A m xs) (hbytes : n + m ≤ 140737488355328) (hbase : base ≤ w.heap.size) (N : Nat) (hN : n + m = N) (zs : List UInt8) (hzs : ys ++ xs = zs)
    (h : ∀ A' c' w', w'.ownsRow base 5 1 (.slice A' N c') N (vs zs) → N ≤ c' → c' ≤ maxLen → Below base w w' → K (a.put o.dst (.slice A' N c')) w') :
    if Region.wanted o (yielded ops a.tmps) = true then Oper.wp P o a w K R else E := by
  rw [if_pos hw]
  obtain ⟨v', w', hrun, h2, h3, h4⟩ := run_append_by (P := P) w base t o.type i ht hi hz hsize hby v n (vs ys) hown Q A m c xs hr hbytes hbase
  rw [vs_append] at h2
  subst hN; subst hzs
  obtain ⟨A', c', rfl, hc1, hc2, _⟩ := own_form h2
  unfold Oper.wp execOp
  simp only [ho, resolve, invoke, builtin, Sem.run_bind, Sem.run_pure, Result.andThen_ok, List.map_toArray, List.map_cons, List.map_nil, hs, hx, hrun]
  exact h A' c' w' h2 hc1 hc2 ((Below.refl _ w).grown h3 hbase (fun k hk => (hown.lt k hk).1))

theorem By.fresh {w : World} {A : Array Value} {e : TypeId} {fr : Nat × Nat} (xs : List UInt8) (h : A = (vs xs).toArray) : By (w.alloc (.cells A e fr)) (fun _ => True) (some ⟨w.heap.size, 0, none⟩) xs.length xs :=
  ⟨rfl, fun _ => ⟨_, 0, rfl, trivial, fun j u hu => by
    subst h
    rw [Nat.zero_add, cell_of_row _ w.heap.size _ _ _ _ (heap_alloc_new w _), List.getElem?_toArray, vs_get, hu]
    rfl⟩⟩

theorem run_eqItems_bytes {P : Program} (d : Nat) (e : TypeId) (w : World) (he : P.underlying e = some (.int .u8)) (xs ys : List UInt8) :
    ∀ (m k : Nat), k + m = xs.length → xs.length = ys.length → (Op.eqItems (d + 1) e 1 (vs xs).toArray (vs ys).toArray (List.range' k m)).run P w = .ok (xs.drop k == ys.drop k) w
  | 0, k, h, hl => by
    rw [List.drop_eq_nil_of_le (by omega), List.drop_eq_nil_of_le (by omega)]
    rfl
  | m + 1, k, h, hl => by
    have hk : k < xs.length := by omega
    have hk2 : k < ys.length := by omega
    have hag : (isAgg e).run P w = .ok false w := by simp [isAgg, Sem.run_bind, run_underlying he]
    have hp : ∀ zs : List UInt8, (hz : k < zs.length) → (part e (vs zs).toArray (k * 1)).run P w = .ok (u8 zs[k]) w := fun zs hz => by
      have hv : (vs zs)[k]? = some (u8 zs[k]) := by rw [vs_get, List.getElem?_eq_getElem hz]; rfl
      simp [part, Sem.run_bind, hag, hv]
    have ih := run_eqItems_bytes d e w he xs ys m (k + 1) (by omega) hl
    rw [List.range'_succ]
    simp only [Op.eqItems, Sem.run_bind, hp xs hk, hp ys hk2, Result.andThen_ok]
    unfold u8
    rw [run_equalIn_int w d e .u8 .u8 _ _ he, List.drop_eq_getElem_cons hk, List.drop_eq_getElem_cons hk2]
    simp only [Result.andThen_ok, List.cons_beq_cons]
    by_cases hx : xs[k] = ys[k]
    · simp [hx, ih]
    · have hne : ((xs[k].toNat : Int) == (ys[k].toNat : Int)) = false := by
        simp only [beq_eq_false_iff_ne, ne_eq]
        intro h
        exact hx (UInt8.toNat_inj.1 (by omega))
      simp [hne, hx]

/-- Block g refers to the map in block k. -/
def Own (w : World) (g k : Nat) : Prop := ∃ (cs : Array Value) (t : TypeId) (fr : Nat × Nat) (i : Nat), w.heap[g]? = some (.cells cs t fr) ∧ cs[i]? = some (Value.map (some k))

theorem Own.congr {w w' : World} {g k : Nat} (e : w'.heap[g]? = w.heap[g]?) (h : Own w' g k) : Own w g k := by
  obtain ⟨cs, t, fr, i, h1, h2⟩ := h
  exact ⟨cs, t, fr, i, e ▸ h1, h2⟩

/-- WHAT A CALL OF THE OBJECT OF BLOCK g MAY TURN: the object itself, its own maps, and new blocks. -/
structure KF (g : Nat) (w w' : World) : Prop where
  low : Below g w w'
  cells : ∀ k, k ≠ g → (∃ cs t fr, w.heap[k]? = some (.cells cs t fr)) → w'.heap[k]? = w.heap[k]?
  rest : ∀ k, k < w.heap.size → k ≠ g → ¬ Own w g k → w'.heap[k]? = w.heap[k]?
  own : ∀ k, Own w' g k → Own w g k ∨ w.heap.size ≤ k

theorem KF.refl (g : Nat) (w : World) : KF g w w := ⟨Below.refl _ _, fun _ _ _ => rfl, fun _ _ _ _ => rfl, fun _ h => .inl h⟩

theorem KF.size {g : Nat} {w w' : World} (h : KF g w w') : w.heap.size ≤ w'.heap.size := h.low.size

theorem KF.trans {g : Nat} {a b c : World} (h : KF g a b) (k : KF g b c) : KF g a c :=
  ⟨h.low.trans k.low, fun i hi hc => by
    have e := h.cells i hi hc
    obtain ⟨cs, t, fr, hh⟩ := hc
    exact (k.cells i hi ⟨cs, t, fr, e.trans hh⟩).trans e,
   fun i hi hg ho => (k.rest i (Nat.lt_of_lt_of_le hi h.size) hg fun hb => by
      rcases h.own i hb with h1 | h1
      · exact ho h1
      · omega).trans (h.rest i hi hg ho),
   fun i ho => by
    rcases k.own i ho with h1 | h1
    · exact h.own i h1
    · exact .inr (Nat.le_trans h.size h1)⟩

theorem KF.of_below {g : Nat} {w w' : World} (hg : g < w.heap.size) (h : Below w.heap.size w w') : KF g w w' :=
  ⟨h.mono (Nat.le_of_lt hg), fun k _ ⟨_, _, _, hc⟩ => h.block k (Array.getElem?_eq_some_iff.1 hc).1, fun k hk _ _ => h.block k hk, fun _ ho => .inl (ho.congr (h.block g hg))⟩

theorem KF.blk {g k : Nat} {w w' : World} {t : TypeId} {cs : List Value} (h : KF g w w') (hb : Blk w k t cs) (hk : k ≠ g) : Blk w' k t cs := (h.cells k hk ⟨_, _, _, hb⟩).trans hb

theorem KF.drew {g : Nat} {w w' : World} (h : KF g w w') : KF g w w'.drew := ⟨h.low.drew, h.cells, h.rest, fun k hk => h.own k hk⟩

theorem KF.below {g : Nat} {w w' w'' : World} (h : KF g w w') (hg : g < w.heap.size) (hb : Below w'.heap.size w' w'') : KF g w w'' := h.trans (KF.of_below (Nat.lt_of_lt_of_le hg h.size) hb)

theorem KF.alloc {g : Nat} {w w' : World} (h : KF g w w') (hg : g < w.heap.size) (o : Obj) : KF g w (w'.alloc o) := h.below hg ((Below.refl _ w').alloc (Nat.le_refl _) o)

/-- one of its maps is turned -/
theorem KF.turn {g r : Nat} {w w' : World} (hg : w.grownBy w' (some r)) (hr : g < r) (ho : Own w g r) (hm : ∃ es ck, w.heap[r]? = some (.map es ck)) : KF g w w' := by
  have hrl : r < w.heap.size := by
    obtain ⟨_, _, hm⟩ := hm
    exact (Array.getElem?_eq_some_iff.1 hm).1
  refine ⟨⟨hg.os, hg.tape, hg.output, hg.size, fun k hk => hg.block k (by omega) (fun e => by have := Option.some.inj e; omega)⟩, fun k _ ⟨_, _, _, hc⟩ => hg.block k (Array.getElem?_eq_some_iff.1 hc).1 (fun e => ?_), fun k hk _ hno => hg.block k hk (fun e => hno (Option.some.inj e ▸ ho)), fun k hk => .inl (hk.congr (hg.block g (by omega) (fun e => by have := Option.some.inj e; omega)))⟩
  have e := Option.some.inj e
  subst e
  obtain ⟨es, ck, hm⟩ := hm
  rw [hm] at hc
  cases hc

/-- The answer's own block is written. -/
theorem KF.grownB {g b : Nat} {w W W' : World} (h : KF g w W) (ho : W.grownBy W' (some b)) (hb : w.heap.size ≤ b) (hg : g < w.heap.size) : KF g w W' :=
  ⟨h.low.grown ho (Nat.le_trans (Nat.le_of_lt hg) h.size) (fun k hk => Option.some.inj hk ▸ Nat.le_trans (Nat.le_of_lt hg) hb), fun k hk hc => by
    have e := h.cells k hk hc
    obtain ⟨_, _, _, hc⟩ := hc
    have hl := (Array.getElem?_eq_some_iff.1 hc).1
    exact (ho.block k (Nat.lt_of_lt_of_le hl h.size) (fun e' => by have := Option.some.inj e'; omega)).trans e,
   fun k hk hne hno => (ho.block k (Nat.lt_of_lt_of_le hk h.size) (fun e' => by have := Option.some.inj e'; omega)).trans (h.rest k hk hne hno),
   fun k hk => h.own k (hk.congr (ho.block g (Nat.lt_of_lt_of_le hg h.size) (fun e' => by have := Option.some.inj e'; omega)))⟩

theorem KF.row {g b : Nat} {w W : World} {cs : Array Value} (h : KF g w W) (hb : w.heap.size ≤ b) (hg : g < w.heap.size) : KF g w (W.setRow b cs) := h.grownB (only_row W b cs) hb hg

/-- '!=' of arrays by their '=='. -/
theorem arr_neq {P : Program} {t : TypeId} {A B : Array Value} {b : Bool} (h : ∀ w, (binOp .eql t (.agg A) (.agg B)).run P w = .ok (.bool b) w) (w : World) : (binOp .neq t (.agg A) (.agg B)).run P w = .ok (.bool (!b)) w := by
  have h := h w
  rw [run_eql_struct] at h
  rw [run_neq_struct]
  cases hq : (Op.equalIn 10000 t (.agg A) (.agg B)).run P w with
  | ok c w' =>
    rw [hq] at h
    simp only [Result.andThen_ok] at h ⊢
    injection h with h1 h2
    injection h1 with h1
    rw [h1, h2]
  | halt x w' =>
    rw [hq] at h
    simp [Result.andThen] at h

end Go.Proofs.Ytheecifgbkdecaa
