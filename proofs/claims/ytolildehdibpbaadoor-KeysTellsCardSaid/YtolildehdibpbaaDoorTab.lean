/-
  A TABLE IN MEMORY: its seed, its map, and what a call of it may turn. No walk here.
-/
import Derived.Test.YtolildehdibpbaaDoorKeyOf
namespace Go.Proofs.YtolildehdibpbaaDoor
open Go.RowKit

/-- Block g is a table of keys out of a seed, with this map. -/
def TM (W : World) (g : Nat) (seed : List UInt8) (m : Option Nat) : Prop :=
  ∃ As ns cs, Blk W g 66 [.slice As ns cs, .map m] ∧ By W (fun k => k < g) As ns seed ∧ ns ≤ cs ∧ cs ≤ maxLen ∧ MapIs W g (keyB seed) m
def TS (W : World) (g : Nat) (seed : List UInt8) : Prop := ∃ m, TM W g seed m
/-- What a call of the table of block g may turn: the table itself, maps, and new blocks. -/
def KF (g : Nat) (w w' : World) : Prop := Below g w w' ∧ ∀ k, g < k → (∃ cs t fr, w.heap[k]? = some (.cells cs t fr)) → w'.heap[k]? = w.heap[k]?

theorem KF.refl (g : Nat) (w : World) : KF g w w := ⟨Below.refl _ _, fun _ _ _ => rfl⟩
theorem KF.trans {g : Nat} {a b c : World} (h : KF g a b) (k : KF g b c) : KF g a c :=
  ⟨h.1.trans k.1, fun i hi hc => by
    have e := h.2 i hi hc
    obtain ⟨cs, t, fr, hh⟩ := hc
    exact (k.2 i hi ⟨cs, t, fr, e.trans hh⟩).trans e⟩
theorem KF.of_below {g : Nat} {w w' : World} (hg : g ≤ w.heap.size) (h : Below w.heap.size w w') : KF g w w' :=
  ⟨h.mono hg, fun k _ ⟨_, _, _, hc⟩ => h.block k (Array.getElem?_eq_some_iff.1 hc).1⟩
theorem KF.size {g : Nat} {w w' : World} (h : KF g w w') : w.heap.size ≤ w'.heap.size := h.1.size
theorem KF.blk {g k : Nat} {w w' : World} {t : TypeId} {cs : List Value} (h : KF g w w') (hb : Blk w k t cs) (hk : k ≠ g) : Blk w' k t cs := by
  rcases Nat.lt_or_ge k g with hl | hl
  · exact hb.below h.1 hl
  · exact (h.2 k (by omega) ⟨_, _, _, hb⟩).trans hb
theorem KF.drew {g : Nat} {w w' : World} (h : KF g w w') : KF g w w'.drew := ⟨h.1.drew, h.2⟩
theorem KF.alloc {g : Nat} {w w' : World} (h : KF g w w') (hg : g ≤ w'.heap.size) (o : Obj) : KF g w (w'.alloc o) :=
  h.trans (KF.of_below hg ((Below.refl _ w').alloc (Nat.le_refl _) o))
theorem KF.grown {g : Nat} {w w' : World} {r : Nat} (hg : w.grownBy w' (some r)) (hr : g < r) (hm : ∃ es ck, w.heap[r]? = some (.map es ck)) : KF g w w' :=
  ⟨⟨hg.os, hg.tape, hg.output, hg.size, fun k hk => by
    rcases Nat.lt_or_ge k w.heap.size with h | h
    · exact hg.block k h (fun e => by have := Option.some.inj e; omega)
    · have := (Array.getElem?_eq_some_iff.1 hm.choose_spec.choose_spec).1
      omega⟩, fun k hk ⟨cs, t, fr, hc⟩ => hg.block k (Array.getElem?_eq_some_iff.1 hc).1 (fun e => by
    have e := Option.some.inj e
    subst e
    obtain ⟨es, ck, hm⟩ := hm
    rw [hm] at hc
    cases hc)⟩
/-- a cell of the table is written -/
theorem KF.self {g : Nat} {w w' : World} (hg : w.grownBy w' (some g)) (hl : g < w.heap.size) : KF g w w' :=
  ⟨⟨hg.os, hg.tape, hg.output, hg.size, fun k hk => hg.block k (by omega) (fun e => by have := Option.some.inj e; omega)⟩, fun k hk ⟨_, _, _, hc⟩ => hg.block k (Array.getElem?_eq_some_iff.1 hc).1 (fun e => by have := Option.some.inj e; omega)⟩

theorem MapIs.keep {w w' : World} {g : Nat} {f : Nat → Nat → List UInt8} {m : Option Nat} (h : MapIs w g f m) (hk : ∀ r, m = some r → w'.heap[r]? = w.heap[r]?) : MapIs w' g f m := fun r e => by
  obtain ⟨hg, es, ck, hb, hok⟩ := h r e
  exact ⟨hg, es, ck, (hk r e).trans hb, hok⟩
theorem MapIs.lt {w : World} {g : Nat} {f : Nat → Nat → List UInt8} {m : Option Nat} (h : MapIs w g f m) : ∀ r, m = some r → r < w.heap.size := fun r e => by
  obtain ⟨_, es, ck, hb, _⟩ := h r e
  exact (Array.getElem?_eq_some_iff.1 hb).1
theorem MapIs.through {w w' : World} {g : Nat} {f : Nat → Nat → List UInt8} {m : Option Nat} (h : MapIs w g f m) (hb : Below w.heap.size w w') : MapIs w' g f m := h.keep fun r e => hb.block r (h.lt r e)
theorem MapIs.none_ {w : World} {g : Nat} {f : Nat → Nat → List UInt8} : MapIs w g f none := fun _ e => by cases e
theorem TM.through {w w' : World} {g : Nat} {seed : List UInt8} {m : Option Nat} (h : TM w g seed m) (hb : Below w.heap.size w w') : TM w' g seed m := by
  obtain ⟨As, ns, cs, hk, hy, h1, h2, hm⟩ := h
  exact ⟨As, ns, cs, hk.through hb, hy.through hb, h1, h2, hm.through hb⟩
theorem TS.through {w w' : World} {g : Nat} {seed : List UInt8} (h : TS w g seed) (hb : Below w.heap.size w w') : TS w' g seed := by
  obtain ⟨m, hm⟩ := h
  exact ⟨m, hm.through hb⟩
theorem TS.lt {w : World} {g : Nat} {seed : List UInt8} (h : TS w g seed) : g < w.heap.size := by
  obtain ⟨m, As, ns, cs, hk, _⟩ := h
  exact hk.lt
theorem By.kf {w w' : World} {g n : Nat} {A : Option Addr} {xs : List UInt8} (h : By w (fun k => k < g) A n xs) (hf : KF g w w') : By w' (fun k => k < g) A n xs := h.below hf.1
/-- A map is in a block of its own: no cells there. -/
theorem Blk.ne_map {W : World} {k r : Nat} {t : TypeId} {cs : List Value} (h : Blk W k t cs) (hm : ∃ es ck, W.heap[r]? = some (.map es ck)) : some k ≠ some r := fun e => by
  have e := Option.some.inj e
  subst e
  obtain ⟨es, ck, hm⟩ := hm
  unfold Blk at h
  rw [hm] at h
  cases h

/-- An update of the map, at a step of a region that draws. -/
theorem step_update_two {ops : Array Oper} {o : Oper} {a : Act} {W : World} {K : Act → World → Prop} {R : Exit → Act → World → Prop} {E : Prop} (hw : Region.wanted o (yielded ops a.tmps) = true) (m x v : Operand)
    (ho : o.op = .mapUpdate 64 m x v) {g : Nat} {f : Nat → Nat → List UInt8} {r : Nat} (hm : MapIs W g f (some r)) (i j : Nat) (hem : a.eval m = .map (some r)) (hex : a.eval x = two i j) (hev : a.eval v = .agg (vs (f i j)).toArray)
    (h : ∀ W', MapIs W' g f (some r) → W.grownBy W' (some r) → K (a.put o.dst undef) W') : if Region.wanted o (yielded ops a.tmps) = true then Oper.wp Tryd.prog o a W K R else E := by
  rw [if_pos hw]
  obtain ⟨W', hrun, h1, h2⟩ := run_update_two hm i j
  unfold Oper.wp execOp
  simp only [ho, hem, hex, hev, Sem.run_bind, hrun, Result.andThen_ok]
  exact h W' h1 h2
theorem load_map {w : World} {p : Addr} {m : Option Nat} (h : w.cell? p = some (.map m)) : (Instr.loadAt 64 (.pointer (some p))).run Tryd.prog w = .ok (.map m) w := by
  have hag : (isAgg 64).run Tryd.prog w = .ok false w := by kernel_rfl
  simp only [Instr.loadAt, Instr.sureAddr, loadVar, Sem.run_bind, Sem.run_pure, hag, Result.andThen_ok, Bool.false_eq_true, if_false]
  simp [h]
theorem load_slice {w : World} {p : Addr} {v : Value} (h : w.cell? p = some v) : (Instr.loadAt 22 (.pointer (some p))).run Tryd.prog w = .ok v w := by
  have hag : (isAgg 22).run Tryd.prog w = .ok false w := by kernel_rfl
  simp only [Instr.loadAt, Instr.sureAddr, loadVar, Sem.run_bind, Sem.run_pure, hag, Result.andThen_ok, Bool.false_eq_true, if_false]
  simp [h]

/-- A store of one cell of a block that is known whole. -/
theorem wpList_store_map {w : World} {ops : Array Oper} {rest : List Oper} {o : Oper} {a : Act} {Q : Exit → Act → World → Prop} (hgd : o.guard = none) (x y : Operand) (ho : o.op = .store 64 x y)
    (g i : Nat) (hx : a.eval x = .pointer (some ⟨g, i, none⟩)) (m : Option Nat) (hy : a.eval y = .map m) (t : TypeId) (cs : List Value) (hb : Blk w g t cs) (hi : i < cs.length)
    (h : ∀ w', Blk w' g t (cs.set i (.map m)) → w.grownBy w' (some g) → wpList Tryd.prog ops Q rest (a.put o.dst undef) w') : wpList Tryd.prog ops Q (o :: rest) a w :=
  wpList_plain hgd fun K hK => by
    have hc := hb.cellAt (List.getElem?_eq_getElem hi)
    have hf := hb.frozen i
    have hcs : (Value.map m).cells = #[.map m] := rfl
    have hrun : (Instr.storeAt 64 (.pointer (some ⟨g, i, none⟩)) (.map m)).run Tryd.prog w = .ok () (w.setCell ⟨g, i, none⟩ (.map m)) := by
      simp only [Instr.storeAt, Instr.sureAddr, storeVar, Sem.run_bind, Sem.run_pure, Result.andThen_ok]
      have ha : (⟨g, i, none⟩ : Addr).add 0 = ⟨g, i, none⟩ := by simp [Addr.add]
      simp [hcs, storeCells, ha, store, Sem.run, hc, hf]
    unfold Oper.wp execOp
    simp only [ho, hx, hy, Sem.run_bind, hrun, Result.andThen_ok]
    exact hK _ _ (h _ (hb.set_ i (.map m)) (only_set w g i (.map m)))

end Go.Proofs.YtolildehdibpbaaDoor
