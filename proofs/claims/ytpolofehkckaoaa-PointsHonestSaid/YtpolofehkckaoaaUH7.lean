/-
  Joined: B2.
-/
import Derived.Handy
import Derived.WalkSpells
import Derived.Deep.AppendLies
import Derived.Deep.Draws
import Derived.Deep.AppendSrc
import Derived.Deep.RegionLaw
import Derived.Lib.Hide
import Derived.Laws.CopyOwn
import Derived.Deep.MidRow
import Derived.Deep.RegionHeld
import Derived.Outline
import Derived.Lib.SlBytesConst
import Derived.ChangeKeysEq
import Derived.Laws.StructEq
import Derived.Laws.BitsAllLaws
import Derived.IntWalk
import Derived.MapKept
import Derived.Lib.ConvBytes
import Derived.Test.YtpolofehkckaoaaUH2
import Derived.Test.YtpolofehkckaoaaUH3
import Derived.Test.YtpolofehkckaoaaUH5
namespace Go.Proofs.Ytpolofehkckaoaa
open Go.RowKit

theorem wpList_build_to {P : Program} {ops : Array Oper} {rest : List Oper} {o : Oper} {a : Act} {w : World} {Q : Exit → Act → World → Prop} (hg : o.guard = none) (t : TypeId) (parts : List (Nat × Operand)) (ho : o.op = .build t parts.toArray)
    (vals : List (Nat × Value)) (hv : (parts.map fun p => (p.1, a.eval p.2)) = vals) (v : Value) (hrun : (Instr.build t vals.toArray).run P w = .ok v w)
    (h : wpList P ops Q rest (a.put o.dst v) w) : wpList P ops Q (o :: rest) a w :=
  wpList_plain hg fun _ hK => by
    unfold Oper.wp execOp
    subst hv
    simp only [ho, Sem.run_bind, List.map_toArray, hrun, Result.andThen_ok]
    exact hK _ _ h

theorem Blk.cells {t : TypeId} (g : Nat) : ∀ (vs : List Value) (pre old rest : List Value) (w : World), old.length = vs.length → Blk w g t (pre ++ (old ++ rest)) → Blk (w.setCells g pre.length vs) g t (pre ++ (vs ++ rest))
  | [], pre, old, rest, w, hl, h => by
    obtain rfl : old = [] := List.eq_nil_of_length_eq_zero hl
    exact h
  | v :: r, pre, [], rest, w, hl, h => by simp at hl
  | v :: r, pre, x :: old, rest, w, hl, h => by
    rw [World.setCells]
    have h1 := h.set_ pre.length v
    rw [List.set_append_right _ _ (Nat.le_refl _), Nat.sub_self] at h1
    have h2 : Blk (w.setCell ⟨g, pre.length, none⟩ v) g t ((pre ++ [v]) ++ (old ++ rest)) := by
      rw [List.append_assoc]
      exact h1
    have h3 := Blk.cells g r (pre ++ [v]) old rest _ (by simpa using hl) h2
    rw [List.length_append] at h3
    rw [List.append_assoc] at h3
    exact h3

theorem By.fresh {w : World} {A : Array Value} {e : TypeId} {fr : Nat × Nat} (xs : List UInt8) (h : A = (vs xs).toArray) : By (w.alloc (.cells A e fr)) (fun _ => True) (some ⟨w.heap.size, 0, none⟩) xs.length xs :=
  ⟨rfl, fun _ => ⟨_, 0, rfl, trivial, fun j u hu => by
    subst h
    rw [Nat.zero_add, cell_of_row _ w.heap.size _ _ _ _ (heap_alloc_new w _), List.getElem?_toArray, vs_get, hu]
    rfl⟩⟩

theorem run_eqItems_bytes {P : Program} (d : Nat) (e : TypeId) (w : World) (he : P.underlying e = some (.int .u8)) (xs ys : List UInt8) :
    ∀ (m k : Nat), k + m = xs.length → xs.length = ys.length → (Op.eqItems (d + 1) e 1 (vs xs).toArray (vs ys).toArray (List.range' k m)).run P w = .ok (xs.drop k == ys.drop k) w
  | 0, k, h, hl => by
    rw [List.drop_eq_nil_of_le (by omega), List.drop_eq_nil_of_le (by omega)]
    rfl
  | m + 1, k, h, hl => by
    have hk : k < xs.length := by omega
    have hk2 : k < ys.length := by omega
    have hag : (isAgg e).run P w = .ok false w := by simp [isAgg, Sem.run_bind, run_underlying he]
    have hp : ∀ zs : List UInt8, (hz : k < zs.length) → (part e (vs zs).toArray (k * 1)).run P w = .ok (u8 zs[k]) w := fun zs hz => by
      have hv : (vs zs)[k]? = some (u8 zs[k]) := by rw [vs_get, List.getElem?_eq_getElem hz]; rfl
      simp [part, Sem.run_bind, hag, hv]
    have ih := run_eqItems_bytes d e w he xs ys m (k + 1) (by omega) hl
    rw [List.range'_succ]
    simp only [Op.eqItems, Sem.run_bind, hp xs hk, hp ys hk2, Result.andThen_ok]
    unfold u8
    rw [run_equalIn_int w d e .u8 .u8 _ _ he, List.drop_eq_getElem_cons hk, List.drop_eq_getElem_cons hk2]
    simp only [Result.andThen_ok, List.cons_beq_cons]
    by_cases hx : xs[k] = ys[k]
    · simp [hx, ih]
    · have hne : ((xs[k].toNat : Int) == (ys[k].toNat : Int)) = false := by
        simp only [beq_eq_false_iff_ne, ne_eq]
        intro h
        exact hx (UInt8.toNat_inj.1 (by omega))
      simp [hne, hx]

/-- Block g refers to the map in block k. -/
def Own (w : World) (g k : Nat) : Prop := ∃ (cs : Array Value) (t : TypeId) (fr : Nat × Nat) (i : Nat), w.heap[g]? = some (.cells cs t fr) ∧ cs[i]? = some (Value.map (some k))

theorem Own.congr {w w' : World} {g k : Nat} (e : w'.heap[g]? = w.heap[g]?) (h : Own w' g k) : Own w g k := by
  obtain ⟨cs, t, fr, i, h1, h2⟩ := h
  exact ⟨cs, t, fr, i, e ▸ h1, h2⟩

/-- WHAT A CALL OF THE OBJECT OF BLOCK g MAY TURN: the object itself, its own maps, and new blocks. -/
structure KF (g : Nat) (w w' : World) : Prop where
  low : Below g w w'
  cells : ∀ k, k ≠ g → (∃ cs t fr, w.heap[k]? = some (.cells cs t fr)) → w'.heap[k]? = w.heap[k]?
  rest : ∀ k, k < w.heap.size → k ≠ g → ¬ Own w g k → w'.heap[k]? = w.heap[k]?
  own : ∀ k, Own w' g k → Own w g k ∨ w.heap.size ≤ k

theorem KF.refl (g : Nat) (w : World) : KF g w w := ⟨Below.refl _ _, fun _ _ _ => rfl, fun _ _ _ _ => rfl, fun _ h => .inl h⟩

theorem KF.size {g : Nat} {w w' : World} (h : KF g w w') : w.heap.size ≤ w'.heap.size := h.low.size

theorem KF.trans {g : Nat} {a b c : World} (h : KF g a b) (k : KF g b c) : KF g a c :=
  ⟨h.low.trans k.low, fun i hi hc => by
    have e := h.cells i hi hc
    obtain ⟨cs, t, fr, hh⟩ := hc
    exact (k.cells i hi ⟨cs, t, fr, e.trans hh⟩).trans e,
   fun i hi hg ho => (k.rest i (Nat.lt_of_lt_of_le hi h.size) hg fun hb => by
      rcases h.own i hb with h1 | h1
      · exact ho h1
      · omega).trans (h.rest i hi hg ho),
   fun i ho => by
    rcases k.own i ho with h1 | h1
    · exact h.own i h1
    · exact .inr (Nat.le_trans h.size h1)⟩

theorem KF.of_below {g : Nat} {w w' : World} (hg : g < w.heap.size) (h : Below w.heap.size w w') : KF g w w' :=
  ⟨h.mono (Nat.le_of_lt hg), fun k _ ⟨_, _, _, hc⟩ => h.block k (Array.getElem?_eq_some_iff.1 hc).1, fun k hk _ _ => h.block k hk, fun _ ho => .inl (ho.congr (h.block g hg))⟩

theorem KF.blk {g k : Nat} {w w' : World} {t : TypeId} {cs : List Value} (h : KF g w w') (hb : Blk w k t cs) (hk : k ≠ g) : Blk w' k t cs := (h.cells k hk ⟨_, _, _, hb⟩).trans hb

theorem KF.drew {g : Nat} {w w' : World} (h : KF g w w') : KF g w w'.drew := ⟨h.low.drew, h.cells, h.rest, fun k hk => h.own k hk⟩

theorem KF.below {g : Nat} {w w' w'' : World} (h : KF g w w') (hg : g < w.heap.size) (hb : Below w'.heap.size w' w'') : KF g w w'' := h.trans (KF.of_below (Nat.lt_of_lt_of_le hg h.size) hb)

theorem KF.alloc {g : Nat} {w w' : World} (h : KF g w w') (hg : g < w.heap.size) (o : Obj) : KF g w (w'.alloc o) := h.below hg ((Below.refl _ w').alloc (Nat.le_refl _) o)

/-- one of its maps is turned -/
theorem KF.turn {g r : Nat} {w w' : World} (hg : w.grownBy w' (some r)) (hr : g < r) (ho : Own w g r) (hm : ∃ es ck, w.heap[r]? = some (.map es ck)) : KF g w w' := by
  have hrl : r < w.heap.size := by
    obtain ⟨_, _, hm⟩ := hm
    exact (Array.getElem?_eq_some_iff.1 hm).1
  refine ⟨⟨hg.os, hg.tape, hg.output, hg.size, fun k hk => hg.block k (by omega) (fun e => by have := Option.some.inj e; omega)⟩, fun k _ ⟨_, _, _, hc⟩ => hg.block k (Array.getElem?_eq_some_iff.1 hc).1 (fun e => ?_), fun k hk _ hno => hg.block k hk (fun e => hno (Option.some.inj e ▸ ho)), fun k hk => .inl (hk.congr (hg.block g (by omega) (fun e => by have := Option.some.inj e; omega)))⟩
  have e := Option.some.inj e
  subst e
  obtain ⟨es, ck, hm⟩ := hm
  rw [hm] at hc
  cases hc

/-- The answer's own block is written. -/
theorem KF.grownB {g b : Nat} {w W W' : World} (h : KF g w W) (ho : W.grownBy W' (some b)) (hb : w.heap.size ≤ b) (hg : g < w.heap.size) : KF g w W' :=
  ⟨h.low.grown ho (Nat.le_trans (Nat.le_of_lt hg) h.size) (fun k hk => Option.some.inj hk ▸ Nat.le_trans (Nat.le_of_lt hg) hb), fun k hk hc => by
    have e := h.cells k hk hc
    obtain ⟨_, _, _, hc⟩ := hc
    have hl := (Array.getElem?_eq_some_iff.1 hc).1
    exact (ho.block k (Nat.lt_of_lt_of_le hl h.size) (fun e' => by have := Option.some.inj e'; omega)).trans e,
   fun k hk hne hno => (ho.block k (Nat.lt_of_lt_of_le hk h.size) (fun e' => by have := Option.some.inj e'; omega)).trans (h.rest k hk hne hno),
   fun k hk => h.own k (hk.congr (ho.block g (Nat.lt_of_lt_of_le hg h.size) (fun e' => by have := Option.some.inj e'; omega)))⟩

theorem KF.row {g b : Nat} {w W : World} {cs : Array Value} (h : KF g w W) (hb : w.heap.size ≤ b) (hg : g < w.heap.size) : KF g w (W.setRow b cs) := h.grownB (only_row W b cs) hb hg

end Go.Proofs.Ytpolofehkckaoaa
