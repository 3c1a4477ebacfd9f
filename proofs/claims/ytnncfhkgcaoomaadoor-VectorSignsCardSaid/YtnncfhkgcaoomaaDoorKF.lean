/-
  The frame of an object with maps. No walk here.
-/
import Derived.Test.YtnncfhkgcaoomaaDoorBase
namespace Go.Proofs.YtnncfhkgcaoomaaDoor
open Go.RowKit

/-- Block g refers to the map in block k. -/
def Own (w : World) (g k : Nat) : Prop := ∃ (cs : Array Value) (t : TypeId) (fr : Nat × Nat) (i : Nat), w.heap[g]? = some (.cells cs t fr) ∧ cs[i]? = some (Value.map (some k))
theorem Own.congr {w w' : World} {g k : Nat} (e : w'.heap[g]? = w.heap[g]?) (h : Own w' g k) : Own w g k := by
  obtain ⟨cs, t, fr, i, h1, h2⟩ := h
  exact ⟨cs, t, fr, i, e ▸ h1, h2⟩
/-- WHAT A CALL OF THE OBJECT OF BLOCK g MAY TURN: the object itself, its own maps, and new blocks. -/
structure KF (g : Nat) (w w' : World) : Prop where
  low : Below g w w'
  cells : ∀ k, k ≠ g → (∃ cs t fr, w.heap[k]? = some (.cells cs t fr)) → w'.heap[k]? = w.heap[k]?
  rest : ∀ k, k < w.heap.size → k ≠ g → ¬ Own w g k → w'.heap[k]? = w.heap[k]?
  own : ∀ k, Own w' g k → Own w g k ∨ w.heap.size ≤ k
theorem KF.refl (g : Nat) (w : World) : KF g w w := ⟨Below.refl _ _, fun _ _ _ => rfl, fun _ _ _ _ => rfl, fun _ h => .inl h⟩
theorem KF.size {g : Nat} {w w' : World} (h : KF g w w') : w.heap.size ≤ w'.heap.size := h.low.size
theorem KF.trans {g : Nat} {a b c : World} (h : KF g a b) (k : KF g b c) : KF g a c :=
  ⟨h.low.trans k.low, fun i hi hc => by
    have e := h.cells i hi hc
    obtain ⟨cs, t, fr, hh⟩ := hc
    exact (k.cells i hi ⟨cs, t, fr, e.trans hh⟩).trans e,
   fun i hi hg ho => (k.rest i (Nat.lt_of_lt_of_le hi h.size) hg fun hb => by
      rcases h.own i hb with h1 | h1
      · exact ho h1
      · omega).trans (h.rest i hi hg ho),
   fun i ho => by
    rcases k.own i ho with h1 | h1
    · exact h.own i h1
    · exact .inr (Nat.le_trans h.size h1)⟩
theorem KF.of_below {g : Nat} {w w' : World} (hg : g < w.heap.size) (h : Below w.heap.size w w') : KF g w w' :=
  ⟨h.mono (Nat.le_of_lt hg), fun k _ ⟨_, _, _, hc⟩ => h.block k (Array.getElem?_eq_some_iff.1 hc).1, fun k hk _ _ => h.block k hk, fun _ ho => .inl (ho.congr (h.block g hg))⟩
theorem KF.blk {g k : Nat} {w w' : World} {t : TypeId} {cs : List Value} (h : KF g w w') (hb : Blk w k t cs) (hk : k ≠ g) : Blk w' k t cs := (h.cells k hk ⟨_, _, _, hb⟩).trans hb
theorem KF.drew {g : Nat} {w w' : World} (h : KF g w w') : KF g w w'.drew := ⟨h.low.drew, h.cells, h.rest, fun k hk => h.own k hk⟩
theorem KF.below {g : Nat} {w w' w'' : World} (h : KF g w w') (hg : g < w.heap.size) (hb : Below w'.heap.size w' w'') : KF g w w'' := h.trans (KF.of_below (Nat.lt_of_lt_of_le hg h.size) hb)
theorem KF.alloc {g : Nat} {w w' : World} (h : KF g w w') (hg : g < w.heap.size) (o : Obj) : KF g w (w'.alloc o) := h.below hg ((Below.refl _ w').alloc (Nat.le_refl _) o)
/-- one of its maps is turned -/
theorem KF.turn {g r : Nat} {w w' : World} (hg : w.grownBy w' (some r)) (hr : g < r) (ho : Own w g r) (hm : ∃ es ck, w.heap[r]? = some (.map es ck)) : KF g w w' := by
  have hrl : r < w.heap.size := by
    obtain ⟨_, _, hm⟩ := hm
    exact (Array.getElem?_eq_some_iff.1 hm).1
  refine ⟨⟨hg.os, hg.tape, hg.output, hg.size, fun k hk => hg.block k (by omega) (fun e => by have := Option.some.inj e; omega)⟩, fun k _ ⟨_, _, _, hc⟩ => hg.block k (Array.getElem?_eq_some_iff.1 hc).1 (fun e => ?_), fun k hk _ hno => hg.block k hk (fun e => hno (Option.some.inj e ▸ ho)), fun k hk => .inl (hk.congr (hg.block g (by omega) (fun e => by have := Option.some.inj e; omega)))⟩
  have e := Option.some.inj e
  subst e
  obtain ⟨es, ck, hm⟩ := hm
  rw [hm] at hc
  cases hc
/-- a new map is laid into one of its cells -/
theorem KF.newMap {g i : Nat} {w w' : World} {t : TypeId} {cs : List Value} {o : Obj} (hb : Blk w g t cs) (hb' : Blk w' g t (cs.set i (Value.map (some w.heap.size)))) (hg : (w.alloc o).grownBy w' (some g)) : KF g w w' := by
  have hl := hb.lt
  have hsz : (w.alloc o).heap.size = w.heap.size + 1 := by simp
  have hk' : ∀ k, k < w.heap.size → k ≠ g → w'.heap[k]? = w.heap[k]? := fun k hk hne => (hg.block k (by omega) (fun e => hne (Option.some.inj e))).trans (Below.heap_alloc w o k hk)
  refine ⟨((Below.refl _ w).alloc (Nat.le_of_lt hl) o).grown hg (by omega) (fun k hk => Option.some.inj hk ▸ Nat.le_refl _), fun k hne ⟨_, _, _, hc⟩ => hk' k (Array.getElem?_eq_some_iff.1 hc).1 hne, fun k hk hne _ => hk' k hk hne, fun k ho => ?_⟩
  obtain ⟨cs', t', fr, j, h1, h2⟩ := ho
  rw [show w'.heap[g]? = _ from hb'] at h1
  injection h1 with h1
  injection h1 with h1 _
  subst h1
  rw [List.getElem?_toArray, List.getElem?_set] at h2
  split at h2
  · split at h2
    · injection h2 with h2
      injection h2 with h2
      exact .inr (Nat.le_of_eq (Option.some.inj h2))
    · cases h2
  · exact .inl ⟨cs.toArray, t, (0, 0), j, hb, by simpa using h2⟩
/-- The answer's own block is written. -/
theorem KF.grownB {g b : Nat} {w W W' : World} (h : KF g w W) (ho : W.grownBy W' (some b)) (hb : w.heap.size ≤ b) (hg : g < w.heap.size) : KF g w W' :=
  ⟨h.low.grown ho (Nat.le_trans (Nat.le_of_lt hg) h.size) (fun k hk => Option.some.inj hk ▸ Nat.le_trans (Nat.le_of_lt hg) hb), fun k hk hc => by
    have e := h.cells k hk hc
    obtain ⟨_, _, _, hc⟩ := hc
    have hl := (Array.getElem?_eq_some_iff.1 hc).1
    exact (ho.block k (Nat.lt_of_lt_of_le hl h.size) (fun e' => by have := Option.some.inj e'; omega)).trans e,
   fun k hk hne hno => (ho.block k (Nat.lt_of_lt_of_le hk h.size) (fun e' => by have := Option.some.inj e'; omega)).trans (h.rest k hk hne hno),
   fun k hk => h.own k (hk.congr (ho.block g (Nat.lt_of_lt_of_le hg h.size) (fun e' => by have := Option.some.inj e'; omega)))⟩
theorem KF.row {g b : Nat} {w W : World} {cs : Array Value} (h : KF g w W) (hb : w.heap.size ≤ b) (hg : g < w.heap.size) : KF g w (W.setRow b cs) := h.grownB (only_row W b cs) hb hg
/-- Bytes read as they did behind such a call. -/
theorem By.kf {w w' : World} {Q : Nat → Prop} {g n : Nat} {A : Option Addr} {xs : List UInt8} (h : By w Q A n xs) (hf : KF g w w') (hQ : ∀ k, Q k → k ≠ g) : By w' Q A n xs :=
  ⟨h.1, fun hn => by
    obtain ⟨b, o, e, hq, hc⟩ := h.2 hn
    have hl : 0 < xs.length := by have := h.1; omega
    have h0 := hc 0 xs[0] (List.getElem?_eq_getElem hl)
    have hcell : ∃ cs t fr, w.heap[b]? = some (.cells cs t fr) := by
      unfold World.cell? at h0
      cases hb : w.heap[b]? with
      | none => simp [hb] at h0
      | some o => cases o <;> simp_all
    exact ⟨b, o, e, hq, fun j u hu => (World.cell?_of_block (a := ⟨b, o + j, none⟩) (hf.cells b (hQ b hq) hcell)).trans (hc j u hu)⟩⟩
/-- Bytes of a block below the object's. -/
theorem By.kfLow {w w' : World} {g n : Nat} {A : Option Addr} {xs : List UInt8} (h : By w (fun k => k < g) A n xs) (hf : KF g w w') : By w' (fun k => k < g) A n xs := h.below hf.low
/-- a load of one cell -/
theorem load_one' {P : Program} {t : TypeId} {w : World} (hag : (isAgg t).run P w = .ok false w) {p : Addr} {v : Value} (h : w.cell? p = some v) : (Instr.loadAt t (.pointer (some p))).run P w = .ok v w := by
  simp only [Instr.loadAt, Instr.sureAddr, loadVar, Sem.run_bind, Sem.run_pure, hag, Result.andThen_ok, Bool.false_eq_true, if_false]
  simp [h]
/-- A store of one cell of a block that is known whole. -/
theorem wpList_store_cell {P : Program} {w : World} {ops : Array Oper} {rest : List Oper} {o : Oper} {a : Act} {Q : Exit → Act → World → Prop} (hgd : o.guard = none) (ty : TypeId) (x y : Operand) (ho : o.op = .store ty x y)
    (g i : Nat) (hx : a.eval x = .pointer (some ⟨g, i, none⟩)) (v : Value) (hy : a.eval y = v) (hv : v.cells = #[v]) (hv1 : v.oneCell' = true) (hsz : ∀ w, (sizeOf ty).run P w = .ok 1 w) (t : TypeId) (cs : List Value) (hb : Blk w g t cs) (hi : i < cs.length)
    (h : ∀ w', Blk w' g t (cs.set i v) → w.grownBy w' (some g) → wpList P ops Q rest (a.put o.dst undef) w') : wpList P ops Q (o :: rest) a w :=
  wpList_plain hgd fun K hK => by
    have hc := hb.cellAt (List.getElem?_eq_getElem hi)
    have hf := hb.frozen i
    have hrun : (Instr.storeAt ty (.pointer (some ⟨g, i, none⟩)) v).run P w = .ok () (w.setCell ⟨g, i, none⟩ v) := by
      simp only [Instr.storeAt, Instr.sureAddr, storeVar, Sem.run_bind, Sem.run_pure, Result.andThen_ok]
      have ha : (⟨g, i, none⟩ : Addr).add 0 = ⟨g, i, none⟩ := by simp [Addr.add]
      have hst := run_store P w ⟨g, i, none⟩ v .plain hv1
      simp only [hc, hf, Bool.false_eq_true, if_false] at hst
      simp [hv, storeCells, ha, hsz, hst]
    unfold Oper.wp execOp
    simp only [ho, hx, hy, Sem.run_bind, hrun, Result.andThen_ok]
    exact hK _ _ (h _ (hb.set_ i v) (only_set w g i v))
/-- '!=' of arrays by their '=='. -/
theorem arr_neq {P : Program} {t : TypeId} {A B : Array Value} {b : Bool} (h : ∀ w, (binOp .eql t (.agg A) (.agg B)).run P w = .ok (.bool b) w) (w : World) : (binOp .neq t (.agg A) (.agg B)).run P w = .ok (.bool (!b)) w := by
  have h := h w
  rw [run_eql_struct] at h
  rw [run_neq_struct]
  cases hq : (Op.equalIn 10000 t (.agg A) (.agg B)).run P w with
  | ok c w' =>
    rw [hq] at h
    simp only [Result.andThen_ok] at h ⊢
    injection h with h1 h2
    injection h1 with h1
    rw [h1, h2]
  | halt x w' =>
    rw [hq] at h
    simp [Result.andThen] at h

end Go.Proofs.YtnncfhkgcaoomaaDoor
