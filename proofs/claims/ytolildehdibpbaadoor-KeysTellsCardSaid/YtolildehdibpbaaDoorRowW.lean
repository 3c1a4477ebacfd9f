/-
  WORDS FOR ARRAYS IN MEMORY: a block whose cells are a list; an index into an array by value. No walk here.
-/
import Derived.Test.YtolildehdibpbaaDoorSha
namespace Go.Proofs.YtolildehdibpbaaDoor
open Go.RowKit

/-- Block g is just these cells, of type t, all of which may be written. -/
def Blk (w : World) (g : Nat) (t : TypeId) (cs : List Value) : Prop := w.heap[g]? = some (.cells cs.toArray t (0, 0))
section
variable {w w' : World} {g : Nat} {t : TypeId} {cs : List Value}
theorem Blk.lt (h : Blk w g t cs) : g < w.heap.size := (Array.getElem?_eq_some_iff.1 h).1
theorem Blk.cell (h : Blk w g t cs) (i : Nat) : w.cell? ⟨g, i, none⟩ = cs[i]? := by rw [cell_of_row w g i _ t (0, 0) h]; simp
theorem Blk.cellAt (h : Blk w g t cs) {i : Nat} {v : Value} (hv : cs[i]? = some v) : w.cell? ⟨g, i, none⟩ = some v := (h.cell i).trans hv
theorem Blk.frozen (h : Blk w g t cs) (i : Nat) : w.frozen? ⟨g, i, none⟩ = false := frozen_of_row w g i _ t h
theorem Blk.new (w : World) (t : TypeId) (cs : List Value) : Blk (w.alloc (.cells cs.toArray t)) w.heap.size t cs := heap_alloc_new w _
theorem Blk.fresh {A : Array Value} (hg : g = w.heap.size) (h : A = cs.toArray) : Blk (w.alloc (.cells A t)) g t cs := by
  subst hg; subst h
  exact Blk.new w t cs
theorem Blk.drew (h : Blk w g t cs) : Blk w.drew g t cs := h
theorem Blk.drewN (h : Blk w g t cs) (n : Nat) : Blk (w.drewN n) g t cs := h
theorem Blk.alloc (h : Blk w g t cs) (o : Obj) : Blk (w.alloc o) g t cs := (Below.heap_alloc w o g h.lt).trans h
theorem Blk.set_ (h : Blk w g t cs) (i : Nat) (u : Value) : Blk (w.setCell ⟨g, i, none⟩ u) g t (cs.set i u) := by
  unfold Blk at h ⊢
  simp [World.setCell, Array.getElem?_modify, h]
theorem Blk.far (h : Blk w g t cs) {p : Addr} (hp : g ≠ p.block) (u : Value) : Blk (w.setCell p u) g t cs := (Below.heap_setCell w p u g hp).trans h
theorem Blk.below {B : Nat} (h : Blk w g t cs) (hb : Below B w w') (hg : g < B) : Blk w' g t cs := (hb.block g hg).trans h
theorem Blk.through (h : Blk w g t cs) (hb : Below w.heap.size w w') : Blk w' g t cs := h.below hb h.lt
theorem Blk.grown {row : Option Nat} (h : Blk w g t cs) (hb : w.grownBy w' row) (hg : some g ≠ row) : Blk w' g t cs := (hb.block g h.lt hg).trans h
theorem Blk.row (h : Blk w g t cs) (cs' : List Value) : Blk (w.setRow g cs'.toArray) g t cs' := setRow_heap w g _ _ t _ h
theorem Blk.rowFar (h : Blk w g t cs) {g' : Nat} (hg : g ≠ g') (cs' : Array Value) : Blk (w.setRow g' cs') g t cs := (setRow_other w g' g cs' hg).trans h
theorem below_row {B : Nat} {v w : World} (hb : Below B v w) (g : Nat) (hg : B ≤ g) (cs : Array Value) : Below B v (w.setRow g cs) :=
  hb.trans ⟨rfl, rfl, rfl, by simp [World.setRow], fun k hk => setRow_other w g k cs (by omega)⟩
theorem below_drewN {B : Nat} {v w : World} (h : Below B v w) (n : Nat) : Below B v (w.drewN n) := ⟨h.os, h.tape, h.output, h.size, h.block⟩
theorem Blk.ne_ {g' : Nat} {t' : TypeId} {cs' : List Value} (h : Blk w g t cs) (h' : Blk w g' t' cs') (hne : t ≠ t') : g ≠ g' := by
  rintro rfl
  unfold Blk at h h'
  rw [h] at h'
  injection h' with h'
  injection h' with _ ht
  exact hne ht
end

theorem one_u32 {xs : List UInt32} : (xs.map c32).toArray.all (·.oneCell') = true := by
  refine Array.all_eq_true_iff_forall_mem.2 fun v hv => ?_
  obtain ⟨x, _, rfl⟩ := List.mem_map.1 (by simpa using hv)
  rfl
theorem one_u8 {xs : List UInt8} : (vs xs).toArray.all (·.oneCell') = true :=
  Array.all_eq_true_iff_forall_mem.2 fun v hv => vs_one v (by simpa using hv)
/-- Cells that are written from the head on: so many new ones, then the old ones. -/
def swp (new old : List Value) (k : Nat) : List Value := new.take k ++ old.drop k
theorem swp_0 (new old : List Value) : swp new old 0 = old := by simp [swp]
theorem swp_all (new old : List Value) (k : Nat) (h1 : new.length = k) (h2 : old.length = k) : swp new old k = new := by
  unfold swp
  rw [List.take_of_length_le (by omega), List.drop_eq_nil_of_le (by omega), List.append_nil]
theorem swp_at (new old : List Value) (k : Nat) (hn : k < new.length) : (swp new old k)[k]? = old[k]? := by
  unfold swp
  rw [List.getElem?_append_right (by simp; omega), List.length_take, Nat.min_eq_left (by omega), Nat.sub_self, List.getElem?_drop]
  rfl
theorem swp_set (new old : List Value) (k : Nat) (v : Value) (hn : new[k]? = some v) (ho : k < old.length) : (swp new old k).set k v = swp new old (k + 1) := by
  have hk : k < new.length := (List.getElem?_eq_some_iff.1 hn).1
  have hv : new[k] = v := (List.getElem?_eq_some_iff.1 hn).2
  unfold swp
  rw [List.set_append_right _ _ (by rw [List.length_take]; exact Nat.min_le_left _ _), List.length_take, Nat.min_eq_left (by omega), Nat.sub_self, List.take_succ_eq_append_getElem hk, List.append_assoc]
  congr 1
  rw [List.drop_eq_getElem_cons ho, hv]
  rfl
/-- Eight words, as cells. -/
def S8.cells (s : S8) : List Value := s.list.map c32
theorem S8.cells_length (s : S8) : s.cells.length = 8 := rfl
theorem S8.cells_at (s : S8) (k : Nat) (hk : k < 8) : s.cells[k]? = some (.int .u32 (n32 (s.list.getD k 0))) := by
  have hl : k < s.list.length := hk
  unfold S8.cells
  rw [List.getElem?_map, List.getElem?_eq_getElem hl]
  simp [c32, List.getD, hl]
theorem S8.plus_at (s t : S8) (k : Nat) (hk : k < 8) : (s.plus t).list.getD k 0 = s.list.getD k 0 + t.list.getD k 0 := by
  match k, hk with
  | 0, _ => rfl
  | 1, _ => rfl
  | 2, _ => rfl
  | 3, _ => rfl
  | 4, _ => rfl
  | 5, _ => rfl
  | 6, _ => rfl
  | 7, _ => rfl
theorem wpList_build_to {P : Program} {ops : Array Oper} {rest : List Oper} {o : Oper} {a : Act} {w : World} {Q : Exit → Act → World → Prop} (hg : o.guard = none) (t : TypeId) (parts : List (Nat × Operand)) (ho : o.op = .build t parts.toArray)
    (vals : List (Nat × Value)) (hv : (parts.map fun p => (p.1, a.eval p.2)) = vals) (v : Value) (hrun : (Instr.build t vals.toArray).run P w = .ok v w)
    (h : wpList P ops Q rest (a.put o.dst v) w) : wpList P ops Q (o :: rest) a w :=
  wpList_plain hg fun _ hK => by
    unfold Oper.wp execOp
    subst hv
    simp only [ho, Sem.run_bind, List.map_toArray, hrun, Result.andThen_ok]
    exact hK _ _ h

/-- 'arr[:h]' of an array behind a pointer. -/
theorem run_sliceArr_h {P : Program} (w : World) (t e : TypeId) (n : Nat) (a : Addr) (k : IntKind) (h : Int) (ht : P.underlying t = some (.array n e)) (hs : ((P.info? e).map (·.size)).isSome = true) (h0 : 0 ≤ h) (h1 : h ≤ n) :
    (Instr.sliceAt t (.pointer (some a)) none (some (.int k h)) none).run P w = .ok (.slice (some a) h.toNat n) w := by
  have eh : (h.toNat : Int) = h := Int.toNat_of_nonneg h0
  have ea : a.add 0 = a := by simp [Addr.add]
  cases hq : P.info? e with
  | none => simp [hq] at hs
  | some info => simp [Instr.sliceAt, Instr.sureAddr, Sem.run_bind, run_underlying ht, Instr.sliceBounds, run_sliceBound, sizeOf, typeInfo, hq, h0, h1, ea]
/-- 'arr[l:]' of an array behind a pointer, of one-cell elements. -/
theorem run_sliceArr_l {P : Program} (w : World) (t e : TypeId) (n g o : Nat) (k : IntKind) (l : Int) (ht : P.underlying t = some (.array n e)) (hs : (P.info? e).map (·.size) = some 1) (h0 : 0 ≤ l) (h1 : l < n) :
    (Instr.sliceAt t (.pointer (some ⟨g, o, none⟩)) (some (.int k l)) none none).run P w = .ok (.slice (some ⟨g, o + l.toNat, none⟩) (n - l.toNat) (n - l.toNat)) w := by
  have hne : ¬ n = l.toNat := by omega
  have h1' : l ≤ n := by omega
  have ea : (⟨g, o, none⟩ : Addr).add l.toNat = ⟨g, o + l.toNat, none⟩ := by unfold Addr.add; split <;> simp_all
  cases hq : P.info? e with
  | none => simp [hq] at hs
  | some info =>
    have hi : info.size = 1 := by simpa [hq] using hs
    simp [Instr.sliceAt, Instr.sureAddr, Sem.run_bind, run_underlying ht, Instr.sliceBounds, run_sliceBound, sizeOf, typeInfo, hq, hi, h0, h1', ea, hne]
/-- An index into an array by value, of one-cell elements. -/
theorem run_index_row {P : Program} (w : World) (t e : TypeId) (n : Nat) (cs : List Value) (k : IntKind) (i : Nat) (v : Value) (h : P.underlying t = some (.array n e))
    (he : (isAgg e).run P w = .ok false w) (hs : (P.info? e).map (·.size) = some 1) (hi : i < n) (hv : cs[i]? = some v) : (Instr.index t (.agg cs.toArray) (.int k i)).run P w = .ok v w := by
  cases hq : P.info? e with
  | none => simp [hq] at hs
  | some info =>
    have hs1 : info.size = 1 := by simpa [hq] using hs
    simp [Instr.index, asIntOf, Sem.run_bind, run_underlying h, sizeOf, typeInfo, hq, hs1, part, he, hi, hv]

theorem vs_getD (b : List UInt8) (j : Nat) (h : j < b.length) : (vs b)[j]? = some (.int .u8 ((b.getD j 0).toNat : Int)) := by
  rw [vs_get, List.getElem?_eq_getElem h]
  simp [u8, List.getD, h]

end Go.Proofs.YtolildehdibpbaaDoor
