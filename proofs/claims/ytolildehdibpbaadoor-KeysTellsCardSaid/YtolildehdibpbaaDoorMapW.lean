/-
  A map whose keys are two numbers: find, lookup, update. No walk here.
-/
import Derived.Test.YtolildehdibpbaaDoorMacW
import Derived.ChangeKeysEq
import Derived.MapKept
namespace Go.Proofs.YtolildehdibpbaaDoor
open Go.RowKit

/-- Two numbers, as a key. -/
def two (x y : Nat) : Value := .agg #[.int .u16 (x : Int), .int .u16 (y : Int)]
theorem two_inj {x y x' y' : Nat} : two x y = two x' y' ↔ x = x' ∧ y = y' := by
  constructor
  · intro h
    injection h with h
    have h0 := congrArg (fun a => a[0]?) h
    have h1 := congrArg (fun a => a[1]?) h
    simp at h0 h1
    exact ⟨by omega, by omega⟩
  · rintro ⟨rfl, rfl⟩
    rfl
theorem Tryd.info_u16 : (Tryd.prog.info? 67).isSome = true := by kernel_rfl
theorem Tryd.cells_u16 : Tryd.prog.cellsOf 67 = 1 := by kernel_rfl

theorem run_two_eql (x y x' y' : Nat) (w : World) : (Op.equal 68 (two x y) (two x' y')).run Tryd.prog w = .ok (decide (x = x') && decide (y = y')) w := by
  obtain ⟨i, hi⟩ := Option.isSome_iff_exists.1 Tryd.info_u16
  have hag : (isAgg 67).run Tryd.prog w = .ok false w := by simp [isAgg, Sem.run_bind, run_underlying Tryd.underlying67]
  have e1 : ((x : Int) == (x' : Int)) = decide (x = x') := by rw [Bool.eq_iff_iff]; simp; omega
  have e2 : ((y : Int) == (y' : Int)) = decide (y = y') := by rw [Bool.eq_iff_iff]; simp; omega
  unfold two
  show (Op.equalIn 10000 68 _ _).run Tryd.prog w = _
  rw [show (10000 : Nat) = 9998 + 1 + 1 from rfl, run_equalIn_array w (9998 + 1) _ _ Tryd.underlying68 hi, Tryd.cells_u16]
  simp [List.range, List.range.loop, Op.eqItems, part, Sem.run_bind, hag, run_equalIn_int w 9998 67 .u16 .u16 _ _ Tryd.underlying67, e1, e2]
  by_cases h : x = x' <;> by_cases h2 : y = y' <;> simp [h, h2]
theorem run_checkKey_u16 (em : Bool) (n : Nat) (v : Int) (w : World) : (Instr.checkKey em (n + 1) 67 (.int .u16 v)).run Tryd.prog w = .ok () w := by
  unfold Instr.checkKey
  simp [run_underlying Tryd.underlying67]
theorem run_checkKey_twoN (em : Bool) (n : Nat) (x y : Nat) (w : World) : (Instr.checkKey em (n + 1 + 1) 68 (two x y)).run Tryd.prog w = .ok () w := by
  obtain ⟨i, hi⟩ := Option.isSome_iff_exists.1 Tryd.info_u16
  unfold two
  rw [Instr.checkKey]
  simp only [Sem.run_bind, run_underlying Tryd.underlying68, Result.andThen_ok, Std.Legacy.Range.forIn_eq_forIn_range', Std.Legacy.Range.size, Nat.sub_zero, Nat.add_one_sub_one, Nat.div_one]
  simp [List.range', run_sizeOf w hi, Tryd.cells_u16, part, run_checkKey_u16]
theorem run_checkKey_two (em : Bool) (x y : Nat) (w : World) : (Instr.checkKey em 10000 68 (two x y)).run Tryd.prog w = .ok () w := run_checkKey_twoN em 9998 x y w
/-- What is found in entries whose keys are two numbers, in whatever world. -/
theorem run_findAsking_two (x y : Nat) : ∀ (es : List MapEntry) (k : Nat), (∀ e ∈ es, ∃ x' y' : Nat, e.key = two x' y') →
    ∃ r, (∀ w, (Instr.findAsking 68 (two x y) es k).run Tryd.prog w = .ok r w) ∧ (r = none ∨ ∃ j e, r = some (k + j, e.val) ∧ es[j]? = some e ∧ e.key = two x y)
  | [], k, _ => ⟨none, fun _ => rfl, .inl rfl⟩
  | e :: es, k, h => by
    obtain ⟨x', y', he⟩ := h e (List.mem_cons_self ..)
    have hq := run_two_eql x y x' y'
    by_cases hxy : x = x' ∧ y = y'
    · obtain ⟨rfl, rfl⟩ := hxy
      exact ⟨some (k, e.val), fun w => by simp [Instr.findAsking, Sem.run_bind, he, hq], .inr ⟨0, e, rfl, rfl, he⟩⟩
    · have hf : (decide (x = x') && decide (y = y')) = false := by simpa using hxy
      obtain ⟨r, hr, h2⟩ := run_findAsking_two x y es (k + 1) fun e' h' => h e' (List.mem_cons_of_mem _ h')
      refine ⟨r, fun w => by simp [Instr.findAsking, Sem.run_bind, he, hq, hf, hr], ?_⟩
      rcases h2 with h2 | ⟨j, e', h3, h4, h5⟩
      · exact .inl h2
      · exact .inr ⟨j + 1, e', by rw [h3]; congr 2; omega, by simpa using h4, h5⟩
theorem run_findKey_two (x y : Nat) (es : List MapEntry) (h : ∀ e ∈ es, ∃ x' y' : Nat, e.key = two x' y') :
    ∃ r, (∀ w, (Instr.findKey 68 (two x y) es).run Tryd.prog w = .ok r w) ∧ (r = none ∨ ∃ j e, r = some (j, e.val) ∧ es[j]? = some e ∧ e.key = two x y) := by
  unfold Instr.findKey
  simp only [Sem.run_bind, run_underlying Tryd.underlying68, Result.andThen_ok]
  cases es with
  | nil => exact ⟨none, fun _ => rfl, .inl rfl⟩
  | cons e es =>
    have hn : Instr.findNow (.array 2 67) (two x y) (e :: es) 0 = none := rfl
    rw [hn]
    obtain ⟨r, hr, h2⟩ := run_findAsking_two x y (e :: es) 0 h
    exact ⟨r, hr, by simpa using h2⟩

/-- The entries of a table: keys of two numbers, each with its value. -/
def MapOk (f : Nat → Nat → List UInt8) (es : Array MapEntry) : Prop := ∀ e ∈ es.toList, ∃ x y : Nat, e.key = two x y ∧ e.val = .agg (vs (f x y)).toArray
/-- What a map is, in a world: none, or entries in a block beyond g. -/
def MapIs (W : World) (g : Nat) (f : Nat → Nat → List UInt8) (m : Option Nat) : Prop := ∀ r, m = some r → g < r ∧ ∃ es ck, W.heap[r]? = some (.map es ck) ∧ MapOk f es
theorem MapOk.keys {f : Nat → Nat → List UInt8} {es : Array MapEntry} (h : MapOk f es) : ∀ e ∈ es.toList, ∃ x y : Nat, e.key = two x y := fun e he => by
  obtain ⟨x, y, h1, _⟩ := h e he
  exact ⟨x, y, h1⟩

theorem run_lookup_two {W : World} {g : Nat} {f : Nat → Nat → List UInt8} {m : Option Nat} (hm : MapIs W g f m) (x y : Nat) :
    ∃ v ok, (∀ W' : World, (∀ r, m = some r → W'.heap[r]? = W.heap[r]?) → (Instr.lookup 64 (.map m) (two x y) true).run Tryd.prog W' = .ok (.tuple #[.agg (vs v).toArray, .bool ok]) W') ∧ v.length = (if ok then (f x y).length else 32) ∧ (ok = true → v = f x y) := by
  have hz : ∀ W : World, (zeroValue 28).run Tryd.prog W = .ok (.agg (vs (List.replicate 32 0)).toArray) W := fun W => by kernel_rfl
  unfold Instr.lookup
  simp only [Sem.run_bind, run_underlying Tryd.underlying64, Result.andThen_ok]
  cases m with
  | none =>
    obtain ⟨r, hr, h2⟩ := run_findKey_two x y [] (fun e h => by cases h)
    refine ⟨List.replicate 32 0, false, fun W' _ => ?_, rfl, by simp⟩
    rcases h2 with rfl | ⟨j, e, _, h3, _⟩
    · simp [Sem.run_bind, run_checkKey_two, hr, hz]
    · simp at h3
  | some r =>
    obtain ⟨_, es, ck, hb, hok⟩ := hm r rfl
    obtain ⟨q, hq, h2⟩ := run_findKey_two x y es.toList hok.keys
    rcases h2 with rfl | ⟨j, e, rfl, h3, h4⟩
    · refine ⟨List.replicate 32 0, false, fun W' hW => ?_, rfl, by simp⟩
      have hget : (getObj r).run Tryd.prog W' = .ok (.map es ck) W' := by simp [getObj, Sem.run, (hW r rfl).trans hb]
      simp [Sem.run_bind, hget, run_checkKey_two, hq, hz]
    · obtain ⟨x', y', h5, h6⟩ := hok e (List.mem_of_getElem? h3)
      obtain ⟨rfl, rfl⟩ := two_inj.1 (h4.symm.trans h5)
      refine ⟨f x y, true, fun W' hW => ?_, rfl, fun _ => rfl⟩
      have hget : (getObj r).run Tryd.prog W' = .ok (.map es ck) W' := by simp [getObj, Sem.run, (hW r rfl).trans hb]
      simp [Sem.run_bind, hget, run_checkKey_two, hq, h6]

theorem MapOk.push {f : Nat → Nat → List UInt8} {es : Array MapEntry} (h : MapOk f es) (x y b : Nat) : MapOk f (es.push { key := two x y, val := .agg (vs (f x y)).toArray, born := b }) := fun e he => by
  simp at he
  rcases he with he | rfl
  · exact h e (by simpa using he)
  · exact ⟨x, y, rfl, rfl⟩
theorem MapOk.modify {f : Nat → Nat → List UInt8} {es : Array MapEntry} (h : MapOk f es) (j x y : Nat) : MapOk f (es.modify j fun e => { e with key := two x y, val := .agg (vs (f x y)).toArray }) := fun e he => by
  obtain ⟨i, hi⟩ := List.getElem?_of_mem he
  rw [Array.getElem?_toList, Array.getElem?_modify] at hi
  split at hi
  · obtain ⟨e0, _, rfl⟩ := Option.map_eq_some_iff.1 hi
    exact ⟨x, y, rfl, rfl⟩
  · exact h e (by
      rw [← Array.getElem?_toList] at hi
      exact List.mem_of_getElem? hi)
theorem MapOk.empty {f : Nat → Nat → List UInt8} : MapOk f #[] := fun e he => by simp at he

theorem sameBits_two (x y : Nat) : Instr.sameBits 10000 (two x y) (two x y) = true := by
  simp [two, Instr.sameBits]
theorem run_update_two {W : World} {g : Nat} {f : Nat → Nat → List UInt8} {r : Nat} (hm : MapIs W g f (some r)) (x y : Nat) :
    ∃ W', (Instr.mapUpdate 64 (.map (some r)) (two x y) (.agg (vs (f x y)).toArray)).run Tryd.prog W = .ok () W' ∧ MapIs W' g f (some r) ∧ W.grownBy W' (some r) := by
  obtain ⟨hg, es, ck, hb, hok⟩ := hm r rfl
  have hlt : r < W.heap.size := (Array.getElem?_eq_some_iff.1 hb).1
  have hgrow : ∀ o : Obj, W.grownBy { W with heap := W.heap.setIfInBounds r o } (some r) := fun o => ⟨rfl, rfl, rfl, by simp, fun k hk hne => by
    show (W.heap.setIfInBounds r o)[k]? = _
    rw [Array.getElem?_setIfInBounds_ne (by intro e; exact hne (by rw [e]))]⟩
  have hat : ∀ o : Obj, ({ W with heap := W.heap.setIfInBounds r o } : World).heap[r]? = some o := fun o => by
    show (W.heap.setIfInBounds r o)[r]? = _
    rw [Array.getElem?_setIfInBounds_self_of_lt hlt]
  have hget : (getObj r).run Tryd.prog W = .ok (.map es ck) W := by simp [getObj, Sem.run, hb]
  have hset : ∀ o : Obj, (setObj r o).run Tryd.prog W = .ok () { W with heap := W.heap.setIfInBounds r o } := fun o => by simp [setObj, Sem.run, hb]
  obtain ⟨q, hq, h2⟩ := run_findKey_two x y es.toList hok.keys
  unfold Instr.mapUpdate
  simp only [Sem.run_bind, run_underlying Tryd.underlying64, Result.andThen_ok, hget, run_checkKey_two, hq]
  rcases h2 with rfl | ⟨j, e, rfl, h3, h4⟩
  · refine ⟨{ W with heap := W.heap.setIfInBounds r (.map (es.push { key := two x y, val := .agg (vs (f x y)).toArray, born := ck }) (ck + 1)) }, hset _, fun r' e => ?_, hgrow _⟩
    obtain rfl := Option.some.inj e
    exact ⟨hg, _, _, hat _, hok.push x y ck⟩
  · have hk : (((es[j]?).map (·.key)).getD (two x y)) = two x y := by
      rw [← Array.getElem?_toList, h3]
      exact h4
    refine ⟨{ W with heap := W.heap.setIfInBounds r (.map (es.modify j fun e => { e with key := two x y, val := .agg (vs (f x y)).toArray }) ck) }, ?_, fun r' e => ?_, hgrow _⟩
    · simp only [hk, Instr.keyThatStays, sameBits_two, if_true, Sem.run_pure, Sem.run_bind, Result.andThen_ok]
      exact hset _
    · obtain rfl := Option.some.inj e
      exact ⟨hg, _, _, hat _, hok.modify j x y⟩

/-- A lookup, taken first in a region that draws. -/
theorem yields_lookup {P : Program} {ops : Array Oper} {S : World → Prop} {op : Oper} {a : Act} (hw : Region.wanted op (yielded ops a.tmps) = true) (t : TypeId) (m x : Operand) (ho : op.op = .lookup t m x true)
    (vm vx : Value) (hm : a.eval m = vm) (hx : a.eval x = vx) (v : Value) (hS : ∀ w, S w → (Instr.lookup t vm vx true).run P w = .ok v w) : YieldsIf P ops S op v a :=
  .inl ⟨hw, fun w hw' => by
    unfold execOp
    simp only [ho, hm, hx, Sem.run_bind, hS w hw', Result.andThen_ok]
    rfl⟩
/-- A new variable, at a step of a region that draws. -/
theorem step_alloc {P : Program} {ops : Array Oper} {o : Oper} {a : Act} {w : World} {K : Act → World → Prop} {Q : Exit → Act → World → Prop} {E : Prop} (hw : Region.wanted o (yielded ops a.tmps) = true) (t : TypeId) (ho : o.op = .alloc t)
    (v : Value) (w' : World) (hrun : (Instr.alloc t true (.tuple #[])).run P w = .ok v w') (h : K (a.put o.dst v) w') : if Region.wanted o (yielded ops a.tmps) = true then Oper.wp P o a w K Q else E := by
  rw [if_pos hw]
  unfold Oper.wp execOp
  simp only [ho, Sem.run_bind, hrun, Result.andThen_ok]
  exact h
theorem Tryd.alloc_tag (w : World) : (Instr.alloc 28 true (.tuple #[])).run Tryd.prog w = .ok (.pointer (some ⟨w.heap.size, 0, none⟩)) (w.alloc (.cells (vs (List.replicate 32 0)).toArray 28)) := by kernel_rfl

end Go.Proofs.YtolildehdibpbaaDoor
