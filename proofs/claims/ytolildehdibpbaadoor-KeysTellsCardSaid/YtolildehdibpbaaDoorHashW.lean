/-
  A HASH IN MEMORY: its 73 cells, and what they say of all that was added. No walk here.
-/
import Derived.Test.YtolildehdibpbaaDoorRowW
import Derived.Laws.CopyOwn
import Derived.Deep.MidRow
import Derived.Deep.RegionHeld
namespace Go.Proofs.YtolildehdibpbaaDoor
open Go.RowKit

/-- The cells of a hash: what the blocks added, the last block, the length. -/
def hcs (ad : S8) (pt : List UInt8) (n : Nat) : List Value := ad.cells ++ (vs pt ++ [.int .i64 (n : Int)])
/-- What they say of the bytes xs. -/
def HOk (ad : S8) (pt xs : List UInt8) : Prop :=
  pt.length = 64 ∧ first8.plus ad = after xs (xs.length / 64) ∧ pt.take (xs.length % 64) = xs.drop (64 * (xs.length / 64))
/-- Block g is a hash to which xs was added. -/
def HS (w : World) (g : Nat) (xs : List UInt8) : Prop :=
  ∃ ad pt, Blk w g 77 (hcs ad pt xs.length) ∧ HOk ad pt xs

theorem HOk.nil : HOk S8.zero (List.replicate 64 0) [] := ⟨by simp, S8.plus_zero _, by simp⟩
theorem hcs_length {ad : S8} {pt : List UInt8} {n : Nat} (h : pt.length = 64) : (hcs ad pt n).length = 73 := by
  simp [hcs, vs_length, S8.cells_length, h]
theorem hcs_len {ad : S8} {pt : List UInt8} {n : Nat} (h : pt.length = 64) : (hcs ad pt n)[72]? = some (.int .i64 (n : Int)) := by
  unfold hcs
  rw [List.getElem?_append_right (by rw [S8.cells_length]; omega), List.getElem?_append_right (by rw [vs_length, S8.cells_length]; omega), vs_length, S8.cells_length, h]
  rfl
theorem hcs_setLen {ad : S8} {pt : List UInt8} {n : Nat} (h : pt.length = 64) (m : Nat) : (hcs ad pt n).set 72 (.int .i64 (m : Int)) = hcs ad pt m := by
  unfold hcs
  rw [List.set_append_right _ _ (by rw [S8.cells_length]; omega), List.set_append_right _ _ (by rw [vs_length, S8.cells_length]; omega), vs_length, S8.cells_length, h]
  rfl
theorem hcs_word {ad : S8} {pt : List UInt8} {n : Nat} (j : Nat) (hj : j < 8) : (hcs ad pt n)[j]? = some (.int .u32 (n32 (ad.list.getD j 0))) := by
  unfold hcs
  rw [List.getElem?_append_left (by rw [S8.cells_length]; omega), S8.cells_at _ _ hj]
theorem hcs_splice {ad : S8} {pt : List UInt8} {n : Nat} (h : pt.length = 64) (r : Nat) (zs : List UInt8) (hz : r + zs.length ≤ 64) : splice (hcs ad pt n) (8 + r) (vs zs) = hcs ad (splice pt r zs) n := by
  unfold splice hcs
  have e1 : (ad.cells ++ (vs pt ++ [Value.int .i64 (n : Int)])).take (8 + r) = ad.cells ++ (vs pt).take r := by
    rw [List.take_append, S8.cells_length, List.take_of_length_le (by rw [S8.cells_length]; omega), Nat.add_sub_cancel_left, List.take_append_of_le_length (by rw [vs_length]; omega)]
  have e2 : (ad.cells ++ (vs pt ++ [Value.int .i64 (n : Int)])).drop (8 + r + (vs zs).length) = (vs pt).drop (r + zs.length) ++ [Value.int .i64 (n : Int)] := by
    rw [List.drop_append, S8.cells_length, List.drop_eq_nil_of_le (by rw [S8.cells_length]; omega), vs_length, Nat.add_assoc, Nat.add_sub_cancel_left, List.drop_append_of_le_length (by rw [vs_length]; omega)]
    rfl
  rw [e1, e2]
  simp [vs]
theorem splice_length {pt zs : List UInt8} {r : Nat} (h : pt.length = 64) (hz : r + zs.length ≤ 64) : (splice pt r zs).length = 64 := by
  rw [length_splice _ _ _ (by omega), h]
theorem splice_take {pt zs : List UInt8} {r : Nat} (h : pt.length = 64) (hz : r + zs.length ≤ 64) : (splice pt r zs).take (r + zs.length) = pt.take r ++ zs := by
  unfold splice
  rw [← List.append_assoc, List.take_append_of_le_length (by simp; omega), List.take_of_length_le (by simp; omega)]

/-- More bytes, the block not full. -/
theorem HOk.part {ad : S8} {pt xs : List UInt8} (h : HOk ad pt xs) (zs : List UInt8) (hz : xs.length % 64 + zs.length < 64) : HOk ad (splice pt (xs.length % 64) zs) (xs ++ zs) := by
  obtain ⟨h1, h2, h3⟩ := h
  have e1 : (xs ++ zs).length / 64 = xs.length / 64 := by rw [List.length_append]; omega
  have e2 : (xs ++ zs).length % 64 = xs.length % 64 + zs.length := by rw [List.length_append]; omega
  refine ⟨splice_length h1 (by omega), ?_, ?_⟩
  · rw [e1, after_app _ _ _ (by omega), h2]
  · rw [e1, e2, splice_take h1 (by omega), h3, List.drop_append_of_le_length (by omega)]
/-- More bytes, up to the block's end. -/
theorem HOk.full {ad : S8} {pt xs : List UInt8} (h : HOk ad pt xs) (zs : List UInt8) (hz : xs.length % 64 + zs.length = 64) :
    HOk (ad.plus (rounds (wds (splice pt (xs.length % 64) zs) 64) (first8.plus ad) 64)) (splice pt (xs.length % 64) zs) (xs ++ zs) := by
  obtain ⟨h1, h2, h3⟩ := h
  have hl := splice_length h1 (r := xs.length % 64) (zs := zs) (by omega)
  have e1 : (xs ++ zs).length / 64 = xs.length / 64 + 1 := by rw [List.length_append]; omega
  have e2 : (xs ++ zs).length % 64 = 0 := by rw [List.length_append]; omega
  have e3 : splice pt (xs.length % 64) zs = ((xs ++ zs).drop (64 * (xs.length / 64))).take 64 := by
    have e := splice_take h1 (r := xs.length % 64) (zs := zs) (by omega)
    rw [hz, List.take_of_length_le (by omega), h3] at e
    rw [e, List.drop_append_of_le_length (by omega), List.take_of_length_le (by simp; omega)]
  refine ⟨hl, ?_, ?_⟩
  · rw [e1, after, after_app _ _ _ (by omega), ← h2, ← S8.plus_assoc, press, mixed, ← e3]
  · rw [e1, e2, List.take_zero, List.drop_eq_nil_of_le (by rw [List.length_append]; omega)]

/-- What is in the block when all is there: the sum. -/
theorem HOk.sum {ad : S8} {pt xs : List UInt8} (h : HOk ad pt (xs ++ ends xs.length)) : (first8.plus ad).bytes = sha xs := by
  rw [h.2.1]
  rfl

/- Frames: a block may turn, all others that were there stand. -/
theorem only_refl (w : World) (g : Nat) : w.grownBy w (some g) := World.grownBy.refl w _
theorem only_trans {a b c : World} {g : Nat} (h : a.grownBy b (some g)) (k : b.grownBy c (some g)) : a.grownBy c (some g) :=
  ⟨k.os.trans h.os, k.tape.trans h.tape, k.output.trans h.output, Nat.le_trans h.size k.size, fun i hi hne => (k.block i (Nat.lt_of_lt_of_le hi h.size) hne).trans (h.block i hi hne)⟩
theorem only_below {a b : World} {g : Nat} (h : Below a.heap.size a b) : a.grownBy b (some g) := ⟨h.os, h.tape, h.output, h.size, fun i hi _ => h.block i hi⟩
theorem only_set (w : World) (g i : Nat) (u : Value) : w.grownBy (w.setCell ⟨g, i, none⟩ u) (some g) :=
  ⟨rfl, rfl, rfl, by simp [World.setCell], fun k _ hk => Below.heap_setCell _ _ _ _ (fun e => hk (by rw [e]))⟩
theorem only_row (w : World) (g : Nat) (cs : Array Value) : w.grownBy (w.setRow g cs) (some g) :=
  ⟨rfl, rfl, rfl, by simp [World.setRow], fun k _ hk => setRow_other w g k cs (fun e => hk (by rw [e]))⟩
theorem only_drewN (w : World) (g n : Nat) : w.grownBy (w.drewN n) (some g) := ⟨rfl, rfl, rfl, Nat.le_refl _, fun _ _ _ => rfl⟩
theorem only_drew (w : World) (g : Nat) : w.grownBy w.drew (some g) := ⟨rfl, rfl, rfl, Nat.le_refl _, fun _ _ _ => rfl⟩
theorem By.only {w w' : World} {g n : Nat} {A : Option Addr} {xs : List UInt8} (h : By w (· ≠ g) A n xs) (ho : w.grownBy w' (some g)) : By w' (· ≠ g) A n xs :=
  (h.lt.keep fun k hk => ho.block k hk.2 (fun e => hk.1 (by injection e))).weak fun _ hk => hk.1
/-- Many cells set in a block: the block, and the others. -/
theorem only_cells (g : Nat) : ∀ (vs : List Value) (o : Nat) (w : World), w.grownBy (w.setCells g o vs) (some g)
  | [], _, w => only_refl w g
  | v :: r, o, w => only_trans (only_set w g o v) (only_cells g r (o + 1) (w.setCell ⟨g, o, none⟩ v))
theorem Blk.cells {t : TypeId} (g : Nat) : ∀ (vs : List Value) (pre old rest : List Value) (w : World), old.length = vs.length → Blk w g t (pre ++ (old ++ rest)) → Blk (w.setCells g pre.length vs) g t (pre ++ (vs ++ rest))
  | [], pre, old, rest, w, hl, h => by
    obtain rfl : old = [] := List.eq_nil_of_length_eq_zero hl
    exact h
  | v :: r, pre, [], rest, w, hl, h => by simp at hl
  | v :: r, pre, x :: old, rest, w, hl, h => by
    rw [World.setCells]
    have h1 := h.set_ pre.length v
    rw [List.set_append_right _ _ (Nat.le_refl _), Nat.sub_self] at h1
    have h2 : Blk (w.setCell ⟨g, pre.length, none⟩ v) g t ((pre ++ [v]) ++ (old ++ rest)) := by
      rw [List.append_assoc]
      exact h1
    have h3 := Blk.cells g r (pre ++ [v]) old rest _ (by simpa using hl) h2
    rw [List.length_append] at h3
    rw [List.append_assoc] at h3
    exact h3
theorem HS.add {w : World} {g : Nat} {ad : S8} {pt : List UInt8} {n : Nat} (h : Blk w g 77 (hcs ad pt n)) (ad' : S8) : Blk (w.setCells g 0 ad'.cells) g 77 (hcs ad' pt n) :=
  Blk.cells g ad'.cells [] ad.cells _ w rfl h
/-- ranges of a block that is known whole -/
theorem Blk.range {w : World} {g : Nat} {t : TypeId} {pre cs post : List Value} (h : Blk w g t (pre ++ (cs ++ post))) : w.rangeAt g pre.length cs := fun j v hv => by
  have hj : j < cs.length := (List.getElem?_eq_some_iff.1 hv).1
  rw [h.cell, List.getElem?_append_right (by omega), Nat.add_sub_cancel_left, List.getElem?_append_left hj, hv]
theorem Blk.there {w : World} {g : Nat} {t : TypeId} {cs : List Value} (h : Blk w g t cs) (o n : Nat) (hn : o + n ≤ cs.length) : w.there g o n := fun j hj =>
  ⟨by rw [h.cell, List.getElem?_eq_getElem (by omega)]; rfl, h.frozen _⟩
/-- The frame, of a hash and of another block. -/
theorem HS.keep {w w' : World} {g : Nat} {xs : List UInt8} (h : HS w g xs) (hk : w'.heap[g]? = w.heap[g]?) : HS w' g xs := by
  obtain ⟨ad, pt, hb, hs⟩ := h
  exact ⟨ad, pt, hk.trans hb, hs⟩
theorem HS.lt {w : World} {g : Nat} {xs : List UInt8} (h : HS w g xs) : g < w.heap.size := by
  obtain ⟨ad, pt, hb, hs⟩ := h
  exact hb.lt
theorem HS.through {w w' : World} {g : Nat} {xs : List UInt8} (h : HS w g xs) (hb : Below w.heap.size w w') : HS w' g xs := h.keep (hb.block g h.lt)

theorem below_step {v W W' : World} (h : Below v.heap.size v W) (hb : Below W.heap.size W W') : Below v.heap.size v W' := h.trans (hb.mono h.size)
/-- copy into a block that is known whole, in a region that draws its order. -/
theorem step_copy_blk {P : Program} {ops : Array Oper} {o : Oper} {a : Act} {w : World} {K : Act → World → Prop} {Q : Exit → Act → World → Prop} {E : Prop} (hgd : o.guard = none) (d s : Operand) (dT sT : TypeId)
    (ho : o.op = .call { callee := .builtin .copy, args := #[d, s], argTypes := #[dT, sT] }) (elem : TypeId) (hu : P.underlying dT = some (.slice elem)) (hsz : (P.info? elem).map (·.size) = some 1)
    (g off dLen dCap : Nat) (sp : Option Addr) (sLen sCap : Nat) (hd : a.eval d = .slice (some ⟨g, off, none⟩) dLen dCap) (hs : a.eval s = .slice sp sLen sCap)
    (cur : List Value) (t : TypeId) (hg : Blk w g t cur) (cs : List Value) (kk : Nat) (hk : cs.length = kk) (hn : kk = Nat.min sLen dLen) (hpos : 0 < kk)
    (hsrc : ∃ ad, sp = some ad ∧ ∀ j v, cs[j]? = some v → w.cell? (ad.add j) = some v) (hfit : off + kk ≤ cur.length) (h1 : ∀ v ∈ cs, v.oneCell' = true)
    (h : ∀ w', Blk w' g t (splice cur off cs) → w.grownBy w' (some g) → K (a.put o.dst (.int .i64 (kk : Int))) w') :
    if Region.wanted o (yielded ops a.tmps) = true then Oper.wp P o a w K Q else E := by
  have hw : Region.wanted o (yielded ops a.tmps) = true := by simp [Region.wanted, hgd]
  rw [if_pos hw]
  obtain ⟨ad, rfl, hsrc⟩ := hsrc
  subst hk
  have hrun := run_copy_row (P := P) w dT sT o.type elem g off dLen dCap ad sLen sCap cur.toArray t cs hu hsz hg hn hsrc (by simpa using hfit) h1
  unfold Oper.wp
  simp [execOp, ho, resolve, invoke, builtin, hd, hs, hrun, Result.andThen]
  exact h _ (show _ = _ by simpa [splice] using setRow_heap w g _ _ t _ hg) (only_row w g _)
/-- A load, and a store, of many cells, in a region that draws its order. -/
theorem step_load_at {P : Program} {ops : Array Oper} {o : Oper} {a : Act} {w : World} {K : Act → World → Prop} {Q : Exit → Act → World → Prop} {E : Prop} (hgd : o.guard = none) (ty : TypeId) (x : Operand) (ho : o.op = .load ty x)
    (p : Value) (hx : a.eval x = p) (v : Value) (hrun : (Instr.loadAt ty p).run P w = .ok v w) (h : K (a.put o.dst v) w) : if Region.wanted o (yielded ops a.tmps) = true then Oper.wp P o a w K Q else E := by
  have hw : Region.wanted o (yielded ops a.tmps) = true := by simp [Region.wanted, hgd]
  rw [if_pos hw]
  unfold Oper.wp execOp
  simp only [ho, hx, Sem.run_bind, hrun, Result.andThen_ok]
  exact h
theorem step_store_at {P : Program} {ops : Array Oper} {o : Oper} {a : Act} {w : World} {K : Act → World → Prop} {Q : Exit → Act → World → Prop} {E : Prop} (hgd : o.guard = none) (ty : TypeId) (x y : Operand) (ho : o.op = .store ty x y)
    (p v : Value) (hx : a.eval x = p) (hy : a.eval y = v) (w' : World) (hrun : (Instr.storeAt ty p v).run P w = .ok () w') (h : K (a.put o.dst undef) w') : if Region.wanted o (yielded ops a.tmps) = true then Oper.wp P o a w K Q else E := by
  have hw : Region.wanted o (yielded ops a.tmps) = true := by simp [Region.wanted, hgd]
  rw [if_pos hw]
  unfold Oper.wp execOp
  simp only [ho, hx, hy, Sem.run_bind, hrun, Result.andThen_ok]
  exact h
/-- A whole row, loaded. -/
theorem Blk.loadAt {P : Program} {w : World} {g : Nat} {t : TypeId} {cs : List Value} (h : Blk w g t cs) (ty : TypeId) (d : TypeDesc) (hu : P.underlying ty = some d)
    (hd : (match d with | .struct _ | .array _ _ => true | _ => false) = true) (hi : (P.info? ty).map (·.size) = some cs.length) : (Instr.loadAt ty (.pointer (some ⟨g, 0, none⟩))).run P w = .ok (.agg cs.toArray) w := by
  simp only [Instr.loadAt, Instr.sureAddr, Sem.run_bind, Sem.run_pure, Result.andThen_ok, run_loadVar_row w g t ty cs.toArray (0, 0) d h hu hd (by simpa using hi)]
/-- '[]T{}', and append onto a row of the call's own, in a region that draws its order (guarded or not). -/
theorem step_build_empty {P : Program} {ops : Array Oper} {o : Oper} {a : Act} {w : World} {K : Act → World → Prop} {Q : Exit → Act → World → Prop} {E : Prop} (hw : Region.wanted o (yielded ops a.tmps) = true) (t : TypeId) (ho : o.op = .buildSlice t 0 #[])
    (v : Value) (w' : World) (hrun : (Instr.buildSlice t 0 #[]).run P w = .ok v w') (h : K (a.put o.dst v) w') : if Region.wanted o (yielded ops a.tmps) = true then Oper.wp P o a w K Q else E := by
  rw [if_pos hw]
  unfold Oper.wp execOp
  simp only [ho, Sem.run_bind, List.map_toArray, List.map_nil, hrun, Result.andThen_ok]
  exact h
theorem step_append_by {P : Program} {ops : Array Oper} {o : Oper} {a : Act} {w : World} {K : Act → World → Prop} {R : Exit → Act → World → Prop} {E : Prop} (hw : Region.wanted o (yielded ops a.tmps) = true) (s x : Operand) (t : TypeId)
    (ho : o.op = .call { callee := .builtin .append, args := #[s, x], argTypes := #[t, t] })
    (base : Nat) (i : TypeInfo) (ht : P.underlying t = some (.slice 5)) (hi : P.info? 5 = some i) (hz : i.zero = some (.int .u8 0))
    (hsize : i.size = 1) (hby : i.bytes = 1) (v : Value) (n : Nat) (ys : List UInt8) (hs : a.eval s = v) (hown : w.ownsRow base 5 1 v n (vs ys))
    (Q : Nat → Prop) (A : Option Addr) (m c : Nat) (xs : List UInt8) (hx : a.eval x = .slice A m c) (hr : By w Q A m xs) (hbytes : n + m ≤ 140737488355328) (hbase : base ≤ w.heap.size) (N : Nat) (hN : n + m = N) (zs : List UInt8) (hzs : ys ++ xs = zs)
    (h : ∀ A' c' w', w'.ownsRow base 5 1 (.slice A' N c') N (vs zs) → N ≤ c' → c' ≤ maxLen → Below base w w' → K (a.put o.dst (.slice A' N c')) w') :
    if Region.wanted o (yielded ops a.tmps) = true then Oper.wp P o a w K R else E := by
  rw [if_pos hw]
  obtain ⟨v', w', hrun, h2, h3, h4⟩ := run_append_by (P := P) w base t o.type i ht hi hz hsize hby v n (vs ys) hown Q A m c xs hr hbytes hbase
  rw [vs_append] at h2
  subst hN; subst hzs
  obtain ⟨A', c', rfl, hc1, hc2, _⟩ := own_form h2
  unfold Oper.wp execOp
  simp only [ho, resolve, invoke, builtin, Sem.run_bind, Sem.run_pure, Result.andThen_ok, List.map_toArray, List.map_cons, List.map_nil, hs, hx, hrun]
  exact h A' c' w' h2 hc1 hc2 ((Below.refl _ w).grown h3 hbase (fun k hk => (hown.lt k hk).1))
/-- A store of a whole row, the world behind it a letter. -/
theorem wpList_store_blk {P : Program} {ops : Array Oper} {rest : List Oper} {o : Oper} {a : Act} {w : World} {Q : Exit → Act → World → Prop} (hgd : o.guard = none) (ty : TypeId) (x y : Operand) (ho : o.op = .store ty x y)
    (g : Nat) (cells : List Value) (hx : a.eval x = .pointer (some ⟨g, 0, none⟩)) (hy : a.eval y = .agg cells.toArray) (t : TypeId) (old : List Value) (hg : Blk w g t old) (hi : (P.info? ty).map (·.size) = some cells.length)
    (hold : old.length = cells.length) (h1 : cells.toArray.all (·.oneCell') = true)
    (h : ∀ w', Blk w' g t cells → w.grownBy w' (some g) → wpList P ops Q rest (a.put o.dst undef) w') : wpList P ops Q (o :: rest) a w :=
  wpList_store_row hgd ty x y ho g cells.toArray hx hy t old.toArray hg (by simpa using hi) (by simpa using hold) h1 (h _ (hg.row cells) (only_row w g _))
/-- A load of a whole row. -/
theorem wpList_load_blk {P : Program} {ops : Array Oper} {rest : List Oper} {o : Oper} {a : Act} {w : World} {Q : Exit → Act → World → Prop} (hgd : o.guard = none) (ty : TypeId) (x : Operand) (ho : o.op = .load ty x)
    (g : Nat) (hx : a.eval x = .pointer (some ⟨g, 0, none⟩)) (t : TypeId) (cells : List Value) (d : TypeDesc) (hg : Blk w g t cells)
    (hu : P.underlying ty = some d) (hd : (match d with | .struct _ | .array _ _ => true | _ => false) = true) (hi : (P.info? ty).map (·.size) = some cells.length)
    (h : wpList P ops Q rest (a.put o.dst (.agg cells.toArray)) w) : wpList P ops Q (o :: rest) a w :=
  wpList_load_row hgd ty x ho g hx t cells.toArray (0, 0) d hg hu hd (by simpa using hi) h
theorem hcs_one {ad : S8} {pt : List UInt8} {n : Nat} : (hcs ad pt n).toArray.all (·.oneCell') = true := by
  refine Array.all_eq_true_iff_forall_mem.2 fun v hv => ?_
  have hv' : v ∈ ad.cells ++ (vs pt ++ [Value.int .i64 (n : Int)]) := by simpa [hcs] using hv
  rcases List.mem_append.1 hv' with h | h
  · obtain ⟨x, _, rfl⟩ := List.mem_map.1 h
    rfl
  · rcases List.mem_append.1 h with h | h
    · exact vs_one v h
    · obtain rfl : v = _ := by simpa using h
      rfl
/-- What holds under a condition on the world holds under a stronger one that is kept. -/
theorem wpAnyH_weaken {P : Program} {md : Region.Mode} {ops : Array Oper} {Q : Exit → Act → World → Prop} {S S' : World → Prop} (h : ∀ w, S' w → S w) :
    ∀ (fuel : Nat) (listed : Array Bool) (a : Act) (w : World), wpAnyH P md ops Q S' fuel listed a w → wpAnyH P md ops Q S fuel listed a w
  | 0, _, _, _, hh => hh
  | fuel + 1, _, _, _, hh => ⟨hh.1, fun i hi => wpOp_mono (fun a w hk => ⟨h w hk.1, wpAnyH_weaken h fuel _ a w hk.2⟩) (hh.2 i hi)⟩
theorem yields_load_at {P : Program} {ops : Array Oper} {S : World → Prop} {op : Oper} {a : Act} (hw : Region.wanted op (yielded ops a.tmps) = true) (ty : TypeId) (x : Operand) (ho : op.op = .load ty x)
    (p : Value) (hx : a.eval x = p) (v : Value) (hS : ∀ w, S w → (Instr.loadAt ty p).run P w = .ok v w) : YieldsIf P ops S op v a :=
  .inl ⟨hw, fun w hw' => by
    unfold execOp
    simp only [ho, hx, Sem.run_bind, hS w hw', Result.andThen_ok]
    rfl⟩
/-- 'b[k:]', whatever the capacity. -/
def cutA (A : Option Addr) (c k : Nat) : Option Addr := if c = k then A else A.map (·.add k)
theorem run_cut {P : Program} (w : World) (t e : TypeId) (A : Option Addr) (n c : Nat) (kd : IntKind) (k : Nat) (ht : P.underlying t = some (.slice e)) (hs : (P.info? e).map (·.size) = some 1) (hk : k ≤ n) :
    (Instr.slice t (.slice A n c) (some (.int kd (k : Int))) none none).run P w = .ok (.slice (cutA A c k) (n - k) (c - k)) w := by
  cases hq : P.info? e with
  | none => simp [hq] at hs
  | some info =>
    have hi : info.size = 1 := by simpa [hq] using hs
    simp [Instr.slice, Sem.run_bind, run_underlying ht, Instr.sliceBounds, run_sliceBound, sizeOf, typeInfo, hq, hi, hk, cutA]

end Go.Proofs.YtolildehdibpbaaDoor
