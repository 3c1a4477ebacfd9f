/-
  Joined: PwL.
-/
import Derived.Laws.CopyRow
import Derived.Laws.CopyOwn
import Derived.Lib.Overlaps
import Derived.Test.YtpolofehkckaoaaUT15
namespace Go.Proofs.Ytpolofehkckaoaa
open Go.RowKit

theorem Os.out' {w : World} {B : Nat} {e : TypeId} {k : Nat} {v : Value} {xs : List (List Value)} (h : Os w B e k v xs) : ∃ A n c, v = .slice A n c ∧ n = xs.length := by
 obtain ⟨A, c, h1, _⟩ := h.out
 exact ⟨A, _, c, h1, rfl⟩
theorem Sl.from_ {w : World} {k n c i : Nat} {A : Option Addr} {xs : List (List Value)} (h : Sl w k A n xs) (hi : i ≤ n) (hc : n ≤ c) : ∃ A', (if c = i then A else A.map (·.add (i * k))) = A' ∧ Sl w k A' (n - i) (xs.drop i) :=
 ⟨_, rfl, by rw [List.length_drop, h.1], fun hn => by
  obtain ⟨g, o, e, hcell⟩ := h.2 (by omega)
  subst e
  rw [if_neg (by omega)]
  refine ⟨g, o + i * k, ?_, fun j cs hj => ?_⟩
  ·simp only [Option.map_some, Option.some.injEq]
   unfold Addr.add; split <;> simp_all
  ·have h1 := hcell (i + j) cs (by rw [← hj, List.getElem?_drop])
   rw [show o + (i + j) * k = o + i * k + j * k by rw [Nat.add_mul]; omega] at h1
   exact h1⟩
theorem Sl.to_ {w : World} {k n i : Nat} {A : Option Addr} {xs : List (List Value)} (h : Sl w k A n xs) (hi : i ≤ n) : Sl w k A i (xs.take i) :=
 ⟨by rw [List.length_take, h.1]; omega, fun hn => by
  obtain ⟨g, o, e, hcell⟩ := h.2 (by omega)
  refine ⟨g, o, e, fun j cs hj => hcell j cs ?_⟩
  rw [List.getElem?_take] at hj
  split at hj
  ·exact hj
  ·cases hj⟩
theorem Os.made (w : World) (e : TypeId) (k : Nat) : Os (w.alloc (.cells #[] e)) w.heap.size e k (.slice (some ⟨w.heap.size, 0, none⟩) 0 0) [] :=
 ⟨World.ownsRow_made w #[] 0 (Nat.le_refl _) (by simp [maxLen]) (by simp), fun x hx => by cases hx⟩
section
variable {P : Program} {s e : TypeId} {k bytes : Nat} {z : Value}
theorem El.size1 (E : El P s e k bytes z) : (P.info? e).map (·.size) = some k := by
 obtain ⟨i, hi, h2⟩ := Option.map_eq_some_iff.1 E.info
 simp only [Prod.mk.injEq] at h2
 rw [hi]
 simp [h2.2.1]
/-- copy, of elements of k cells, into a block that is known whole -/
theorem run_copy_k (E : El P s e k bytes z) (w : World) (sT ty : TypeId) (g o dLen dCap : Nat) (a : Addr) (sLen sCap : Nat) (cur : List Value) (t : TypeId) (cs : List Value) (kk : Nat)
  (hg : Blk w g t cur) (hk : kk = Nat.min sLen dLen) (hn : cs.length = kk * k)
  (hsrc : ∀ j v, cs[j]? = some v → w.cell? (a.add j) = some v) (hfit : o + cs.length ≤ cur.length) (h1 : ∀ v ∈ cs, v.oneCell' = true) :
  (Builtin.copy_ #[s, sT] ty #[.slice (some ⟨g, o, none⟩) dLen dCap, .slice (some a) sLen sCap]).run P w = .ok (.int .i64 (kk : Int)) (w.setRow g (splice cur o cs).toArray) := by
 have hl := run_loadCells_list (P := P) w a cs hsrc
 have hst := run_storeCells_at P g o t cs 0 cur.toArray w hg (by simpa using hfit) h1
 have hs := E.size1
 cases hq : P.info? e with
 | none => simp [hq] at hs
 | some i =>
  have hi : i.size = k := by simpa [hq] using hs
  rw [hn] at hl
  rw [hk] at hl
  simp [Builtin.copy_, run_underlying E.sl, Builtin.lenOf, Builtin.firstCells, sizeOf, typeInfo, hq, hi, hl, hst, hk, splice, goInt]
theorem Blk.spl {w : World} {g : Nat} {t : TypeId} {cur : List Value} (h : Blk w g t cur) (o : Nat) (cs : List Value) : Blk (w.setRow g (splice cur o cs).toArray) g t (splice cur o cs) := h.row _
/-- append(s[:n], make([]T, m)...), where there is no room: a new row -/
theorem El.run_append_more (E : El P s e k bytes z) (w : World) (ti ty : TypeId) (hti : P.underlying ti = some (.int .i64)) (g n c m : Nat) (cur : List Value) (hg : Blk w g e cur) (hnc : n * k ≤ cur.length) (hpos : 0 < m) (hgrow : c < n + m) (hm : n + m ≤ 1000000) :
  ∃ cap w' tl, (Builtin.append_ #[s, ti] ty #[.slice (some ⟨g, 0, none⟩) n c, .int .i64 (m : Int)]).run P w = .ok (.slice (some ⟨w.heap.size, 0, none⟩) (n + m) cap) w' ∧ Blk w' w.heap.size e (cur.take (n * k) ++ tl) ∧ tl.length = (cap - n) * k ∧ n + m ≤ cap ∧ cap ≤ maxLen ∧ Below w.heap.size w w' := by
 obtain ⟨i, hi, h2⟩ := Option.map_eq_some_iff.1 E.info
 simp only [Prod.mk.injEq] at h2
 obtain ⟨hz, hsize, hby⟩ := h2
 have hp := E.pos
 have hbs := E.bsm
 have hw : IntKind.i64.wrap (m : Int) = m := IntWalk.i64_in _ (by omega)
 have h0 : ¬ ((m : Int) < 0) := by omega
 have hm0 : m ≠ 0 := by omega
 have hks := E.small
 have hmul : m * bytes ≤ 1000000 * 100000 := Nat.mul_le_mul (by omega) hbs
 have hmul2 : (n + m) * bytes ≤ 1000000 * 100000 := Nat.mul_le_mul hm hbs
 have h48 : ¬ (281474976710656 < (m : Int) * (bytes : Int)) := by
  rw [← Int.natCast_mul]
  omega
 have hmk : ¬ (m * k = 0) := fun h9 => by rcases Nat.mul_eq_zero.1 h9 with h9 | h9 <;> omega
 have hge := grownCap_ge w (n + m) c e
 have hcm : grownCap w (n + m) c e ≤ maxLen := grownCap_le_maxLen w (n + m) c e (by simp only [maxLen]; omega)
 have hfit := growslice_fits (need := n + m) (old := c) (bytes := bytes) (by omega) (by omega)
 have hfit' : ¬ (281474976710656 < Builtin.nextslicecap (n + m) c * bytes) := by omega
 have h63 : ¬ (9223372036854775807 < (n : Int) + (m : Int)) := by omega
 have hroom : ¬ (n + m ≤ c) := by omega
 have hold : ∀ W, (∀ q : Nat, W.cell? ⟨g, q, none⟩ = w.cell? ⟨g, q, none⟩) → (Builtin.firstCells k n (.slice (some ⟨g, 0, none⟩) n c)).run P W = .ok (cur.take (n * k)).toArray W := fun W hW => by
  have hl := run_loadCells_list (P := P) W ⟨g, 0, none⟩ (cur.take (n * k)) (fun j v hv => by
   have ea : (⟨g, 0, none⟩ : Addr).add j = ⟨g, j, none⟩ := by unfold Addr.add; split <;> simp_all
   rw [ea, hW]
   refine hg.cellAt ?_
   rw [List.getElem?_take] at hv
   split at hv
   ·exact hv
   ·cases hv)
  rw [List.length_take, Nat.min_eq_left hnc] at hl
  simpa [Builtin.firstCells] using hl
 obtain ⟨row, hrow⟩ : ∃ row, row = (cur.take (n * k)).toArray ++ Builtin.zeroCells z.cells m ++ Builtin.zeroCells z.cells (grownCap w (n + m) c e - (n + m)) := ⟨_, rfl⟩
 refine ⟨grownCap w (n + m) c e, w.drew.alloc (.cells row e), (Builtin.zeroCells z.cells m ++ Builtin.zeroCells z.cells (grownCap w (n + m) c e - (n + m))).toList, ?_, ?_, ?_, hge, hcm, ⟨rfl, rfl, rfl, by simp, fun q hq => Below.heap_alloc w.drew _ q hq⟩⟩
 ·have hold2 := hold w.drew (fun q => rfl)
  simp [Builtin.append_, run_underlying E.sl, run_underlying hti, sizeOf, typeInfo, zeroValue, hi, hz, hsize, hby, asInt, asIntOf, hw, h0, h48, hmk, hm0, hold2, hroom, hfit', h63, Question.forced, newRow, hrow, grownCap]
 ·show Blk (w.drew.alloc (.cells row e)) w.drew.heap.size e _
  exact Blk.fresh rfl (by rw [hrow]; simp)
 ·simp only [Array.toList_append, List.length_append, Array.length_toList, size_zeroCells, E.zero]
  rw [← Nat.add_mul]
  congr 1
  omega
theorem zeroCells_one (h1 : ∀ u ∈ z.cells.toList, u.oneCell' = true) (h0 : 0 < z.cells.size) (n : Nat) : ∀ u ∈ (Builtin.zeroCells z.cells n).toList, u.oneCell' = true := fun u hu => by
 unfold Builtin.zeroCells at hu
 simp only [Array.toList_map, List.mem_map] at hu
 obtain ⟨j, _, rfl⟩ := hu
 have hlt : j % z.cells.size < z.cells.size := Nat.mod_lt _ h0
 rw [getElem!_pos z.cells _ hlt]
 exact h1 _ (by simp)
/-- clear, of a part of a block that is known whole -/
theorem El.run_clear (E : El P s e k bytes z) (h1 : ∀ u ∈ z.cells.toList, u.oneCell' = true) (w : World) (ty : TypeId) (g o n c : Nat) (t : TypeId) (cur : List Value) (hg : Blk w g t cur) (hfit : o + n * k ≤ cur.length) :
  ∃ zs : List Value, zs.length = n * k ∧ (Builtin.clear_ #[s] ty #[.slice (some ⟨g, o, none⟩) n c]).run P w = .ok (.tuple #[]) (w.setRow g (splice cur o zs).toArray) := by
 obtain ⟨i, hi, h2⟩ := Option.map_eq_some_iff.1 E.info
 simp only [Prod.mk.injEq] at h2
 obtain ⟨hz, hsize, hby⟩ := h2
 have hlen : (Builtin.zeroCells z.cells n).toList.length = n * k := by simp [size_zeroCells, E.zero]
 have hst := run_storeCells_at P g o t (Builtin.zeroCells z.cells n).toList 0 cur.toArray w hg (by rw [hlen]; simpa using hfit) (zeroCells_one h1 (by rw [E.zero]; exact E.pos) n)
 refine ⟨(Builtin.zeroCells z.cells n).toList, hlen, ?_⟩
 cases n with
 | zero =>
  simp [Builtin.clear_, run_underlying E.sl]
  have e1 : (splice cur o (Builtin.zeroCells z.cells 0).toList).toArray = cur.toArray := by simp [splice, Builtin.zeroCells]
  rw [e1, setRow_self w g _ _ _ hg]
 | succ n =>
  simp [Builtin.clear_, run_underlying E.sl, zeroValue, typeInfo, hi, hz, hst, splice]
theorem splice_len {α : Type} (L : List α) (off : Nat) (cs : List α) (h : off + cs.length ≤ L.length) : (splice L off cs).length = L.length := length_splice L off cs h
end

section
variable {P : Program} {s e : TypeId} {k bytes : Nat} {z : Value}
theorem wpList_copy_k {ops : Array Oper} {rest : List Oper} {o : Oper} {a : Act} {w : World} {Q : Exit → Act → World → Prop} (hgd : o.guard = none) (E : El P s e k bytes z) (d x : Operand)
  (ho : o.op = .call { callee := .builtin .copy, args := #[d, x], argTypes := #[s, s] }) (g off dLen dCap : Nat) (ad : Addr) (sLen sCap : Nat) (cur : List Value) (t : TypeId) (cs : List Value) (kk : Nat)
  (hd : a.eval d = .slice (some ⟨g, off, none⟩) dLen dCap) (hx : a.eval x = .slice (some ad) sLen sCap) (hg : Blk w g t cur) (hk : kk = Nat.min sLen dLen) (hn : cs.length = kk * k)
  (hsrc : ∀ j v, cs[j]? = some v → w.cell? (ad.add j) = some v) (hfit : off + cs.length ≤ cur.length) (h1 : ∀ v ∈ cs, v.oneCell' = true)
  (h : ∀ w', Blk w' g t (splice cur off cs) → w.grownBy w' (some g) → wpList P ops Q rest (a.put o.dst (.int .i64 (kk : Int))) w') : wpList P ops Q (o :: rest) a w := by
 refine wpList_plain hgd fun K hK => ?_
 have hrun := run_copy_k E w s o.type g off dLen dCap ad sLen sCap cur t cs kk hg hk hn hsrc hfit h1
 unfold Oper.wp execOp
 simp only [ho, resolve, invoke, builtin, Sem.run_bind, Sem.run_pure, Result.andThen_ok, List.map_toArray, List.map_cons, List.map_nil, hd, hx, hrun]
 exact hK _ _ (h _ (hg.spl off cs) (only_row w g _))
theorem step_copy_k {ops : Array Oper} {o : Oper} {a : Act} {w : World} {K : Act → World → Prop} {Q : Exit → Act → World → Prop} {F : Prop} (hgd : o.guard = none) (E : El P s e k bytes z) (d x : Operand)
  (ho : o.op = .call { callee := .builtin .copy, args := #[d, x], argTypes := #[s, s] }) (g off dLen dCap : Nat) (ad : Addr) (sLen sCap : Nat) (cur : List Value) (t : TypeId) (cs : List Value) (kk : Nat)
  (hd : a.eval d = .slice (some ⟨g, off, none⟩) dLen dCap) (hx : a.eval x = .slice (some ad) sLen sCap) (hg : Blk w g t cur) (hk : kk = Nat.min sLen dLen) (hn : cs.length = kk * k)
  (hsrc : ∀ j v, cs[j]? = some v → w.cell? (ad.add j) = some v) (hfit : off + cs.length ≤ cur.length) (h1 : ∀ v ∈ cs, v.oneCell' = true)
  (h : ∀ w', Blk w' g t (splice cur off cs) → w.grownBy w' (some g) → K (a.put o.dst (.int .i64 (kk : Int))) w') : if Region.wanted o (yielded ops a.tmps) = true then Oper.wp P o a w K Q else F := by
 have hw : Region.wanted o (yielded ops a.tmps) = true := by simp [Region.wanted, hgd]
 rw [if_pos hw]
 have hrun := run_copy_k E w s o.type g off dLen dCap ad sLen sCap cur t cs kk hg hk hn hsrc hfit h1
 unfold Oper.wp execOp
 simp only [ho, resolve, invoke, builtin, Sem.run_bind, Sem.run_pure, Result.andThen_ok, List.map_toArray, List.map_cons, List.map_nil, hd, hx, hrun]
 exact h _ (hg.spl off cs) (only_row w g _)
theorem wpList_append_more {ops : Array Oper} {rest : List Oper} {o : Oper} {a : Act} {w : World} {Q : Exit → Act → World → Prop} (hgd : o.guard = none) (E : El P s e k bytes z) (ti : TypeId) (hti : P.underlying ti = some (.int .i64)) (d x : Operand)
  (ho : o.op = .call { callee := .builtin .append, args := #[d, x], argTypes := #[s, ti] }) (g n c m : Nat) (hd : a.eval d = .slice (some ⟨g, 0, none⟩) n c) (hx : a.eval x = .int .i64 (m : Int)) (cur : List Value) (hg : Blk w g e cur) (hnc : n * k ≤ cur.length) (hpos : 0 < m) (hgrow : c < n + m) (hm : n + m ≤ 1000000)
  (h : ∀ g' cap w' tl, g' = w.heap.size → Blk w' g' e (cur.take (n * k) ++ tl) → tl.length = (cap - n) * k → n + m ≤ cap → cap ≤ maxLen → Below w.heap.size w w' → wpList P ops Q rest (a.put o.dst (.slice (some ⟨g', 0, none⟩) (n + m) cap)) w') : wpList P ops Q (o :: rest) a w := by
 refine wpList_plain hgd fun K hK => ?_
 obtain ⟨cap, w', tl, hrun, h2, h3, h4, h5, h6⟩ := E.run_append_more w ti o.type hti g n c m cur hg hnc hpos hgrow hm
 unfold Oper.wp execOp
 simp only [ho, resolve, invoke, builtin, Sem.run_bind, Sem.run_pure, Result.andThen_ok, List.map_toArray, List.map_cons, List.map_nil, hd, hx, hrun]
 exact hK _ _ (h _ cap w' tl rfl h2 h3 h4 h5 h6)
/-- append, where there is room, into a block that is known whole -/
theorem El.run_append_in (E : El P s e k bytes z) (w : World) (ty : TypeId) (g n c : Nat) (cur : List Value) (hg : Blk w g e cur) (ad : Addr) (m c2 : Nat) (cs : List Value) (hn : cs.length = m * k) (hsrc : ∀ j v, cs[j]? = some v → w.cell? (ad.add j) = some v) (h1 : ∀ v ∈ cs, v.oneCell' = true) (hroom : n + m ≤ c) (hfit : n * k + cs.length ≤ cur.length) :
  (Builtin.append_ #[s, s] ty #[.slice (some ⟨g, 0, none⟩) n c, .slice (some ad) m c2]).run P w = .ok (.slice (some ⟨g, 0, none⟩) (n + m) c) (w.setRow g (splice cur (n * k) cs).toArray) := by
 obtain ⟨i, hi, h2⟩ := Option.map_eq_some_iff.1 E.info
 simp only [Prod.mk.injEq] at h2
 obtain ⟨hz, hsize, hby⟩ := h2
 have := run_append_room (P := P) w s ty e i E.sl hi g n c cur.toArray hg ad m c2 cs (by rw [hsize]; exact hn) hsrc h1 hroom (by rw [hsize]; simpa using hfit)
 rw [this, hsize]
 simp [splice]
theorem step_append_in {ops : Array Oper} {o : Oper} {a : Act} {w : World} {K : Act → World → Prop} {Q : Exit → Act → World → Prop} {F : Prop} (hgd : o.guard = none) (E : El P s e k bytes z) (d x : Operand)
  (ho : o.op = .call { callee := .builtin .append, args := #[d, x], argTypes := #[s, s] }) (g n c : Nat) (ad : Addr) (m c2 : Nat) (cur cs : List Value) (hd : a.eval d = .slice (some ⟨g, 0, none⟩) n c) (hx : a.eval x = .slice (some ad) m c2) (hg : Blk w g e cur) (hn : cs.length = m * k) (hsrc : ∀ j v, cs[j]? = some v → w.cell? (ad.add j) = some v) (h1 : ∀ v ∈ cs, v.oneCell' = true) (hroom : n + m ≤ c) (hfit : n * k + cs.length ≤ cur.length)
  (h : ∀ w', Blk w' g e (splice cur (n * k) cs) → w.grownBy w' (some g) → K (a.put o.dst (.slice (some ⟨g, 0, none⟩) (n + m) c)) w') : if Region.wanted o (yielded ops a.tmps) = true then Oper.wp P o a w K Q else F := by
 have hw : Region.wanted o (yielded ops a.tmps) = true := by simp [Region.wanted, hgd]
 rw [if_pos hw]
 have hrun := E.run_append_in w o.type g n c cur hg ad m c2 cs hn hsrc h1 hroom hfit
 unfold Oper.wp execOp
 simp only [ho, resolve, invoke, builtin, Sem.run_bind, Sem.run_pure, Result.andThen_ok, List.map_toArray, List.map_cons, List.map_nil, hd, hx, hrun]
 exact h _ (hg.spl _ cs) (only_row w g _)
theorem wpList_clear_k {ops : Array Oper} {rest : List Oper} {o : Oper} {a : Act} {w : World} {Q : Exit → Act → World → Prop} (hgd : o.guard = none) (E : El P s e k bytes z) (h1 : ∀ u ∈ z.cells.toList, u.oneCell' = true) (x : Operand)
  (ho : o.op = .call { callee := .builtin .clear, args := #[x], argTypes := #[s] }) (g off n c : Nat) (t : TypeId) (cur : List Value) (hx : a.eval x = .slice (some ⟨g, off, none⟩) n c) (hg : Blk w g t cur) (hfit : off + n * k ≤ cur.length)
  (h : ∀ w' zs, zs.length = n * k → Blk w' g t (splice cur off zs) → w.grownBy w' (some g) → wpList P ops Q rest (a.put o.dst (.tuple #[])) w') : wpList P ops Q (o :: rest) a w := by
 refine wpList_plain hgd fun K hK => ?_
 obtain ⟨zs, hz, hrun⟩ := E.run_clear h1 w o.type g off n c t cur hg hfit
 unfold Oper.wp execOp
 simp only [ho, resolve, invoke, builtin, Sem.run_bind, Sem.run_pure, Result.andThen_ok, List.map_toArray, List.map_cons, List.map_nil, hx, hrun]
 exact hK _ _ (h _ zs hz (hg.spl off zs) (only_row w g _))
end

theorem wpList_append_runI {P : Program} (w : World) {ops : Array Oper} {rest : List Oper} {o : Oper} {a : Act} {Q : Exit → Act → World → Prop} (hgd : o.guard = none) (d s : Operand) (t t' : TypeId)
  (ho : o.op = .call { callee := .builtin .append, args := #[d, s], argTypes := #[t, t'] }) (v u : Value) (hd : a.eval d = v) (hs : a.eval s = u) {v' : Value} {w' : World}
  (hr : (Builtin.append_ #[t, t'] o.type #[v, u]).run P w = .ok v' w') (h : wpList P ops Q rest (a.put o.dst v') w') : wpList P ops Q (o :: rest) a w := by
 refine wpList_plain hgd fun K hK => ?_
 unfold Oper.wp execOp
 simp only [ho, resolve, invoke, builtin, Sem.run_bind, Sem.run_pure, Result.andThen_ok, List.map_toArray, List.map_cons, List.map_nil, hd, hs, hr]
 exact hK _ _ h

end Go.Proofs.Ytpolofehkckaoaa
