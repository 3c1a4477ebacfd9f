/-
  El El2 B2
-/
import Derived.Deep.AppendLies
import Derived.Great.BuildSlice
import Derived.Test.YtheecifgbkdecaaSN2
import Derived.Laws.AppendOwn
import Derived.Handy
import Derived.WalkSpells
import Derived.Deep.Draws
import Derived.Deep.AppendSrc
import Derived.Deep.RegionLaw
import Derived.Lib.Hide
import Derived.Laws.CopyOwn
import Derived.Deep.MidRow
import Derived.Deep.RegionHeld
import Derived.Outline
import Derived.Lib.SlBytesConst
import Derived.ChangeKeysEq
import Derived.Laws.StructEq
import Derived.Laws.BitsAllLaws
import Derived.IntWalk
import Derived.MapKept
import Derived.Test.YtheecifgbkdecaaSN5
namespace Go.Proofs.Ytheecifgbkdecaa
open Go.RowKit

/-- s is the type of slices of e, whose elements have k cells. -/
structure El (P : Program) (s e : TypeId) (k bytes : Nat) (z : Value) : Prop where
 sl : P.underlying s = some (.slice e)
 info : (P.info? e).map (fun i => (i.zero, i.size, i.bytes)) = some (some z, k, bytes)
 zero : z.cells.size = k
 pos : 0 < k
 small : k ≤ 1000
 bsm : bytes ≤ 100000

/-- The slice '.slice A n _' reads as these elements, each so many cells. -/
def Sl (w : World) (k : Nat) (A : Option Addr) (n : Nat) (xs : List (List Value)) : Prop :=
 xs.length = n ∧ (0 < n → ∃ g o, A = some ⟨g, o, none⟩ ∧ ∀ (i : Nat) (cs : List Value), xs[i]? = some cs → w.rangeAt g (o + i * k) cs)
/-- v is the call's own slice of these elements: its memory from B on. -/
def Os (w : World) (B : Nat) (e : TypeId) (k : Nat) (v : Value) (xs : List (List Value)) : Prop :=
 w.ownsRow B e k v xs.length xs.flatten ∧ ∀ x ∈ xs, x.length = k

section
variable {w w' : World} {k n B : Nat} {A : Option Addr} {xs : List (List Value)} {v : Value} {e : TypeId}
theorem rangeAt.through {g o : Nat} {cs : List Value} (h : w.rangeAt g o cs) (hb : Below w.heap.size w w') : w'.rangeAt g o cs := fun j u hu =>
 (hb.cell (p := ⟨g, _, none⟩) (World.block_lt_of_cell? w ⟨g, o + j, none⟩ (h j u hu))).trans (h j u hu)
theorem rangeAt.only {g o g' : Nat} {cs : List Value} (h : w.rangeAt g o cs) (hb : w.grownBy w' (some g')) (hne : g ≠ g') : w'.rangeAt g o cs := fun j u hu =>
 hb.cell (h j u hu) (by simpa using hne)
theorem Sl.none_ : Sl w k A 0 [] := ⟨rfl, fun h => absurd h (by omega)⟩
theorem Sl.len (h : Sl w k A n xs) : xs.length = n := h.1
theorem Sl.through (h : Sl w k A n xs) (hb : Below w.heap.size w w') : Sl w' k A n xs := ⟨h.1, fun hn => by
 obtain ⟨g, o, e, hc⟩ := h.2 hn
 exact ⟨g, o, e, fun i cs hi => rangeAt.through (hc i cs hi) hb⟩⟩
theorem Sl.alloc (h : Sl w k A n xs) (o : Obj) : Sl (w.alloc o) k A n xs := h.through ((Below.refl _ w).alloc (Nat.le_refl _) o)
theorem Sl.drew (h : Sl w k A n xs) : Sl w.drew k A n xs := h
theorem Sl.drewN (h : Sl w k A n xs) (m : Nat) : Sl (w.drewN m) k A n xs := h
theorem Sl.at (h : Sl w k A n xs) {i : Nat} (hi : i < n) : ∃ g o x, A = some ⟨g, o, none⟩ ∧ xs[i]? = some x ∧ x ∈ xs ∧ xs.drop i = x :: xs.drop (i + 1) ∧ w.rangeAt g (o + i * k) x := by
 obtain ⟨g, o, e, hc⟩ := h.2 (by omega)
 have hl : i < xs.length := by rw [h.1]; exact hi
 exact ⟨g, o, xs[i], e, List.getElem?_eq_getElem hl, List.getElem_mem hl, List.drop_eq_getElem_cons hl, hc i _ (List.getElem?_eq_getElem hl)⟩

theorem Os.nil (w : World) (B : Nat) (e : TypeId) (k : Nat) : Os w B e k (.slice none 0 0) [] := ⟨World.ownsRow_nil w _ _ _, fun x h => by cases h⟩
theorem Os.keep (h : Os w B e k v xs) (hk : ∀ b, B ≤ b → b < w.heap.size → v.ownBlock = some b → w'.heap[b]? = w.heap[b]?) : Os w' B e k v xs := by
 refine ⟨⟨h.1.1, ?_⟩, h.2⟩
 rcases h.1.2 with h | ⟨g, cap, cur, hv, hb, hg, h1⟩
 ·exact .inl h
 ·exact .inr ⟨g, cap, cur, hv, hb, (hk g hb (Array.getElem?_eq_some_iff.1 hg).1 (by rw [hv]; rfl)).trans hg, h1⟩
theorem Os.through (h : Os w B e k v xs) (hb : Below w.heap.size w w') : Os w' B e k v xs := h.keep fun b _ hl _ => hb.block b hl
theorem Os.alloc (h : Os w B e k v xs) (o : Obj) : Os (w.alloc o) B e k v xs := h.through ((Below.refl _ w).alloc (Nat.le_refl _) o)
theorem Os.drew (h : Os w B e k v xs) : Os w.drew B e k v xs := h
theorem Os.drewN (h : Os w B e k v xs) (m : Nat) : Os (w.drewN m) B e k v xs := h
theorem Os.lt (h : Os w B e k v xs) : ∀ b, v.ownBlock = some b → B ≤ b ∧ b < w.heap.size := fun b hb => h.1.lt b hb
/-- A block of another type is turned. -/
theorem Os.only {g : Nat} {t : TypeId} {cs : Array Value} {fz : Nat × Nat} (h : Os w B e k v xs) (hb : w.grownBy w' (some g)) (hg : w.heap[g]? = some (.cells cs t fz)) (hne : t ≠ e) : Os w' B e k v xs := by
 refine ⟨⟨h.1.1, ?_⟩, h.2⟩
 rcases h.1.2 with h | ⟨g2, cap, cur, hv, hb2, hg2, h1⟩
 ·exact .inl h
 ·refine .inr ⟨g2, cap, cur, hv, hb2, (hb.block g2 (Array.getElem?_eq_some_iff.1 hg2).1 (fun e2 => ?_)).trans hg2, h1⟩
  have e3 : g2 = g := Option.some.inj e2
  subst e3
  rw [hg] at hg2
  injection hg2 with hg2
  injection hg2 with _ ht
  exact hne ht
/-- A block below is turned. -/
theorem Os.far {g : Nat} (h : Os w B e k v xs) (hb : w.grownBy w' (some g)) (hg : g < B) : Os w' B e k v xs :=
 h.keep fun b hB hl _ => hb.block b hl (fun e => by have := Option.some.inj e; omega)
theorem Os.weak {B' : Nat} (h : Os w B e k v xs) (hB : B' ≤ B) : Os w B' e k v xs := by
 refine ⟨⟨h.1.1, ?_⟩, h.2⟩
 rcases h.1.2 with h | ⟨g, cap, cur, hv, hb, r⟩
 ·exact .inl h
 ·exact .inr ⟨g, cap, cur, hv, Nat.le_trans hB hb, r⟩
theorem flatten_drop_take : ∀ (xs : List (List Value)) (i : Nat) (x : List Value), (∀ y ∈ xs, y.length = k) → xs[i]? = some x → ∀ (j : Nat) (u : Value), x[j]? = some u → xs.flatten[i * k + j]? = some u
 | [], _, _, _, h, _, _, _ => by simp at h
 | y :: ys, 0, x, hk, h, j, u, hu => by
  simp at h
  subst h
  rw [List.flatten_cons, Nat.zero_mul, Nat.zero_add, List.getElem?_append_left (List.getElem?_eq_some_iff.1 hu).1, hu]
 | y :: ys, i + 1, x, hk, h, j, u, hu => by
  have hy := hk y (List.mem_cons_self ..)
  have := flatten_drop_take ys i x (fun z hz => hk z (List.mem_cons_of_mem _ hz)) (by simpa using h) j u hu
  rw [List.flatten_cons, List.getElem?_append_right (by rw [hy, Nat.add_mul]; omega), hy]
  rw [show (i + 1) * k + j - k = i * k + j by rw [Nat.add_mul]; omega]
  exact this
theorem flatten_len : ∀ (xs : List (List Value)), (∀ y ∈ xs, y.length = k) → xs.flatten.length = xs.length * k
 | [], _ => by simp
 | y :: ys, h => by
  rw [List.flatten_cons, List.length_append, h y (List.mem_cons_self ..), flatten_len ys (fun z hz => h z (List.mem_cons_of_mem _ hz)), List.length_cons, Nat.add_mul]
  omega
/-- What a call owns, read. -/
theorem Os.out (h : Os w B e k v xs) : ∃ A c, v = .slice A xs.length c ∧ xs.length ≤ c ∧ c ≤ maxLen ∧ Sl w k A xs.length xs := by
 rcases h.1.2 with ⟨hv, hn⟩ | ⟨g, cap, cur, hv, hb, hg, hc, hm, hs, ht⟩
 ·rw [hn]
  exact ⟨none, 0, hv, by omega, by simp [maxLen], hn, fun h0 => absurd h0 (by omega)⟩
 ·refine ⟨_, cap, hv, hc, hm, rfl, fun _ => ⟨g, 0, rfl, fun i x hx j u hu => ?_⟩⟩
  have h1 := flatten_drop_take xs i x h.2 hx j u hu
  have hl := flatten_len xs h.2
  have hj : i * k + j < xs.flatten.length := (List.getElem?_eq_some_iff.1 h1).1
  rw [Nat.zero_add, cell_of_row w g _ _ _ _ hg, ← Array.getElem?_toList, ← List.getElem?_take_of_lt (show i * k + j < xs.length * k by omega), ht, h1]
end

section
variable {P : Program} {s e : TypeId} {k bytes : Nat} {z : Value}
/-- An element's place. -/
theorem El.index (E : El P s e k bytes z) (he : P.elem s = e) (W : World) (g o n c j : Nat) (hj : j < n) : (Instr.indexAt s (.slice (some ⟨g, o, none⟩) n c) (.int .i64 (j : Int))).run P W = .ok (.pointer (some ⟨g, o + j * k, none⟩)) W := by
 obtain ⟨i, hi, h1⟩ := Option.map_eq_some_iff.1 E.info
 simp only [Prod.mk.injEq] at h1
 have hs : (sizeOf e).run P W = .ok k W := by simp [sizeOf, typeInfo, hi, h1.2.1]
 rw [run_indexAt_slice (P := P) W s ⟨g, o, none⟩ n c .i64 j (by rw [he]; exact E.sl), if_pos ⟨by omega, by omega⟩, he, hs]
 simp only [Result.andThen_ok, Int.toNat_natCast]
 have ea : (⟨g, o, none⟩ : Addr).add (j * k) = ⟨g, o + j * k, none⟩ := by unfold Addr.add; split <;> simp_all
 rw [ea]
/-- '[]T{x}' -/
theorem El.run_build (E : El P s e k bytes z) (w : World) (q : List Value) (hq : q.length = k) : (Instr.buildSlice s 1 #[(0, .agg q.toArray)]).run P w = .ok (.slice (some ⟨w.heap.size, 0, none⟩) 1 1) (w.alloc (.cells q.toArray e)) := by
 obtain ⟨i, hi, h1⟩ := Option.map_eq_some_iff.1 E.info
 simp only [Prod.mk.injEq] at h1
 have hp := E.pos
 have hs := E.small
 refine run_buildSlice (P := P) w s e 1 _ q.toArray i z E.sl hi h1.1 (by omega) (by omega) ?_
 have h := Great.fill_whole (s := k) (by omega) [.agg q.toArray] ((Array.range (1 * i.size)).map fun x => z.cells[x % z.cells.size]!) (fun v hv => by
  obtain rfl : v = _ := by simpa using hv
  show q.toArray.size = k
  simpa using hq) (by simp [h1.2.1])
 rw [h1.2.1] at h ⊢
 have ef : ([Value.agg q.toArray].flatMap fun v => v.cells.toList) = q := by simp [Value.cells]
 rw [ef] at h
 exact h
theorem wpList_build_el {ops : Array Oper} {rest : List Oper} {o : Oper} {a : Act} {w : World} {Q : Exit → Act → World → Prop} (hgd : o.guard = none) (E : El P s e k bytes z) (x : Operand) (ho : o.op = .buildSlice s 1 #[(0, x)])
  (q : List Value) (hx : a.eval x = .agg q.toArray) (hq : q.length = k)
  (h : wpList P ops Q rest (a.put o.dst (.slice (some ⟨w.heap.size, 0, none⟩) 1 1)) (w.alloc (.cells q.toArray e))) : wpList P ops Q (o :: rest) a w := by
 exact wpList_plain hgd fun _ hK => by
  unfold Oper.wp execOp
  simp only [ho, Sem.run_bind, List.map_toArray, List.map_cons, List.map_nil, hx, E.run_build w q hq, Result.andThen_ok]
  exact hK _ _ h
/-- append of the one element that was just built -/
theorem wpList_append_el {ops : Array Oper} {rest : List Oper} {o : Oper} {a : Act} {w : World} {Q : Exit → Act → World → Prop} (hgd : o.guard = none) (E : El P s e k bytes z) (sl x : Operand)
  (ho : o.op = .call { callee := .builtin .append, args := #[sl, x], argTypes := #[s, s] })
  (B : Nat) (v : Value) (xs : List (List Value)) (hs : a.eval sl = v) (hown : Os w B e k v xs) (g : Nat) (q : List Value) (hx : a.eval x = .slice (some ⟨g, 0, none⟩) 1 1) (hg : Blk w g e q) (hq : q.length = k) (h1 : ∀ u ∈ q, u.oneCell' = true)
  (hn : xs.length ≤ 1000000) (hB : B ≤ w.heap.size)
  (h : ∀ v' w', Os w' B e k v' (xs ++ [q]) → w.grownBy w' v.ownBlock → wpList P ops Q rest (a.put o.dst v') w') : wpList P ops Q (o :: rest) a w := by
 obtain ⟨i, hi, h2⟩ := Option.map_eq_some_iff.1 E.info
 simp only [Prod.mk.injEq] at h2
 have hp := E.pos
 have hbs := E.bsm
 have hcell : ∀ j u, q[j]? = some u → w.cell? ((⟨g, 0, none⟩ : Addr).add j) = some u := fun j u hu => by
  have ea : (⟨g, 0, none⟩ : Addr).add j = ⟨g, j, none⟩ := by unfold Addr.add; split <;> simp_all
  rw [ea]
  exact hg.cellAt hu
 have hmul : (xs.length + 1) * bytes ≤ 1000001 * 100000 := Nat.mul_le_mul (by omega) hbs
 refine wpList_append_lies w hgd sl x s ho B e i z k bytes E.sl hi h2.1 h2.2.1 h2.2.2 E.zero hp v xs.length xs.flatten hs hown.1 ⟨g, 0, none⟩ 1 1 q hx (by rw [hq]; omega) hcell h1 (by omega) (by unfold maxLen; omega) (by omega) hB _ rfl fun g' cap w' h3 h4 _ _ => h _ w' ⟨?_, ?_⟩ h4
 ·have e1 : (xs ++ [q]).flatten = xs.flatten ++ q := by simp
  rw [e1, List.length_append]
  exact h3
 ·intro y hy
  rcases List.mem_append.1 hy with hy | hy
  ·exact hown.2 y hy
  ·rw [List.mem_singleton.1 hy]; exact hq
end

end Go.Proofs.Ytheecifgbkdecaa

namespace Go.Proofs.Ytheecifgbkdecaa
open Go.RowKit

section
variable {k : Nat}
end

section
variable {P : Program} {s e : TypeId} {k bytes : Nat} {z : Value}
/-- append(nil, make([]T, m)...), m at least 1: a new row. -/
theorem El.run_append_zeros (E : El P s e k bytes z) (w : World) (ti ty : TypeId) (hti : P.underlying ti = some (.int .i64)) (m : Nat) (hpos : 0 < m) (hm : m ≤ 1000000) :
  ∃ cap w', (Builtin.append_ #[s, ti] ty #[.slice none 0 0, .int .i64 (m : Int)]).run P w = .ok (.slice (some ⟨w.heap.size, 0, none⟩) m cap) w' ∧ Os w' w.heap.size e k (.slice (some ⟨w.heap.size, 0, none⟩) 0 cap) [] ∧ m ≤ cap ∧ Below w.heap.size w w' := by
 obtain ⟨i, hi, h2⟩ := Option.map_eq_some_iff.1 E.info
 simp only [Prod.mk.injEq] at h2
 obtain ⟨hz, hsize, hby⟩ := h2
 have hp := E.pos
 have hbs := E.bsm
 have hw : IntKind.i64.wrap (m : Int) = m := IntWalk.i64_in _ (by omega)
 have h0 : ¬ ((m : Int) < 0) := by omega
 have hm0 : m ≠ 0 := by omega
 have hks := E.small
 have hmul : m * bytes ≤ 1000000 * 100000 := Nat.mul_le_mul hm hbs
 have h48 : ¬ (281474976710656 < (m : Int) * (bytes : Int)) := by
  rw [← Int.natCast_mul]
  omega
 have hmk : ¬ (m * k = 0) := fun h9 => by rcases Nat.mul_eq_zero.1 h9 with h9 | h9 <;> omega
 have hge := grownCap_ge w m 0 e
 have hcm : grownCap w m 0 e ≤ maxLen := grownCap_le_maxLen w m 0 e (by simp only [maxLen]; omega)
 have hfit := growslice_fits (need := m) (old := 0) (bytes := bytes) (by omega) (by omega)
 have hfit' : ¬ (281474976710656 < Builtin.nextslicecap m 0 * bytes) := by omega
 have h63 : ¬ (9223372036854775807 < (m : Int)) := by omega
 have hold : ∀ W, (Builtin.firstCells k 0 (.slice none 0 0)).run P W = .ok #[] W := fun W => run_firstCells_none W k 0 0 0
 obtain ⟨row, hrow⟩ : ∃ row, row = Builtin.zeroCells z.cells m ++ Builtin.zeroCells z.cells (grownCap w m 0 e - m) := ⟨_, rfl⟩
 have hrs : row.size = grownCap w m 0 e * k := by
  rw [hrow]
  simp only [Array.size_append, size_zeroCells, E.zero]
  rw [← Nat.add_mul]
  congr 1
  omega
 refine ⟨grownCap w m 0 e, w.drew.alloc (.cells row e), ?_, ⟨⟨by simp, .inr ⟨w.heap.size, _, row, rfl, Nat.le_refl _, heap_alloc_new w.drew _, Nat.zero_le _, hcm, hrs, by simp⟩⟩, fun x hx => by cases hx⟩, hge, ⟨rfl, rfl, rfl, by simp, fun q hq => Below.heap_alloc w.drew _ q hq⟩⟩
 simp [Builtin.append_, run_underlying E.sl, run_underlying hti, sizeOf, typeInfo, zeroValue, hi, hz, hsize, hby, asInt, asIntOf, hw, h0, h48, hmk, hm0, hold, hfit', h63, Question.forced, newRow, hrow, grownCap]
theorem wpList_append_zeros {ops : Array Oper} {rest : List Oper} {o : Oper} {a : Act} {w : World} {Q : Exit → Act → World → Prop} (hgd : o.guard = none) (E : El P s e k bytes z) (ti : TypeId) (hti : P.underlying ti = some (.int .i64)) (sl x : Operand)
  (ho : o.op = .call { callee := .builtin .append, args := #[sl, x], argTypes := #[s, ti] })
  (hs : a.eval sl = .slice none 0 0) (m : Nat) (hx : a.eval x = .int .i64 (m : Int)) (hpos : 0 < m) (hm : m ≤ 1000000)
  (h : ∀ cap w', Os w' w.heap.size e k (.slice (some ⟨w.heap.size, 0, none⟩) 0 cap) [] → m ≤ cap → Below w.heap.size w w' → wpList P ops Q rest (a.put o.dst (.slice (some ⟨w.heap.size, 0, none⟩) m cap)) w') : wpList P ops Q (o :: rest) a w := by
 refine wpList_plain hgd fun K hK => ?_
 obtain ⟨cap, w', hrun, h2, h3, h4⟩ := E.run_append_zeros w ti o.type hti m hpos hm
 unfold Oper.wp execOp
 simp only [ho, resolve, invoke, builtin, Sem.run_bind, Sem.run_pure, Result.andThen_ok, List.map_toArray, List.map_cons, List.map_nil, hs, hx, hrun]
 exact hK _ _ (h cap w' h2 h3 h4)
end

theorem yields_build {P : Program} {ops : Array Oper} {S : World → Prop} {op : Oper} {a : Act} (hw : Region.wanted op (yielded ops a.tmps) = true) (t : TypeId) (parts : Array (Nat × Operand)) (ho : op.op = .build t parts)
  (vs : Array (Nat × Value)) (hx : parts.map (fun (i, x) => (i, a.eval x)) = vs) (v : Value) (hS : ∀ w, S w → (Instr.build t vs).run P w = .ok v w) : YieldsIf P ops S op v a :=
 .inl ⟨hw, fun w hw' => by
  unfold execOp
  simp only [ho, hx, Sem.run_bind, hS w hw', Result.andThen_ok]
  rfl⟩
end Go.Proofs.Ytheecifgbkdecaa

namespace Go.Proofs.Ytheecifgbkdecaa
open Go.RowKit

theorem wpList_build_to {P : Program} {ops : Array Oper} {rest : List Oper} {o : Oper} {a : Act} {w : World} {Q : Exit → Act → World → Prop} (hg : o.guard = none) (t : TypeId) (parts : List (Nat × Operand)) (ho : o.op = .build t parts.toArray)
    (vals : List (Nat × Value)) (hv : (parts.map fun p => (p.1, a.eval p.2)) = vals) (v : Value) (hrun : (Instr.build t vals.toArray).run P w = .ok v w)
    (h : wpList P ops Q rest (a.put o.dst v) w) : wpList P ops Q (o :: rest) a w :=
  wpList_plain hg fun _ hK => by
    unfold Oper.wp execOp
    subst hv
    simp only [ho, Sem.run_bind, List.map_toArray, hrun, Result.andThen_ok]
    exact hK _ _ h

/-- An index into an array by value, of one-cell elements. -/
theorem run_index_row {P : Program} (w : World) (t e : TypeId) (n : Nat) (cs : List Value) (k : IntKind) (i : Nat) (v : Value) (h : P.underlying t = some (.array n e))
    (he : (isAgg e).run P w = .ok false w) (hs : (P.info? e).map (·.size) = some 1) (hi : i < n) (hv : cs[i]? = some v) : (Instr.index t (.agg cs.toArray) (.int k i)).run P w = .ok v w := by
  cases hq : P.info? e with
  | none => simp [hq] at hs
  | some info =>
    have hs1 : info.size = 1 := by simpa [hq] using hs
    simp [Instr.index, asIntOf, Sem.run_bind, run_underlying h, sizeOf, typeInfo, hq, hs1, part, he, hi, hv]

theorem Blk.cells {t : TypeId} (g : Nat) : ∀ (vs : List Value) (pre old rest : List Value) (w : World), old.length = vs.length → Blk w g t (pre ++ (old ++ rest)) → Blk (w.setCells g pre.length vs) g t (pre ++ (vs ++ rest))
  | [], pre, old, rest, w, hl, h => by
    obtain rfl : old = [] := List.eq_nil_of_length_eq_zero hl
    exact h
  | v :: r, pre, [], rest, w, hl, h => by simp at hl
  | v :: r, pre, x :: old, rest, w, hl, h => by
    rw [World.setCells]
    have h1 := h.set_ pre.length v
    rw [List.set_append_right _ _ (Nat.le_refl _), Nat.sub_self] at h1
    have h2 : Blk (w.setCell ⟨g, pre.length, none⟩ v) g t ((pre ++ [v]) ++ (old ++ rest)) := by
      rw [List.append_assoc]
      exact h1
    have h3 := Blk.cells g r (pre ++ [v]) old rest _ (by simpa using hl) h2
    rw [List.length_append] at h3
    rw [List.append_assoc] at h3
    exact h3

/-- copy into a block that is known whole, in a region that draws its order. -/
theorem step_copy_blk {P : Program} {ops : Array Oper} {o : Oper} {a : Act} {w : World} {K : Act → World → Prop} {Q : Exit → Act → World → Prop} {E : Prop} (hgd : o.guard = none) (d s : Operand) (dT sT : TypeId)
    (ho : o.op = .call { callee := .builtin .copy, args := #[d, s], argTypes := #[dT, sT] }) (elem : TypeId) (hu : P.underlying dT = some (.slice elem)) (hsz : (P.info? elem).map (·.size) = some 1)
    (g off dLen dCap : Nat) (sp : Option Addr) (sLen sCap : Nat) (hd : a.eval d = .slice (some ⟨g, off, none⟩) dLen dCap) (hs : a.eval s = .slice sp sLen sCap)
    (cur : List Value) (t : TypeId) (hg : Blk w g t cur) (cs : List Value) (kk : Nat) (hk : cs.length = kk) (hn : kk = Nat.min sLen dLen) (hpos : 0 < kk)
    (hsrc : ∃ ad, sp = some ad ∧ ∀ j v, cs[j]? = some v → w.cell? (ad.add j) = some v) (hfit : off + kk ≤ cur.length) (h1 : ∀ v ∈ cs, v.oneCell' = true)
    (h : ∀ w', Blk w' g t (splice cur off cs) → w.grownBy w' (some g) → K (a.put o.dst (.int .i64 (kk : Int))) w') :
    if Region.wanted o (yielded ops a.tmps) = true then Oper.wp P o a w K Q else E := by
  have hw : Region.wanted o (yielded ops a.tmps) = true := by simp [Region.wanted, hgd]
  rw [if_pos hw]
  obtain ⟨ad, rfl, hsrc⟩ := hsrc
  subst hk
  have hrun := run_copy_row (P := P) w dT sT o.type elem g off dLen dCap ad sLen sCap cur.toArray t cs hu hsz hg hn hsrc (by simpa using hfit) h1
  unfold Oper.wp
  simp [execOp, ho, resolve, invoke, builtin, hd, hs, hrun, Result.andThen]
  exact h _ (show _ = _ by simpa [splice] using setRow_heap w g _ _ t _ hg) (only_row w g _)

theorem step_append_by {P : Program} {ops : Array Oper} {o : Oper} {a : Act} {w : World} {K : Act → World → Prop} {R : Exit → Act → World → Prop} {E : Prop} (hw : Region.wanted o (yielded ops a.tmps) = true) (s x : Operand) (t : TypeId)
    (ho : o.op = .call { callee := .builtin .append, args := #[s, x], argTypes := #[t, t] })
    (base : Nat) (i : TypeInfo) (ht : P.underlying t = some (.slice 5)) (hi : P.info? 5 = some i) (hz : i.zero = some (.int .u8 0))
    (hsize : i.size = 1) (hby : i.bytes = 1) (v : Value) (n : Nat) (ys : List UInt8) (hs : a.eval s = v) (hown : w.ownsRow base 5 1 v n (vs ys))
    (Q : Nat → Prop) (A : Option Addr) (m c : Nat) (xs : List UInt8) (hx : a.eval x = .slice A m c) (hr : By w Q A m xs) (hbytes : n + m ≤ 140737488355328) (hbase : base ≤ w.heap.size) (N : Nat) (hN : n + m = N) (zs : List UInt8) (hzs : ys ++ xs = zs)
    (h : ∀ A' c' w', w'.ownsRow base 5 1 (.slice A' N c') N (vs zs) → N ≤ c' → c' ≤ maxLen → Below base w w' → K (a.put o.dst (.slice A' N c')) w') :
    if Region.wanted o (yielded ops a.tmps) = true then Oper.wp P o a w K R else E := by
  rw [if_pos hw]
  obtain ⟨v', w', hrun, h2, h3, h4⟩ := run_append_by (P := P) w base t o.type i ht hi hz hsize hby v n (vs ys) hown Q A m c xs hr hbytes hbase
  rw [vs_append] at h2
  subst hN; subst hzs
  obtain ⟨A', c', rfl, hc1, hc2, _⟩ := own_form h2
  unfold Oper.wp execOp
  simp only [ho, resolve, invoke, builtin, Sem.run_bind, Sem.run_pure, Result.andThen_ok, List.map_toArray, List.map_cons, List.map_nil, hs, hx, hrun]
  exact h A' c' w' h2 hc1 hc2 ((Below.refl _ w).grown h3 hbase (fun k hk => (hown.lt k hk).1))

theorem By.fresh {w : World} {A : Array Value} {e : TypeId} {fr : Nat × Nat} (xs : List UInt8) (h : A = (vs xs).toArray) : By (w.alloc (.cells A e fr)) (fun _ => True) (some ⟨w.heap.size, 0, none⟩) xs.length xs :=
  ⟨rfl, fun _ => ⟨_, 0, rfl, trivial, fun j u hu => by
    subst h
    rw [Nat.zero_add, cell_of_row _ w.heap.size _ _ _ _ (heap_alloc_new w _), List.getElem?_toArray, vs_get, hu]
    rfl⟩⟩

theorem run_eqItems_bytes {P : Program} (d : Nat) (e : TypeId) (w : World) (he : P.underlying e = some (.int .u8)) (xs ys : List UInt8) :
    ∀ (m k : Nat), k + m = xs.length → xs.length = ys.length → (Op.eqItems (d + 1) e 1 (vs xs).toArray (vs ys).toArray (List.range' k m)).run P w = .ok (xs.drop k == ys.drop k) w
  | 0, k, h, hl => by
    rw [List.drop_eq_nil_of_le (by omega), List.drop_eq_nil_of_le (by omega)]
    rfl
  | m + 1, k, h, hl => by
    have hk : k < xs.length := by omega
    have hk2 : k < ys.length := by omega
    have hag : (isAgg e).run P w = .ok false w := by simp [isAgg, Sem.run_bind, run_underlying he]
    have hp : ∀ zs : List UInt8, (hz : k < zs.length) → (part e (vs zs).toArray (k * 1)).run P w = .ok (u8 zs[k]) w := fun zs hz => by
      have hv : (vs zs)[k]? = some (u8 zs[k]) := by rw [vs_get, List.getElem?_eq_getElem hz]; rfl
      simp [part, Sem.run_bind, hag, hv]
    have ih := run_eqItems_bytes d e w he xs ys m (k + 1) (by omega) hl
    rw [List.range'_succ]
    simp only [Op.eqItems, Sem.run_bind, hp xs hk, hp ys hk2, Result.andThen_ok]
    unfold u8
    rw [run_equalIn_int w d e .u8 .u8 _ _ he, List.drop_eq_getElem_cons hk, List.drop_eq_getElem_cons hk2]
    simp only [Result.andThen_ok, List.cons_beq_cons]
    by_cases hx : xs[k] = ys[k]
    · simp [hx, ih]
    · have hne : ((xs[k].toNat : Int) == (ys[k].toNat : Int)) = false := by
        simp only [beq_eq_false_iff_ne, ne_eq]
        intro h
        exact hx (UInt8.toNat_inj.1 (by omega))
      simp [hne, hx]

/-- one byte, in a block of its own -/
theorem By.one8 {w : World} {Q : Nat → Prop} {b : UInt8} (t : TypeId) (hQ : Q w.heap.size) : By (w.alloc (.cells #[.int .u8 (b.toNat : Int)] t)) Q (some ⟨w.heap.size, 0, none⟩) 1 [b] := by
  refine ⟨rfl, fun _ => ⟨_, _, rfl, hQ, fun j u hu => ?_⟩⟩
  match j, hu with
  | 0, hu =>
    simp at hu
    subst hu
    rw [cell_of_row _ w.heap.size _ _ _ _ (heap_alloc_new w _)]
    rfl

/-- Block g refers to the map in block k. -/
def Own (w : World) (g k : Nat) : Prop := ∃ (cs : Array Value) (t : TypeId) (fr : Nat × Nat) (i : Nat), w.heap[g]? = some (.cells cs t fr) ∧ cs[i]? = some (Value.map (some k))

theorem Own.congr {w w' : World} {g k : Nat} (e : w'.heap[g]? = w.heap[g]?) (h : Own w' g k) : Own w g k := by
  obtain ⟨cs, t, fr, i, h1, h2⟩ := h
  exact ⟨cs, t, fr, i, e ▸ h1, h2⟩

/-- WHAT A CALL OF THE OBJECT OF BLOCK g MAY TURN: the object itself, its own maps, and new blocks. -/
structure KF (g : Nat) (w w' : World) : Prop where
  low : Below g w w'
  cells : ∀ k, k ≠ g → (∃ cs t fr, w.heap[k]? = some (.cells cs t fr)) → w'.heap[k]? = w.heap[k]?
  rest : ∀ k, k < w.heap.size → k ≠ g → ¬ Own w g k → w'.heap[k]? = w.heap[k]?
  own : ∀ k, Own w' g k → Own w g k ∨ w.heap.size ≤ k

theorem KF.refl (g : Nat) (w : World) : KF g w w := ⟨Below.refl _ _, fun _ _ _ => rfl, fun _ _ _ _ => rfl, fun _ h => .inl h⟩

theorem KF.size {g : Nat} {w w' : World} (h : KF g w w') : w.heap.size ≤ w'.heap.size := h.low.size

theorem KF.trans {g : Nat} {a b c : World} (h : KF g a b) (k : KF g b c) : KF g a c :=
  ⟨h.low.trans k.low, fun i hi hc => by
    have e := h.cells i hi hc
    obtain ⟨cs, t, fr, hh⟩ := hc
    exact (k.cells i hi ⟨cs, t, fr, e.trans hh⟩).trans e,
   fun i hi hg ho => (k.rest i (Nat.lt_of_lt_of_le hi h.size) hg fun hb => by
      rcases h.own i hb with h1 | h1
      · exact ho h1
      · omega).trans (h.rest i hi hg ho),
   fun i ho => by
    rcases k.own i ho with h1 | h1
    · exact h.own i h1
    · exact .inr (Nat.le_trans h.size h1)⟩

theorem KF.of_below {g : Nat} {w w' : World} (hg : g < w.heap.size) (h : Below w.heap.size w w') : KF g w w' :=
  ⟨h.mono (Nat.le_of_lt hg), fun k _ ⟨_, _, _, hc⟩ => h.block k (Array.getElem?_eq_some_iff.1 hc).1, fun k hk _ _ => h.block k hk, fun _ ho => .inl (ho.congr (h.block g hg))⟩

theorem KF.blk {g k : Nat} {w w' : World} {t : TypeId} {cs : List Value} (h : KF g w w') (hb : Blk w k t cs) (hk : k ≠ g) : Blk w' k t cs := (h.cells k hk ⟨_, _, _, hb⟩).trans hb

theorem KF.drew {g : Nat} {w w' : World} (h : KF g w w') : KF g w w'.drew := ⟨h.low.drew, h.cells, h.rest, fun k hk => h.own k hk⟩

theorem KF.below {g : Nat} {w w' w'' : World} (h : KF g w w') (hg : g < w.heap.size) (hb : Below w'.heap.size w' w'') : KF g w w'' := h.trans (KF.of_below (Nat.lt_of_lt_of_le hg h.size) hb)

theorem KF.alloc {g : Nat} {w w' : World} (h : KF g w w') (hg : g < w.heap.size) (o : Obj) : KF g w (w'.alloc o) := h.below hg ((Below.refl _ w').alloc (Nat.le_refl _) o)

/-- one of its maps is turned -/
theorem KF.turn {g r : Nat} {w w' : World} (hg : w.grownBy w' (some r)) (hr : g < r) (ho : Own w g r) (hm : ∃ es ck, w.heap[r]? = some (.map es ck)) : KF g w w' := by
  have hrl : r < w.heap.size := by
    obtain ⟨_, _, hm⟩ := hm
    exact (Array.getElem?_eq_some_iff.1 hm).1
  refine ⟨⟨hg.os, hg.tape, hg.output, hg.size, fun k hk => hg.block k (by omega) (fun e => by have := Option.some.inj e; omega)⟩, fun k _ ⟨_, _, _, hc⟩ => hg.block k (Array.getElem?_eq_some_iff.1 hc).1 (fun e => ?_), fun k hk _ hno => hg.block k hk (fun e => hno (Option.some.inj e ▸ ho)), fun k hk => .inl (hk.congr (hg.block g (by omega) (fun e => by have := Option.some.inj e; omega)))⟩
  have e := Option.some.inj e
  subst e
  obtain ⟨es, ck, hm⟩ := hm
  rw [hm] at hc
  cases hc

/-- The answer's own block is written. -/
theorem KF.grownB {g b : Nat} {w W W' : World} (h : KF g w W) (ho : W.grownBy W' (some b)) (hb : w.heap.size ≤ b) (hg : g < w.heap.size) : KF g w W' :=
  ⟨h.low.grown ho (Nat.le_trans (Nat.le_of_lt hg) h.size) (fun k hk => Option.some.inj hk ▸ Nat.le_trans (Nat.le_of_lt hg) hb), fun k hk hc => by
    have e := h.cells k hk hc
    obtain ⟨_, _, _, hc⟩ := hc
    have hl := (Array.getElem?_eq_some_iff.1 hc).1
    exact (ho.block k (Nat.lt_of_lt_of_le hl h.size) (fun e' => by have := Option.some.inj e'; omega)).trans e,
   fun k hk hne hno => (ho.block k (Nat.lt_of_lt_of_le hk h.size) (fun e' => by have := Option.some.inj e'; omega)).trans (h.rest k hk hne hno),
   fun k hk => h.own k (hk.congr (ho.block g (Nat.lt_of_lt_of_le hg h.size) (fun e' => by have := Option.some.inj e'; omega)))⟩

theorem KF.row {g b : Nat} {w W : World} {cs : Array Value} (h : KF g w W) (hb : w.heap.size ≤ b) (hg : g < w.heap.size) : KF g w (W.setRow b cs) := h.grownB (only_row W b cs) hb hg

/-- '!=' of arrays by their '=='. -/
theorem arr_neq {P : Program} {t : TypeId} {A B : Array Value} {b : Bool} (h : ∀ w, (binOp .eql t (.agg A) (.agg B)).run P w = .ok (.bool b) w) (w : World) : (binOp .neq t (.agg A) (.agg B)).run P w = .ok (.bool (!b)) w := by
  have h := h w
  rw [run_eql_struct] at h
  rw [run_neq_struct]
  cases hq : (Op.equalIn 10000 t (.agg A) (.agg B)).run P w with
  | ok c w' =>
    rw [hq] at h
    simp only [Result.andThen_ok] at h ⊢
    injection h with h1 h2
    injection h1 with h1
    rw [h1, h2]
  | halt x w' =>
    rw [hq] at h
    simp [Result.andThen] at h

end Go.Proofs.Ytheecifgbkdecaa
