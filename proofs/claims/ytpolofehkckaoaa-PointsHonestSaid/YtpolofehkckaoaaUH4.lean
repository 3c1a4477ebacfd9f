/-
  Joined: El.
-/
import Derived.Deep.AppendLies
import Derived.Great.BuildSlice
import Derived.Test.YtpolofehkckaoaaUH2
namespace Go.Proofs.Ytpolofehkckaoaa
open Go.RowKit

/-- s is the type of slices of e, whose elements have k cells. -/
structure El (P : Program) (s e : TypeId) (k bytes : Nat) (z : Value) : Prop where
 sl : P.underlying s = some (.slice e)
 info : (P.info? e).map (fun i => (i.zero, i.size, i.bytes)) = some (some z, k, bytes)
 zero : z.cells.size = k
 pos : 0 < k
 small : k ≤ 1000
 bsm : bytes ≤ 100000

/-- The slice '.slice A n _' reads as these elements, each so many cells. -/
def Sl (w : World) (k : Nat) (A : Option Addr) (n : Nat) (xs : List (List Value)) : Prop :=
 xs.length = n ∧ (0 < n → ∃ g o, A = some ⟨g, o, none⟩ ∧ ∀ (i : Nat) (cs : List Value), xs[i]? = some cs → w.rangeAt g (o + i * k) cs)
/-- v is the call's own slice of these elements: its memory from B on. -/
def Os (w : World) (B : Nat) (e : TypeId) (k : Nat) (v : Value) (xs : List (List Value)) : Prop :=
 w.ownsRow B e k v xs.length xs.flatten ∧ ∀ x ∈ xs, x.length = k

section
variable {w w' : World} {k n B : Nat} {A : Option Addr} {xs : List (List Value)} {v : Value} {e : TypeId}
theorem rangeAt.through {g o : Nat} {cs : List Value} (h : w.rangeAt g o cs) (hb : Below w.heap.size w w') : w'.rangeAt g o cs := fun j u hu =>
 (hb.cell (p := ⟨g, _, none⟩) (World.block_lt_of_cell? w ⟨g, o + j, none⟩ (h j u hu))).trans (h j u hu)
theorem rangeAt.only {g o g' : Nat} {cs : List Value} (h : w.rangeAt g o cs) (hb : w.grownBy w' (some g')) (hne : g ≠ g') : w'.rangeAt g o cs := fun j u hu =>
 hb.cell (h j u hu) (by simpa using hne)
theorem Sl.none_ : Sl w k A 0 [] := ⟨rfl, fun h => absurd h (by omega)⟩
theorem Sl.len (h : Sl w k A n xs) : xs.length = n := h.1
theorem Sl.through (h : Sl w k A n xs) (hb : Below w.heap.size w w') : Sl w' k A n xs := ⟨h.1, fun hn => by
 obtain ⟨g, o, e, hc⟩ := h.2 hn
 exact ⟨g, o, e, fun i cs hi => rangeAt.through (hc i cs hi) hb⟩⟩
theorem Sl.alloc (h : Sl w k A n xs) (o : Obj) : Sl (w.alloc o) k A n xs := h.through ((Below.refl _ w).alloc (Nat.le_refl _) o)
theorem Sl.drew (h : Sl w k A n xs) : Sl w.drew k A n xs := h
theorem Sl.at (h : Sl w k A n xs) {i : Nat} (hi : i < n) : ∃ g o x, A = some ⟨g, o, none⟩ ∧ xs[i]? = some x ∧ x ∈ xs ∧ xs.drop i = x :: xs.drop (i + 1) ∧ w.rangeAt g (o + i * k) x := by
 obtain ⟨g, o, e, hc⟩ := h.2 (by omega)
 have hl : i < xs.length := by rw [h.1]; exact hi
 exact ⟨g, o, xs[i], e, List.getElem?_eq_getElem hl, List.getElem_mem hl, List.drop_eq_getElem_cons hl, hc i _ (List.getElem?_eq_getElem hl)⟩

theorem Os.nil (w : World) (B : Nat) (e : TypeId) (k : Nat) : Os w B e k (.slice none 0 0) [] := ⟨World.ownsRow_nil w _ _ _, fun x h => by cases h⟩
theorem Os.keep (h : Os w B e k v xs) (hk : ∀ b, B ≤ b → b < w.heap.size → v.ownBlock = some b → w'.heap[b]? = w.heap[b]?) : Os w' B e k v xs := by
 refine ⟨⟨h.1.1, ?_⟩, h.2⟩
 rcases h.1.2 with h | ⟨g, cap, cur, hv, hb, hg, h1⟩
 ·exact .inl h
 ·exact .inr ⟨g, cap, cur, hv, hb, (hk g hb (Array.getElem?_eq_some_iff.1 hg).1 (by rw [hv]; rfl)).trans hg, h1⟩
theorem Os.through (h : Os w B e k v xs) (hb : Below w.heap.size w w') : Os w' B e k v xs := h.keep fun b _ hl _ => hb.block b hl
theorem Os.alloc (h : Os w B e k v xs) (o : Obj) : Os (w.alloc o) B e k v xs := h.through ((Below.refl _ w).alloc (Nat.le_refl _) o)
theorem Os.drew (h : Os w B e k v xs) : Os w.drew B e k v xs := h
theorem Os.lt (h : Os w B e k v xs) : ∀ b, v.ownBlock = some b → B ≤ b ∧ b < w.heap.size := fun b hb => h.1.lt b hb
/-- A block of another type is turned. -/
theorem Os.only {g : Nat} {t : TypeId} {cs : Array Value} {fz : Nat × Nat} (h : Os w B e k v xs) (hb : w.grownBy w' (some g)) (hg : w.heap[g]? = some (.cells cs t fz)) (hne : t ≠ e) : Os w' B e k v xs := by
 refine ⟨⟨h.1.1, ?_⟩, h.2⟩
 rcases h.1.2 with h | ⟨g2, cap, cur, hv, hb2, hg2, h1⟩
 ·exact .inl h
 ·refine .inr ⟨g2, cap, cur, hv, hb2, (hb.block g2 (Array.getElem?_eq_some_iff.1 hg2).1 (fun e2 => ?_)).trans hg2, h1⟩
  have e3 : g2 = g := Option.some.inj e2
  subst e3
  rw [hg] at hg2
  injection hg2 with hg2
  injection hg2 with _ ht
  exact hne ht
theorem Os.weak {B' : Nat} (h : Os w B e k v xs) (hB : B' ≤ B) : Os w B' e k v xs := by
 refine ⟨⟨h.1.1, ?_⟩, h.2⟩
 rcases h.1.2 with h | ⟨g, cap, cur, hv, hb, r⟩
 ·exact .inl h
 ·exact .inr ⟨g, cap, cur, hv, Nat.le_trans hB hb, r⟩
theorem flatten_drop_take : ∀ (xs : List (List Value)) (i : Nat) (x : List Value), (∀ y ∈ xs, y.length = k) → xs[i]? = some x → ∀ (j : Nat) (u : Value), x[j]? = some u → xs.flatten[i * k + j]? = some u
 | [], _, _, _, h, _, _, _ => by simp at h
 | y :: ys, 0, x, hk, h, j, u, hu => by
  simp at h
  subst h
  rw [List.flatten_cons, Nat.zero_mul, Nat.zero_add, List.getElem?_append_left (List.getElem?_eq_some_iff.1 hu).1, hu]
 | y :: ys, i + 1, x, hk, h, j, u, hu => by
  have hy := hk y (List.mem_cons_self ..)
  have := flatten_drop_take ys i x (fun z hz => hk z (List.mem_cons_of_mem _ hz)) (by simpa using h) j u hu
  rw [List.flatten_cons, List.getElem?_append_right (by rw [hy, Nat.add_mul]; omega), hy]
  rw [show (i + 1) * k + j - k = i * k + j by rw [Nat.add_mul]; omega]
  exact this
theorem flatten_len : ∀ (xs : List (List Value)), (∀ y ∈ xs, y.length = k) → xs.flatten.length = xs.length * k
 | [], _ => by simp
 | y :: ys, h => by
  rw [List.flatten_cons, List.length_append, h y (List.mem_cons_self ..), flatten_len ys (fun z hz => h z (List.mem_cons_of_mem _ hz)), List.length_cons, Nat.add_mul]
  omega
/-- What a call owns, read. -/
theorem Os.out (h : Os w B e k v xs) : ∃ A c, v = .slice A xs.length c ∧ xs.length ≤ c ∧ c ≤ maxLen ∧ Sl w k A xs.length xs := by
 rcases h.1.2 with ⟨hv, hn⟩ | ⟨g, cap, cur, hv, hb, hg, hc, hm, hs, ht⟩
 ·rw [hn]
  exact ⟨none, 0, hv, by omega, by simp [maxLen], hn, fun h0 => absurd h0 (by omega)⟩
 ·refine ⟨_, cap, hv, hc, hm, rfl, fun _ => ⟨g, 0, rfl, fun i x hx j u hu => ?_⟩⟩
  have h1 := flatten_drop_take xs i x h.2 hx j u hu
  have hl := flatten_len xs h.2
  have hj : i * k + j < xs.flatten.length := (List.getElem?_eq_some_iff.1 h1).1
  rw [Nat.zero_add, cell_of_row w g _ _ _ _ hg, ← Array.getElem?_toList, ← List.getElem?_take_of_lt (show i * k + j < xs.length * k by omega), ht, h1]
end

section
variable {P : Program} {s e : TypeId} {k bytes : Nat} {z : Value}
/-- An element's place. -/
theorem El.index (E : El P s e k bytes z) (he : P.elem s = e) (W : World) (g o n c j : Nat) (hj : j < n) : (Instr.indexAt s (.slice (some ⟨g, o, none⟩) n c) (.int .i64 (j : Int))).run P W = .ok (.pointer (some ⟨g, o + j * k, none⟩)) W := by
 obtain ⟨i, hi, h1⟩ := Option.map_eq_some_iff.1 E.info
 simp only [Prod.mk.injEq] at h1
 have hs : (sizeOf e).run P W = .ok k W := by simp [sizeOf, typeInfo, hi, h1.2.1]
 rw [run_indexAt_slice (P := P) W s ⟨g, o, none⟩ n c .i64 j (by rw [he]; exact E.sl), if_pos ⟨by omega, by omega⟩, he, hs]
 simp only [Result.andThen_ok, Int.toNat_natCast]
 have ea : (⟨g, o, none⟩ : Addr).add (j * k) = ⟨g, o + j * k, none⟩ := by unfold Addr.add; split <;> simp_all
 rw [ea]
/-- '[]T{x}' -/
theorem El.run_build (E : El P s e k bytes z) (w : World) (q : List Value) (hq : q.length = k) : (Instr.buildSlice s 1 #[(0, .agg q.toArray)]).run P w = .ok (.slice (some ⟨w.heap.size, 0, none⟩) 1 1) (w.alloc (.cells q.toArray e)) := by
 obtain ⟨i, hi, h1⟩ := Option.map_eq_some_iff.1 E.info
 simp only [Prod.mk.injEq] at h1
 have hp := E.pos
 have hs := E.small
 refine run_buildSlice (P := P) w s e 1 _ q.toArray i z E.sl hi h1.1 (by omega) (by omega) ?_
 have h := Great.fill_whole (s := k) (by omega) [.agg q.toArray] ((Array.range (1 * i.size)).map fun x => z.cells[x % z.cells.size]!) (fun v hv => by
  obtain rfl : v = _ := by simpa using hv
  show q.toArray.size = k
  simpa using hq) (by simp [h1.2.1])
 rw [h1.2.1] at h ⊢
 have ef : ([Value.agg q.toArray].flatMap fun v => v.cells.toList) = q := by simp [Value.cells]
 rw [ef] at h
 exact h
theorem wpList_build_el {ops : Array Oper} {rest : List Oper} {o : Oper} {a : Act} {w : World} {Q : Exit → Act → World → Prop} (hgd : o.guard = none) (E : El P s e k bytes z) (x : Operand) (ho : o.op = .buildSlice s 1 #[(0, x)])
  (q : List Value) (hx : a.eval x = .agg q.toArray) (hq : q.length = k)
  (h : wpList P ops Q rest (a.put o.dst (.slice (some ⟨w.heap.size, 0, none⟩) 1 1)) (w.alloc (.cells q.toArray e))) : wpList P ops Q (o :: rest) a w := by
 exact wpList_plain hgd fun _ hK => by
  unfold Oper.wp execOp
  simp only [ho, Sem.run_bind, List.map_toArray, List.map_cons, List.map_nil, hx, E.run_build w q hq, Result.andThen_ok]
  exact hK _ _ h
/-- append of the one element that was just built -/
theorem wpList_append_el {ops : Array Oper} {rest : List Oper} {o : Oper} {a : Act} {w : World} {Q : Exit → Act → World → Prop} (hgd : o.guard = none) (E : El P s e k bytes z) (sl x : Operand)
  (ho : o.op = .call { callee := .builtin .append, args := #[sl, x], argTypes := #[s, s] })
  (B : Nat) (v : Value) (xs : List (List Value)) (hs : a.eval sl = v) (hown : Os w B e k v xs) (g : Nat) (q : List Value) (hx : a.eval x = .slice (some ⟨g, 0, none⟩) 1 1) (hg : Blk w g e q) (hq : q.length = k) (h1 : ∀ u ∈ q, u.oneCell' = true)
  (hn : xs.length ≤ 1000000) (hB : B ≤ w.heap.size)
  (h : ∀ v' w', Os w' B e k v' (xs ++ [q]) → w.grownBy w' v.ownBlock → wpList P ops Q rest (a.put o.dst v') w') : wpList P ops Q (o :: rest) a w := by
 obtain ⟨i, hi, h2⟩ := Option.map_eq_some_iff.1 E.info
 simp only [Prod.mk.injEq] at h2
 have hp := E.pos
 have hbs := E.bsm
 have hcell : ∀ j u, q[j]? = some u → w.cell? ((⟨g, 0, none⟩ : Addr).add j) = some u := fun j u hu => by
  have ea : (⟨g, 0, none⟩ : Addr).add j = ⟨g, j, none⟩ := by unfold Addr.add; split <;> simp_all
  rw [ea]
  exact hg.cellAt hu
 have hmul : (xs.length + 1) * bytes ≤ 1000001 * 100000 := Nat.mul_le_mul (by omega) hbs
 refine wpList_append_lies w hgd sl x s ho B e i z k bytes E.sl hi h2.1 h2.2.1 h2.2.2 E.zero hp v xs.length xs.flatten hs hown.1 ⟨g, 0, none⟩ 1 1 q hx (by rw [hq]; omega) hcell h1 (by omega) (by unfold maxLen; omega) (by omega) hB _ rfl fun g' cap w' h3 h4 _ _ => h _ w' ⟨?_, ?_⟩ h4
 ·have e1 : (xs ++ [q]).flatten = xs.flatten ++ q := by simp
  rw [e1, List.length_append]
  exact h3
 ·intro y hy
  rcases List.mem_append.1 hy with hy | hy
  ·exact hown.2 y hy
  ·rw [List.mem_singleton.1 hy]; exact hq
end

end Go.Proofs.Ytpolofehkckaoaa
