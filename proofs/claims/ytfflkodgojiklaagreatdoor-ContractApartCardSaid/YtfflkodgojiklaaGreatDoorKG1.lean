/-
  Joined: El El2 LgM LgN LgL LgW LgQ LgD PgA PgP.
-/
import Derived.Deep.AppendLies
import Derived.Great.BuildSlice
import Derived.Laws.AppendOwn
import Derived.Laws.Cover1
import Derived.Lib.OthersKept
import Derived.Laws.RangeAny
import Derived.Test.YtfflkodgojiklaaGreatDoorKL
namespace Go.Proofs.YtfflkodgojiklaaGreatDoor

section
open Go.RowKit
/-- s is the type of slices of e, whose elements have k cells. -/
structure El (P : Program) (s e : TypeId) (k bytes : Nat) (z : Value) : Prop where
  sl : P.underlying s = some (.slice e)
  info : (P.info? e).map (fun i => (i.zero, i.size, i.bytes)) = some (some z, k, bytes)
  zero : z.cells.size = k
  pos : 0 < k
  small : k ≤ 1000
  bsm : bytes ≤ 100000

/-- The slice '.slice A n _' reads as these elements, each so many cells. -/
def Sl (w : World) (k : Nat) (A : Option Addr) (n : Nat) (xs : List (List Value)) : Prop :=
  xs.length = n ∧ (0 < n → ∃ g o, A = some ⟨g, o, none⟩ ∧ ∀ (i : Nat) (cs : List Value), xs[i]? = some cs → w.rangeAt g (o + i * k) cs)
/-- v is the call's own slice of these elements: its memory from B on. -/
def Os (w : World) (B : Nat) (e : TypeId) (k : Nat) (v : Value) (xs : List (List Value)) : Prop :=
  w.ownsRow B e k v xs.length xs.flatten ∧ ∀ x ∈ xs, x.length = k

section
variable {w w' : World} {k n B : Nat} {A : Option Addr} {xs : List (List Value)} {v : Value} {e : TypeId}
theorem rangeAt.through {g o : Nat} {cs : List Value} (h : w.rangeAt g o cs) (hb : Below w.heap.size w w') : w'.rangeAt g o cs := fun j u hu =>
  (hb.cell (p := ⟨g, _, none⟩) (World.block_lt_of_cell? w ⟨g, o + j, none⟩ (h j u hu))).trans (h j u hu)
theorem rangeAt.only {g o g' : Nat} {cs : List Value} (h : w.rangeAt g o cs) (hb : w.grownBy w' (some g')) (hne : g ≠ g') : w'.rangeAt g o cs := fun j u hu =>
  hb.cell (h j u hu) (by simpa using hne)
theorem Sl.none_ : Sl w k A 0 [] := ⟨rfl, fun h => absurd h (by omega)⟩
theorem Sl.len (h : Sl w k A n xs) : xs.length = n := h.1
theorem Sl.through (h : Sl w k A n xs) (hb : Below w.heap.size w w') : Sl w' k A n xs := ⟨h.1, fun hn => by
  obtain ⟨g, o, e, hc⟩ := h.2 hn
  exact ⟨g, o, e, fun i cs hi => rangeAt.through (hc i cs hi) hb⟩⟩
theorem Sl.alloc (h : Sl w k A n xs) (o : Obj) : Sl (w.alloc o) k A n xs := h.through ((Below.refl _ w).alloc (Nat.le_refl _) o)
theorem Sl.drew (h : Sl w k A n xs) : Sl w.drew k A n xs := h
theorem Sl.drewN (h : Sl w k A n xs) (m : Nat) : Sl (w.drewN m) k A n xs := h
theorem Sl.at (h : Sl w k A n xs) {i : Nat} (hi : i < n) : ∃ g o x, A = some ⟨g, o, none⟩ ∧ xs[i]? = some x ∧ x ∈ xs ∧ xs.drop i = x :: xs.drop (i + 1) ∧ w.rangeAt g (o + i * k) x := by
  obtain ⟨g, o, e, hc⟩ := h.2 (by omega)
  have hl : i < xs.length := by rw [h.1]; exact hi
  exact ⟨g, o, xs[i], e, List.getElem?_eq_getElem hl, List.getElem_mem hl, List.drop_eq_getElem_cons hl, hc i _ (List.getElem?_eq_getElem hl)⟩

theorem Os.nil (w : World) (B : Nat) (e : TypeId) (k : Nat) : Os w B e k (.slice none 0 0) [] := ⟨World.ownsRow_nil w _ _ _, fun x h => by cases h⟩
theorem Os.keep (h : Os w B e k v xs) (hk : ∀ b, B ≤ b → b < w.heap.size → v.ownBlock = some b → w'.heap[b]? = w.heap[b]?) : Os w' B e k v xs := by
  refine ⟨⟨h.1.1, ?_⟩, h.2⟩
  rcases h.1.2 with h | ⟨g, cap, cur, hv, hb, hg, h1⟩
  · exact .inl h
  · exact .inr ⟨g, cap, cur, hv, hb, (hk g hb (Array.getElem?_eq_some_iff.1 hg).1 (by rw [hv]; rfl)).trans hg, h1⟩
theorem Os.through (h : Os w B e k v xs) (hb : Below w.heap.size w w') : Os w' B e k v xs := h.keep fun b _ hl _ => hb.block b hl
theorem Os.alloc (h : Os w B e k v xs) (o : Obj) : Os (w.alloc o) B e k v xs := h.through ((Below.refl _ w).alloc (Nat.le_refl _) o)
theorem Os.drew (h : Os w B e k v xs) : Os w.drew B e k v xs := h
theorem Os.drewN (h : Os w B e k v xs) (m : Nat) : Os (w.drewN m) B e k v xs := h
theorem Os.lt (h : Os w B e k v xs) : ∀ b, v.ownBlock = some b → B ≤ b ∧ b < w.heap.size := fun b hb => h.1.lt b hb
/-- A block of another type is turned. -/
theorem Os.only {g : Nat} {t : TypeId} {cs : Array Value} {fz : Nat × Nat} (h : Os w B e k v xs) (hb : w.grownBy w' (some g)) (hg : w.heap[g]? = some (.cells cs t fz)) (hne : t ≠ e) : Os w' B e k v xs := by
  refine ⟨⟨h.1.1, ?_⟩, h.2⟩
  rcases h.1.2 with h | ⟨g2, cap, cur, hv, hb2, hg2, h1⟩
  · exact .inl h
  · refine .inr ⟨g2, cap, cur, hv, hb2, (hb.block g2 (Array.getElem?_eq_some_iff.1 hg2).1 (fun e2 => ?_)).trans hg2, h1⟩
    have e3 : g2 = g := Option.some.inj e2
    subst e3
    rw [hg] at hg2
    injection hg2 with hg2
    injection hg2 with _ ht
    exact hne ht
/-- A block below is turned. -/
theorem Os.far {g : Nat} (h : Os w B e k v xs) (hb : w.grownBy w' (some g)) (hg : g < B) : Os w' B e k v xs :=
  h.keep fun b hB hl _ => hb.block b hl (fun e => by have := Option.some.inj e; omega)
theorem Os.weak {B' : Nat} (h : Os w B e k v xs) (hB : B' ≤ B) : Os w B' e k v xs := by
  refine ⟨⟨h.1.1, ?_⟩, h.2⟩
  rcases h.1.2 with h | ⟨g, cap, cur, hv, hb, r⟩
  · exact .inl h
  · exact .inr ⟨g, cap, cur, hv, Nat.le_trans hB hb, r⟩
theorem flatten_drop_take : ∀ (xs : List (List Value)) (i : Nat) (x : List Value), (∀ y ∈ xs, y.length = k) → xs[i]? = some x → ∀ (j : Nat) (u : Value), x[j]? = some u → xs.flatten[i * k + j]? = some u
  | [], _, _, _, h, _, _, _ => by simp at h
  | y :: ys, 0, x, hk, h, j, u, hu => by
    simp at h
    subst h
    rw [List.flatten_cons, Nat.zero_mul, Nat.zero_add, List.getElem?_append_left (List.getElem?_eq_some_iff.1 hu).1, hu]
  | y :: ys, i + 1, x, hk, h, j, u, hu => by
    have hy := hk y (List.mem_cons_self ..)
    have := flatten_drop_take ys i x (fun z hz => hk z (List.mem_cons_of_mem _ hz)) (by simpa using h) j u hu
    rw [List.flatten_cons, List.getElem?_append_right (by rw [hy, Nat.add_mul]; omega), hy]
    rw [show (i + 1) * k + j - k = i * k + j by rw [Nat.add_mul]; omega]
    exact this
theorem flatten_len : ∀ (xs : List (List Value)), (∀ y ∈ xs, y.length = k) → xs.flatten.length = xs.length * k
  | [], _ => by simp
  | y :: ys, h => by
    rw [List.flatten_cons, List.length_append, h y (List.mem_cons_self ..), flatten_len ys (fun z hz => h z (List.mem_cons_of_mem _ hz)), List.length_cons, Nat.add_mul]
    omega
/-- What a call owns, read. -/
theorem Os.out (h : Os w B e k v xs) : ∃ A c, v = .slice A xs.length c ∧ xs.length ≤ c ∧ c ≤ maxLen ∧ Sl w k A xs.length xs := by
  rcases h.1.2 with ⟨hv, hn⟩ | ⟨g, cap, cur, hv, hb, hg, hc, hm, hs, ht⟩
  · rw [hn]
    exact ⟨none, 0, hv, by omega, by simp [maxLen], hn, fun h0 => absurd h0 (by omega)⟩
  · refine ⟨_, cap, hv, hc, hm, rfl, fun _ => ⟨g, 0, rfl, fun i x hx j u hu => ?_⟩⟩
    have h1 := flatten_drop_take xs i x h.2 hx j u hu
    have hl := flatten_len xs h.2
    have hj : i * k + j < xs.flatten.length := (List.getElem?_eq_some_iff.1 h1).1
    rw [Nat.zero_add, cell_of_row w g _ _ _ _ hg, ← Array.getElem?_toList, ← List.getElem?_take_of_lt (show i * k + j < xs.length * k by omega), ht, h1]
end

section
variable {P : Program} {s e : TypeId} {k bytes : Nat} {z : Value}
/-- An element's place. -/
theorem El.index (E : El P s e k bytes z) (he : P.elem s = e) (W : World) (g o n c j : Nat) (hj : j < n) : (Instr.indexAt s (.slice (some ⟨g, o, none⟩) n c) (.int .i64 (j : Int))).run P W = .ok (.pointer (some ⟨g, o + j * k, none⟩)) W := by
  obtain ⟨i, hi, h1⟩ := Option.map_eq_some_iff.1 E.info
  simp only [Prod.mk.injEq] at h1
  have hs : (sizeOf e).run P W = .ok k W := by simp [sizeOf, typeInfo, hi, h1.2.1]
  rw [run_indexAt_slice (P := P) W s ⟨g, o, none⟩ n c .i64 j (by rw [he]; exact E.sl), if_pos ⟨by omega, by omega⟩, he, hs]
  simp only [Result.andThen_ok, Int.toNat_natCast]
  have ea : (⟨g, o, none⟩ : Addr).add (j * k) = ⟨g, o + j * k, none⟩ := by unfold Addr.add; split <;> simp_all
  rw [ea]
/-- '[]T{x}' -/
theorem El.run_build (E : El P s e k bytes z) (w : World) (q : List Value) (hq : q.length = k) : (Instr.buildSlice s 1 #[(0, .agg q.toArray)]).run P w = .ok (.slice (some ⟨w.heap.size, 0, none⟩) 1 1) (w.alloc (.cells q.toArray e)) := by
  obtain ⟨i, hi, h1⟩ := Option.map_eq_some_iff.1 E.info
  simp only [Prod.mk.injEq] at h1
  have hp := E.pos
  have hs := E.small
  refine run_buildSlice (P := P) w s e 1 _ q.toArray i z E.sl hi h1.1 (by omega) (by omega) ?_
  have h := Great.fill_whole (s := k) (by omega) [.agg q.toArray] ((Array.range (1 * i.size)).map fun x => z.cells[x % z.cells.size]!) (fun v hv => by
    obtain rfl : v = _ := by simpa using hv
    show q.toArray.size = k
    simpa using hq) (by simp [h1.2.1])
  rw [h1.2.1] at h ⊢
  have ef : ([Value.agg q.toArray].flatMap fun v => v.cells.toList) = q := by simp [Value.cells]
  rw [ef] at h
  exact h
theorem wpList_build_el {ops : Array Oper} {rest : List Oper} {o : Oper} {a : Act} {w : World} {Q : Exit → Act → World → Prop} (hgd : o.guard = none) (E : El P s e k bytes z) (x : Operand) (ho : o.op = .buildSlice s 1 #[(0, x)])
    (q : List Value) (hx : a.eval x = .agg q.toArray) (hq : q.length = k)
    (h : wpList P ops Q rest (a.put o.dst (.slice (some ⟨w.heap.size, 0, none⟩) 1 1)) (w.alloc (.cells q.toArray e))) : wpList P ops Q (o :: rest) a w := by
  exact wpList_plain hgd fun _ hK => by
    unfold Oper.wp execOp
    simp only [ho, Sem.run_bind, List.map_toArray, List.map_cons, List.map_nil, hx, E.run_build w q hq, Result.andThen_ok]
    exact hK _ _ h
/-- append of the one element that was just built -/
theorem wpList_append_el {ops : Array Oper} {rest : List Oper} {o : Oper} {a : Act} {w : World} {Q : Exit → Act → World → Prop} (hgd : o.guard = none) (E : El P s e k bytes z) (sl x : Operand)
    (ho : o.op = .call { callee := .builtin .append, args := #[sl, x], argTypes := #[s, s] })
    (B : Nat) (v : Value) (xs : List (List Value)) (hs : a.eval sl = v) (hown : Os w B e k v xs) (g : Nat) (q : List Value) (hx : a.eval x = .slice (some ⟨g, 0, none⟩) 1 1) (hg : Blk w g e q) (hq : q.length = k) (h1 : ∀ u ∈ q, u.oneCell' = true)
    (hn : xs.length ≤ 1000000) (hB : B ≤ w.heap.size)
    (h : ∀ v' w', Os w' B e k v' (xs ++ [q]) → w.grownBy w' v.ownBlock → wpList P ops Q rest (a.put o.dst v') w') : wpList P ops Q (o :: rest) a w := by
  obtain ⟨i, hi, h2⟩ := Option.map_eq_some_iff.1 E.info
  simp only [Prod.mk.injEq] at h2
  have hp := E.pos
  have hbs := E.bsm
  have hcell : ∀ j u, q[j]? = some u → w.cell? ((⟨g, 0, none⟩ : Addr).add j) = some u := fun j u hu => by
    have ea : (⟨g, 0, none⟩ : Addr).add j = ⟨g, j, none⟩ := by unfold Addr.add; split <;> simp_all
    rw [ea]
    exact hg.cellAt hu
  have hmul : (xs.length + 1) * bytes ≤ 1000001 * 100000 := Nat.mul_le_mul (by omega) hbs
  refine wpList_append_lies w hgd sl x s ho B e i z k bytes E.sl hi h2.1 h2.2.1 h2.2.2 E.zero hp v xs.length xs.flatten hs hown.1 ⟨g, 0, none⟩ 1 1 q hx (by rw [hq]; omega) hcell h1 (by omega) (by unfold maxLen; omega) (by omega) hB _ rfl fun g' cap w' h3 h4 _ _ => h _ w' ⟨?_, ?_⟩ h4
  · have e1 : (xs ++ [q]).flatten = xs.flatten ++ q := by simp
    rw [e1, List.length_append]
    exact h3
  · intro y hy
    rcases List.mem_append.1 hy with hy | hy
    · exact hown.2 y hy
    · rw [List.mem_singleton.1 hy]; exact hq
end
end

section
open Go.RowKit
section
variable {k : Nat}
theorem flatten_cells {w : World} {g : Nat} : ∀ (ys : List (List Value)) (o : Nat), (∀ y ∈ ys, y.length = k) → (∀ (i : Nat) (cs : List Value), ys[i]? = some cs → w.rangeAt g (o + i * k) cs) → ∀ (j : Nat) (u : Value), ys.flatten[j]? = some u → w.cell? ⟨g, o + j, none⟩ = some u
  | [], _, _, _, _, _, h => by simp at h
  | y :: ys, o, hk, hc, j, u, h => by
    have hy := hk y (List.mem_cons_self ..)
    rw [List.flatten_cons] at h
    rcases Nat.lt_or_ge j k with hj | hj
    · rw [List.getElem?_append_left (by omega)] at h
      have := hc 0 y rfl j u h
      simpa using this
    · rw [List.getElem?_append_right (by omega), hy] at h
      have := flatten_cells ys (o + k) (fun z hz => hk z (List.mem_cons_of_mem _ hz)) (fun i cs hi => by
        have h9 := hc (i + 1) cs (by simpa using hi)
        rw [show o + (i + 1) * k = o + k + i * k by rw [Nat.add_mul]; omega] at h9
        exact h9) (j - k) u h
      rw [show o + k + (j - k) = o + j by omega] at this
      exact this
end

section
variable {P : Program} {s e : TypeId} {k bytes : Nat} {z : Value}
/-- append(v, x...) -/
theorem El.run_append_sl (E : El P s e k bytes z) (w : World) (ty : TypeId) (B : Nat) (v : Value) (xs : List (List Value)) (hown : Os w B e k v xs) (A : Option Addr) (m c : Nat) (ys : List (List Value)) (hy : Sl w k A m ys) (hyk : ∀ y ∈ ys, y.length = k) (h1 : ∀ y ∈ ys, ∀ u ∈ y, u.oneCell' = true)
    (hn : xs.length + m ≤ 1000000) (hB : B ≤ w.heap.size) :
    ∃ v' w', (Builtin.append_ #[s, s] ty #[v, .slice A m c]).run P w = .ok v' w' ∧ Os w' B e k v' (xs ++ ys) ∧ w.grownBy w' v.ownBlock := by
  obtain ⟨i, hi, h2⟩ := Option.map_eq_some_iff.1 E.info
  simp only [Prod.mk.injEq] at h2
  have hp := E.pos
  have hbs := E.bsm
  have hall : ∀ y ∈ xs ++ ys, y.length = k := fun y hy2 => (List.mem_append.1 hy2).elim (hown.2 y) (hyk y)
  rcases A with _ | ad
  · obtain rfl : m = 0 := by
      rcases Nat.eq_zero_or_pos m with h0 | h0
      · exact h0
      · obtain ⟨_, _, h, _⟩ := hy.2 h0
        cases h
    obtain rfl : ys = [] := List.eq_nil_of_length_eq_zero hy.1
    refine ⟨v, w, ?_, by simpa using hown, World.grownBy.refl w _⟩
    rcases hown.1.2 with ⟨rfl, _⟩ | ⟨g, cap, cur, rfl, _, _, hnc, _⟩
    · simp [Builtin.append_, run_underlying E.sl, sizeOf, typeInfo, hi, Builtin.lenOf, Builtin.firstCells]
    · simp [Builtin.append_, run_underlying E.sl, sizeOf, typeInfo, hi, Builtin.lenOf, Builtin.firstCells, hnc, storeCells]
  · have hmul : (xs.length + m) * bytes ≤ 1000000 * 100000 := Nat.mul_le_mul hn hbs
    have hfl := flatten_len ys hyk
    obtain ⟨v', w', hr, h3, h4, _⟩ := run_append_own (P := P) w B s ty e i z k bytes E.sl hi h2.1 h2.2.1 h2.2.2 E.zero hp v xs.length xs.flatten hown.1 ad m c ys.flatten (by rw [hfl, hy.1]) (fun j u hu => by
      have hj : 0 < m := by
        rcases Nat.eq_zero_or_pos m with h0 | h0
        · subst h0
          obtain rfl : ys = [] := List.eq_nil_of_length_eq_zero hy.1
          simp at hu
        · exact h0
      obtain ⟨g, o, ea, hc⟩ := hy.2 hj
      injection ea with ea
      subst ea
      have e2 : (⟨g, o, none⟩ : Addr).add j = ⟨g, o + j, none⟩ := by unfold Addr.add; split <;> simp_all
      rw [e2]
      exact flatten_cells ys o hyk hc j u hu) (fun u hu => by
      obtain ⟨y, hy2, hu2⟩ := List.mem_flatten.1 hu
      exact h1 y hy2 u hu2) (by unfold maxLen; omega) (by omega) hB
    refine ⟨v', w', hr, ⟨?_, hall⟩, h4⟩
    rw [List.length_append, List.flatten_append, hy.1]
    exact h3
theorem wpList_append_sl {ops : Array Oper} {rest : List Oper} {o : Oper} {a : Act} {w : World} {Q : Exit → Act → World → Prop} (hgd : o.guard = none) (E : El P s e k bytes z) (sl x : Operand)
    (ho : o.op = .call { callee := .builtin .append, args := #[sl, x], argTypes := #[s, s] })
    (B : Nat) (v : Value) (xs : List (List Value)) (hs : a.eval sl = v) (hown : Os w B e k v xs) (A : Option Addr) (m c : Nat) (ys : List (List Value)) (hx : a.eval x = .slice A m c) (hy : Sl w k A m ys) (hyk : ∀ y ∈ ys, y.length = k) (h1 : ∀ y ∈ ys, ∀ u ∈ y, u.oneCell' = true)
    (hn : xs.length + m ≤ 1000000) (hB : B ≤ w.heap.size)
    (h : ∀ v' w', Os w' B e k v' (xs ++ ys) → w.grownBy w' v.ownBlock → wpList P ops Q rest (a.put o.dst v') w') : wpList P ops Q (o :: rest) a w := by
  refine wpList_plain hgd fun K hK => ?_
  obtain ⟨v', w', hrun, h2, h3⟩ := E.run_append_sl w o.type B v xs hown A m c ys hy hyk h1 hn hB
  unfold Oper.wp execOp
  simp only [ho, resolve, invoke, builtin, Sem.run_bind, Sem.run_pure, Result.andThen_ok, List.map_toArray, List.map_cons, List.map_nil, hs, hx, hrun]
  exact hK _ _ (h v' w' h2 h3)
theorem step_append_sl {ops : Array Oper} {o : Oper} {a : Act} {w : World} {K : Act → World → Prop} {Q : Exit → Act → World → Prop} {F : Prop} (hgd : o.guard = none) (E : El P s e k bytes z) (sl x : Operand)
    (ho : o.op = .call { callee := .builtin .append, args := #[sl, x], argTypes := #[s, s] })
    (B : Nat) (v : Value) (xs : List (List Value)) (hs : a.eval sl = v) (hown : Os w B e k v xs) (A : Option Addr) (m c : Nat) (ys : List (List Value)) (hx : a.eval x = .slice A m c) (hy : Sl w k A m ys) (hyk : ∀ y ∈ ys, y.length = k) (h1 : ∀ y ∈ ys, ∀ u ∈ y, u.oneCell' = true)
    (hn : xs.length + m ≤ 1000000) (hB : B ≤ w.heap.size)
    (h : ∀ A' n' c' w', n' = (xs ++ ys).length → Os w' B e k (.slice A' n' c') (xs ++ ys) → w.grownBy w' v.ownBlock → K (a.put o.dst (.slice A' n' c')) w') : if Region.wanted o (yielded ops a.tmps) = true then Oper.wp P o a w K Q else F := by
  have hw : Region.wanted o (yielded ops a.tmps) = true := by simp [Region.wanted, hgd]
  rw [if_pos hw]
  obtain ⟨v', w', hrun, h2, h3⟩ := E.run_append_sl w o.type B v xs hown A m c ys hy hyk h1 hn hB
  obtain ⟨A', c', rfl, _⟩ := h2.out
  unfold Oper.wp execOp
  simp only [ho, resolve, invoke, builtin, Sem.run_bind, Sem.run_pure, Result.andThen_ok, List.map_toArray, List.map_cons, List.map_nil, hs, hx, hrun]
  exact h _ _ _ w' rfl h2 h3
/-- append(nil, make([]T, m)...), m at least 1: a new row. -/
theorem El.run_append_zeros (E : El P s e k bytes z) (w : World) (ti ty : TypeId) (hti : P.underlying ti = some (.int .i64)) (m : Nat) (hpos : 0 < m) (hm : m ≤ 1000000) :
    ∃ cap w', (Builtin.append_ #[s, ti] ty #[.slice none 0 0, .int .i64 (m : Int)]).run P w = .ok (.slice (some ⟨w.heap.size, 0, none⟩) m cap) w' ∧ Os w' w.heap.size e k (.slice (some ⟨w.heap.size, 0, none⟩) 0 cap) [] ∧ m ≤ cap ∧ Below w.heap.size w w' := by
  obtain ⟨i, hi, h2⟩ := Option.map_eq_some_iff.1 E.info
  simp only [Prod.mk.injEq] at h2
  obtain ⟨hz, hsize, hby⟩ := h2
  have hp := E.pos
  have hbs := E.bsm
  have hw : IntKind.i64.wrap (m : Int) = m := IntWalk.i64_in _ (by omega)
  have h0 : ¬ ((m : Int) < 0) := by omega
  have hm0 : m ≠ 0 := by omega
  have hks := E.small
  have hmul : m * bytes ≤ 1000000 * 100000 := Nat.mul_le_mul hm hbs
  have h48 : ¬ (281474976710656 < (m : Int) * (bytes : Int)) := by
    rw [← Int.natCast_mul]
    omega
  have hmk : ¬ (m * k = 0) := fun h9 => by rcases Nat.mul_eq_zero.1 h9 with h9 | h9 <;> omega
  have hge := grownCap_ge w m 0 e
  have hcm : grownCap w m 0 e ≤ maxLen := grownCap_le_maxLen w m 0 e (by simp only [maxLen]; omega)
  have hfit := growslice_fits (need := m) (old := 0) (bytes := bytes) (by omega) (by omega)
  have hfit' : ¬ (281474976710656 < Builtin.nextslicecap m 0 * bytes) := by omega
  have h63 : ¬ (9223372036854775807 < (m : Int)) := by omega
  have hold : ∀ W, (Builtin.firstCells k 0 (.slice none 0 0)).run P W = .ok #[] W := fun W => run_firstCells_none W k 0 0 0
  obtain ⟨row, hrow⟩ : ∃ row, row = Builtin.zeroCells z.cells m ++ Builtin.zeroCells z.cells (grownCap w m 0 e - m) := ⟨_, rfl⟩
  have hrs : row.size = grownCap w m 0 e * k := by
    rw [hrow]
    simp only [Array.size_append, size_zeroCells, E.zero]
    rw [← Nat.add_mul]
    congr 1
    omega
  refine ⟨grownCap w m 0 e, w.drew.alloc (.cells row e), ?_, ⟨⟨by simp, .inr ⟨w.heap.size, _, row, rfl, Nat.le_refl _, heap_alloc_new w.drew _, Nat.zero_le _, hcm, hrs, by simp⟩⟩, fun x hx => by cases hx⟩, hge, ⟨rfl, rfl, rfl, by simp, fun q hq => Below.heap_alloc w.drew _ q hq⟩⟩
  simp [Builtin.append_, run_underlying E.sl, run_underlying hti, sizeOf, typeInfo, zeroValue, hi, hz, hsize, hby, asInt, asIntOf, hw, h0, h48, hmk, hm0, hold, hfit', h63, Question.forced, newRow, hrow, grownCap]
theorem wpList_append_zeros {ops : Array Oper} {rest : List Oper} {o : Oper} {a : Act} {w : World} {Q : Exit → Act → World → Prop} (hgd : o.guard = none) (E : El P s e k bytes z) (ti : TypeId) (hti : P.underlying ti = some (.int .i64)) (sl x : Operand)
    (ho : o.op = .call { callee := .builtin .append, args := #[sl, x], argTypes := #[s, ti] })
    (hs : a.eval sl = .slice none 0 0) (m : Nat) (hx : a.eval x = .int .i64 (m : Int)) (hpos : 0 < m) (hm : m ≤ 1000000)
    (h : ∀ cap w', Os w' w.heap.size e k (.slice (some ⟨w.heap.size, 0, none⟩) 0 cap) [] → m ≤ cap → Below w.heap.size w w' → wpList P ops Q rest (a.put o.dst (.slice (some ⟨w.heap.size, 0, none⟩) m cap)) w') : wpList P ops Q (o :: rest) a w := by
  refine wpList_plain hgd fun K hK => ?_
  obtain ⟨cap, w', hrun, h2, h3, h4⟩ := E.run_append_zeros w ti o.type hti m hpos hm
  unfold Oper.wp execOp
  simp only [ho, resolve, invoke, builtin, Sem.run_bind, Sem.run_pure, Result.andThen_ok, List.map_toArray, List.map_cons, List.map_nil, hs, hx, hrun]
  exact hK _ _ (h cap w' h2 h3 h4)
end

theorem yields_build {P : Program} {ops : Array Oper} {S : World → Prop} {op : Oper} {a : Act} (hw : Region.wanted op (yielded ops a.tmps) = true) (t : TypeId) (parts : Array (Nat × Operand)) (ho : op.op = .build t parts)
    (vs : Array (Nat × Value)) (hx : parts.map (fun (i, x) => (i, a.eval x)) = vs) (v : Value) (hS : ∀ w, S w → (Instr.build t vs).run P w = .ok v w) : YieldsIf P ops S op v a :=
  .inl ⟨hw, fun w hw' => by
    unfold execOp
    simp only [ho, hx, Sem.run_bind, hS w hw', Result.andThen_ok]
    rfl⟩
theorem step_build_el {P : Program} {s e : TypeId} {k bytes : Nat} {z : Value} {ops : Array Oper} {o : Oper} {a : Act} {w : World} {K : Act → World → Prop} {Q : Exit → Act → World → Prop} {F : Prop} (hgd : o.guard = none) (E : El P s e k bytes z) (x : Operand) (ho : o.op = .buildSlice s 1 #[(0, x)])
    (q : List Value) (hx : a.eval x = .agg q.toArray) (hq : q.length = k)
    (h : K (a.put o.dst (.slice (some ⟨w.heap.size, 0, none⟩) 1 1)) (w.alloc (.cells q.toArray e))) : if Region.wanted o (yielded ops a.tmps) = true then Oper.wp P o a w K Q else F := by
  have hw : Region.wanted o (yielded ops a.tmps) = true := by simp [Region.wanted, hgd]
  rw [if_pos hw]
  unfold Oper.wp execOp
  simp only [ho, Sem.run_bind, List.map_toArray, List.map_cons, List.map_nil, hx, E.run_build w q hq, Result.andThen_ok]
  exact h
theorem step_build_el_w {P : Program} {s e : TypeId} {k bytes : Nat} {z : Value} {ops : Array Oper} {o : Oper} {a : Act} {w : World} {K : Act → World → Prop} {Q : Exit → Act → World → Prop} {F : Prop} (hgd : o.guard = none) (E : El P s e k bytes z) (x : Operand) (ho : o.op = .buildSlice s 1 #[(0, x)])
    (q : List Value) (hx : a.eval x = .agg q.toArray) (hq : q.length = k)
    (h : ∀ g w', Blk w' g e q → Below w.heap.size w w' → K (a.put o.dst (.slice (some ⟨g, 0, none⟩) 1 1)) w') : if Region.wanted o (yielded ops a.tmps) = true then Oper.wp P o a w K Q else F :=
  step_build_el hgd E x ho q hx hq (h _ _ (Blk.fresh rfl rfl) ((Below.refl _ w).alloc (Nat.le_refl _) _))
theorem step_append_el {P : Program} {s e : TypeId} {k bytes : Nat} {z : Value} {ops : Array Oper} {o : Oper} {a : Act} {w : World} {K : Act → World → Prop} {Q : Exit → Act → World → Prop} {F : Prop} (hgd : o.guard = none) (E : El P s e k bytes z) (sl x : Operand)
    (ho : o.op = .call { callee := .builtin .append, args := #[sl, x], argTypes := #[s, s] })
    (B : Nat) (v : Value) (xs : List (List Value)) (hs : a.eval sl = v) (hown : Os w B e k v xs) (g : Nat) (q : List Value) (hx : a.eval x = .slice (some ⟨g, 0, none⟩) 1 1) (hg : Blk w g e q) (hq : q.length = k) (h1 : ∀ u ∈ q, u.oneCell' = true)
    (hn : xs.length ≤ 1000000) (hB : B ≤ w.heap.size)
    (h : ∀ A' n' c' w', n' = xs.length + 1 → Os w' B e k (.slice A' n' c') (xs ++ [q]) → w.grownBy w' v.ownBlock → K (a.put o.dst (.slice A' n' c')) w') : if Region.wanted o (yielded ops a.tmps) = true then Oper.wp P o a w K Q else F := by
  obtain ⟨i, hi, h2⟩ := Option.map_eq_some_iff.1 E.info
  simp only [Prod.mk.injEq] at h2
  have hp := E.pos
  have hbs := E.bsm
  have hcell : ∀ j u, q[j]? = some u → w.cell? ((⟨g, 0, none⟩ : Addr).add j) = some u := fun j u hu => by
    have ea : (⟨g, 0, none⟩ : Addr).add j = ⟨g, j, none⟩ := by unfold Addr.add; split <;> simp_all
    rw [ea]
    exact hg.cellAt hu
  have hmul : (xs.length + 1) * bytes ≤ 1000001 * 100000 := Nat.mul_le_mul (by omega) hbs
  refine step_append_lies w hgd sl x s ho B e i z k bytes E.sl hi h2.1 h2.2.1 h2.2.2 E.zero hp v xs.length xs.flatten hs hown.1 ⟨g, 0, none⟩ 1 1 q hx (by rw [hq]; omega) hcell h1 (by omega) (by unfold maxLen; omega) (by omega) hB _ rfl fun g' cap w' h3 h4 _ _ => h _ _ _ w' rfl ⟨?_, ?_⟩ h4
  · have e1 : (xs ++ [q]).flatten = xs.flatten ++ q := by simp
    rw [e1, List.length_append]
    exact h3
  · intro y hy
    rcases List.mem_append.1 hy with hy | hy
    · exact hown.2 y hy
    · rw [List.mem_singleton.1 hy]; exact hq
theorem step_store_cell {P : Program} {w : World} {ops : Array Oper} {o : Oper} {a : Act} {K : Act → World → Prop} {Q : Exit → Act → World → Prop} {E : Prop} (hw : Region.wanted o (yielded ops a.tmps) = true) (ty : TypeId) (x y : Operand) (ho : o.op = .store ty x y)
    (g i : Nat) (hx : a.eval x = .pointer (some ⟨g, i, none⟩)) (v : Value) (hy : a.eval y = v) (hv : v.cells = #[v]) (hv1 : v.oneCell' = true) (hsz : ∀ w, (sizeOf ty).run P w = .ok 1 w) (t : TypeId) (cs : List Value) (hb : Blk w g t cs) (hi : i < cs.length)
    (h : ∀ w', Blk w' g t (cs.set i v) → w.grownBy w' (some g) → K (a.put o.dst undef) w') : if Region.wanted o (yielded ops a.tmps) = true then Oper.wp P o a w K Q else E := by
  rw [if_pos hw]
  have hc := hb.cellAt (List.getElem?_eq_getElem hi)
  have hf := hb.frozen i
  have hrun : (Instr.storeAt ty (.pointer (some ⟨g, i, none⟩)) v).run P w = .ok () (w.setCell ⟨g, i, none⟩ v) := by
    simp only [Instr.storeAt, Instr.sureAddr, storeVar, Sem.run_bind, Sem.run_pure, Result.andThen_ok]
    have ha : (⟨g, i, none⟩ : Addr).add 0 = ⟨g, i, none⟩ := by simp [Addr.add]
    have hst := run_store P w ⟨g, i, none⟩ v .plain hv1
    simp only [hc, hf, Bool.false_eq_true, if_false] at hst
    simp [hv, storeCells, ha, hsz, hst]
  unfold Oper.wp execOp
  simp only [ho, hx, hy, Sem.run_bind, hrun, Result.andThen_ok]
  exact h _ (hb.set_ i v) (only_set w g i v)
end

section
open Go.RowKit
theorem Tryz.el_lt : El Tryz.prog 22 39 6 72 (.agg #[.string ⟨#[]⟩, .int .i64 0, .int .i64 0, .int .i64 0, .string ⟨#[]⟩, .string ⟨#[]⟩]) :=
  ⟨Tryz.underlying22, by kernel_rfl, rfl, by omega, by omega, by omega⟩
theorem Tryz.el_oc : El Tryz.prog 23 56 3 24 (.agg #[.int .i64 0, .int .i64 0, .int .i64 0]) :=
  ⟨Tryz.underlying23, by kernel_rfl, rfl, by omega, by omega, by omega⟩
theorem Tryz.ix_lt (W : World) (g o n c j : Nat) (hj : j < n) : (Instr.indexAt 22 (.slice (some ⟨g, o, none⟩) n c) (.int .i64 (j : Int))).run Tryz.prog W = .ok (.pointer (some ⟨g, o + j * 6, none⟩)) W := Tryz.el_lt.index (by kernel_rfl) W g o n c j hj
theorem Tryz.ix_oc (W : World) (g o n c j : Nat) (hj : j < n) : (Instr.indexAt 23 (.slice (some ⟨g, o, none⟩) n c) (.int .i64 (j : Int))).run Tryz.prog W = .ok (.pointer (some ⟨g, o + j * 3, none⟩)) W := Tryz.el_oc.index (by kernel_rfl) W g o n c j hj
theorem one3i (i j k : Int) : ([.int .i64 i, .int .i64 j, .int .i64 k] : List Value).toArray.all (·.oneCell') = true := by kernel_rfl
/-- A ledger's slices, as they lie in memory. -/
def LgIn (w : World) (A : Option Addr) (n : Nat) (B : Option Addr) (m : Nat) (l : Lg) : Prop := Sl w 6 A n (l.ls.map Lt.cells) ∧ Sl w 3 B m (l.os.map Oc.cells)
section
variable {w w' : World} {A B : Option Addr} {n m : Nat} {l : Lg}
theorem LgIn.through (h : LgIn w A n B m l) (hb : Below w.heap.size w w') : LgIn w' A n B m l := ⟨h.1.through hb, h.2.through hb⟩
theorem LgIn.alloc (h : LgIn w A n B m l) (o : Obj) : LgIn (w.alloc o) A n B m l := ⟨h.1.alloc o, h.2.alloc o⟩
theorem LgIn.len (h : LgIn w A n B m l) : l.ls.length = n ∧ l.os.length = m := ⟨by simpa using h.1.len, by simpa using h.2.len⟩
/-- the letter at i -/
theorem LgIn.lt_at (h : LgIn w A n B m l) {i : Nat} (hi : i < n) : ∃ g o x, A = some ⟨g, o, none⟩ ∧ l.ls[i]? = some x ∧ x ∈ l.ls ∧ l.ls.drop i = x :: l.ls.drop (i + 1) ∧ w.rangeAt g (o + i * 6) x.cells := by
  obtain ⟨g, o, cs, e, h1, _, _, h4⟩ := h.1.at hi
  have hl : i < l.ls.length := by rw [h.len.1]; exact hi
  rw [List.getElem?_map, List.getElem?_eq_getElem hl] at h1
  simp only [Option.map_some, Option.some.injEq] at h1
  subst h1
  exact ⟨g, o, l.ls[i], e, List.getElem?_eq_getElem hl, List.getElem_mem hl, List.drop_eq_getElem_cons hl, h4⟩
theorem LgIn.oc_at (h : LgIn w A n B m l) {i : Nat} (hi : i < m) : ∃ g o x, B = some ⟨g, o, none⟩ ∧ l.os[i]? = some x ∧ x ∈ l.os ∧ l.os.drop i = x :: l.os.drop (i + 1) ∧ w.rangeAt g (o + i * 3) x.cells := by
  obtain ⟨g, o, cs, e, h1, _, _, h4⟩ := h.2.at hi
  have hl : i < l.os.length := by rw [h.len.2]; exact hi
  rw [List.getElem?_map, List.getElem?_eq_getElem hl] at h1
  simp only [Option.map_some, Option.some.injEq] at h1
  subst h1
  exact ⟨g, o, l.os[i], e, List.getElem?_eq_getElem hl, List.getElem_mem hl, List.drop_eq_getElem_cons hl, h4⟩
end
/-- A ledger's value. -/
def Lg.val (l : Lg) (A : Option Addr) (n c : Nat) (B : Option Addr) (m d : Nat) : Value := .agg #[.int .i64 l.sq, .int .i64 l.tt, .slice A n c, .slice B m d]
theorem results_cell_row_0 {P : Program} {fn : Func} {p : Tmp} {ty : TypeId} (h : fn.results = #[.cell p ty]) (tmps : Array Value) (w : World) (g : Nat) (t : TypeId) (cs : Array Value) (fr : Nat × Nat) (d : TypeDesc)
    (hp : tmps.getD p undef = .pointer (some ⟨g, 0, none⟩)) (hg : w.heap[g]? = some (.cells cs t fr))
    (hu : P.underlying ty = some d) (hd : (match d with | .struct _ | .array _ _ => true | _ => false) = true) (hi : (P.info? ty).map (·.size) = some cs.size) :
    (results fn tmps).run P w = .ok (.agg cs) w := by
  have hp' : tmps[p]?.getD undef = .pointer (some ⟨g, 0, none⟩) := by simpa using hp
  simp [results, h, hp', asAddr, run_loadVar_row w g t ty cs fr d hg hu hd hi]
end

section
open Go.RowKit
theorem nmB_yes {x : UInt8} (h : 97 ≤ x.toNat ∧ x.toNat ≤ 122 ∨ 48 ≤ x.toNat ∧ x.toNat ≤ 57 ∨ x.toNat = 45) : nmB x = true := by
  simp only [nmB, Bool.or_eq_true, Bool.and_eq_true, decide_eq_true_eq, beq_iff_eq]
  omega
theorem nmB_no {x : UInt8} (h : ¬ (97 ≤ x.toNat ∧ x.toNat ≤ 122 ∨ 48 ≤ x.toNat ∧ x.toNat ≤ 57 ∨ x.toNat = 45)) : nmB x = false := by
  cases hb : nmB x
  · rfl
  · simp only [nmB, Bool.or_eq_true, Bool.and_eq_true, decide_eq_true_eq, beq_iff_eq] at hb
    omega
theorem isNm_eq (l : List UInt8) : isNm l = (l.all nmB && (decide (1 ≤ l.length) && decide (l.length ≤ 16))) := by unfold isNm; rw [Bool.and_assoc]
set_option maxHeartbeats 4000000 in
theorem risname_any (l : List UInt8) (w : World) (hl : l.length ≤ 1000000) : Calls Tryz.prog 50 #[.string (ba l)] w fun e w' => e = .returned (.bool (isNm l)) ∧ w' = w := by
  have hsz := ba_size
  obtain ⟨bb, hbb⟩ : ∃ bb, isNm l = bb := ⟨_, rfl⟩
  rw [hbb]
  have HBB := Lib.hid hbb
  clear hbb
  go_enter Tryz.func50, Tryz.ntmps50
  go_wp2
  go_loopw [3] (fun iv wr => ∃ i : Nat, i ≤ l.length ∧ iv = .int .i64 i ∧ (l.take i).all nmB = true ∧ wr = w) (fun iv _ => l.length - (intOf iv).toNat)
  case atStart => exact ⟨0, Nat.zero_le _, rfl, rfl, rfl⟩
  case round =>
    obtain ⟨i, hi, rfl, ha, rfl⟩ := hrel
    by_cases hlt : i < l.length
    · obtain ⟨x, hx⟩ : ∃ x, l[i]? = some x := ⟨_, List.getElem?_eq_getElem hlt⟩
      have hix := run_index_ba Tryz.underlying9 l .i64 i i rfl x hx
      have hal : (l.take (i + 1)).all nmB = nmB x := by
        rw [List.take_add_one, hx]
        simp [ha]
      have hxl := x.toNat_lt
      have hall : nmB x = false → l.all nmB = false := fun h => by
        rw [← List.take_append_drop (i + 1) l, List.all_append, hal, h]
        rfl
      have HA := Lib.hid hal
      have HB := Lib.hid hall
      clear ha hal hall
      by_cases hy : 97 ≤ x.toNat ∧ x.toNat ≤ 122 ∨ 48 ≤ x.toNat ∧ x.toNat ≤ 57 ∨ x.toNat = 45
      · have HY := Lib.hid (nmB_yes hy)
        generalize x.toNat = v at *
        rcases hy with ⟨h, h'⟩ | ⟨h, h'⟩ | h
        all_goals
          go_wp2
          go_roundw
          case rel => exact ⟨i + 1, by omega, by go_num, HA.out.trans HY.out, trivial⟩
          case measure => simp [intOf]; omega
      · have HN := Lib.hid (HB.out (nmB_no hy))
        have hcases : x.toNat < 45 ∨ (45 < x.toNat ∧ x.toNat < 48) ∨ (57 < x.toNat ∧ x.toNat < 97) ∨ 122 < x.toNat := by omega
        clear HA HB hy
        generalize x.toNat = v at *
        have hne : ((v : Int) == 45) = false := by simp; omega
        rcases hcases with h | ⟨h, h'⟩ | ⟨h, h'⟩ | h
        · go_wp2
          go_ret
          exact ⟨ret_b (by rw [← HBB.out, isNm_eq, HN.out]; rfl), rfl⟩
        · go_wp2
          go_ret
          exact ⟨ret_b (by rw [← HBB.out, isNm_eq, HN.out]; rfl), rfl⟩
        · have b57 : decide ((v : Int) ≤ 57) = false := by simp; omega
          go_wp2
          go_ret
          exact ⟨ret_b (by rw [← HBB.out, isNm_eq, HN.out]; rfl), rfl⟩
        · have b57 : decide ((v : Int) ≤ 57) = false := by simp; omega
          have b122 : decide ((v : Int) ≤ 122) = false := by simp; omega
          go_wp2
          go_ret
          exact ⟨ret_b (by rw [← HBB.out, isNm_eq, HN.out]; rfl), rfl⟩
    · have e : l.take i = l := List.take_of_length_le (by omega)
      rw [e] at ha
      have HA := Lib.hid ha
      clear e ha
      by_cases h1 : 1 ≤ l.length
      · by_cases h16 : l.length ≤ 16
        · go_wp2
          go_ret
          exact ⟨ret_b (by rw [← HBB.out, isNm_eq, HA.out]; simp [h1, h16]; try omega), rfl⟩
        · go_wp2
          go_ret
          exact ⟨ret_b (by rw [← HBB.out, isNm_eq, HA.out]; simp [h1, h16]; try omega), rfl⟩
      · go_wp2
        go_ret
        exact ⟨ret_b (by rw [← HBB.out, isNm_eq, HA.out]; simp [h1]; try omega), rfl⟩

def findR (o : Option Lt) : Lt × Bool := match o with | some x => (x, true) | none => (Lt.no, false)
def lastR (o : Option Oc) : Oc × Bool := match o with | some x => (x, true) | none => (Oc.no, false)
theorem findL_cons (nm : List UInt8) (x : Lt) (xs : List Lt) : findL nm (x :: xs) = if x.nm = nm then some x else findL nm xs := rfl
theorem lastL_cons (c : Int) (x : Oc) (xs : List Oc) : lastL c (x :: xs) = if x.cl = c then some x else lastL c xs := rfl

set_option maxHeartbeats 4000000 in
set_option maxRecDepth 100000 in
theorem rfind_any (l : Lg) (nm : List UInt8) (A : Option Addr) (n c : Nat) (B : Option Addr) (m d : Nat) (w : World) (h : LgIn w A n B m l) (hn : n ≤ 1000000) :
    Calls Tryz.prog 10 #[l.val A n c B m d, .string (ba nm)] w fun e w' => e = .returned (.tuple #[(findR (findL nm l.ls)).1.val, .bool (findR (findL nm l.ls)).2]) ∧ Below w.heap.size w w' := by
  have HI := Lib.hid h
  have hli := ba_list
  have hz := Tryz.zero_lt
  have hbn := Tryz.build_no
  obtain ⟨r, hr⟩ : ∃ r, findL nm l.ls = r := ⟨_, rfl⟩
  rw [hr]
  have HR := Lib.hid hr
  clear h hr
  unfold Lg.val
  have H0 : Hid (Blk ((w.alloc (.cells #[.int .i64 l.sq, .int .i64 l.tt, .slice A n c, .slice B m d] 25)).alloc (.cells #[.string (ba []), .int .i64 0, .int .i64 0, .int .i64 0, .string (ba []), .string (ba [])] 39)) (w.heap.size + 1) 39 [.string (ba []), .int .i64 0, .int .i64 0, .int .i64 0, .string (ba []), .string (ba [])]) := Lib.hid (Blk.fresh (by simp) rfl)
  have HIX := Lib.hid Tryz.ix_lt
  go_enter Tryz.func10, Tryz.ntmps10
  go_wp2
  go_loopw [11] (fun iv wr => ∃ i : Nat, i ≤ n ∧ iv = .int .i64 i ∧ findL nm (l.ls.drop i) = r ∧ Blk wr (w.heap.size + 1) 39 [.string (ba []), .int .i64 0, .int .i64 0, .int .i64 0, .string (ba []), .string (ba [])] ∧ Below w.heap.size w wr) (fun iv _ => n - (intOf iv).toNat)
  case atStart => exact ⟨0, Nat.zero_le _, rfl, HR.out, H0.out, below2 w _ _⟩
  case round =>
    obtain ⟨i, hi, rfl, hf, hb, hx⟩ := hrel
    have HX := Lib.hid hx
    have HB := Lib.hid hb
    clear hx hb
    by_cases hlt : i < n
    · obtain ⟨g, o, x, rfl, _, _, hd, hrg⟩ := (HI.out.through HX.out).lt_at hlt
      rw [hd, findL_cons] at hf
      have HRg := Lib.hid hrg
      have hix := HIX.out wr g o n c i hlt
      clear hrg hd
      by_cases hnm : x.nm = nm
      · rw [if_pos hnm] at hf
        have hnb : (x.nm == nm) = true := by simpa using hnm
        have HF := Lib.hid hf
        clear hf hnm
        go_wp2_with (first
          | (refine wpList_load_mid rfl 39 (.tmp 13) rfl g (o + i * 6) rfl [.string (ba x.nm), .int .i64 x.st, .int .i64 x.am, .int .i64 x.du, .string (ba x.po), .string (ba x.pa)] _ HRg.out Tryz.underlying39 rfl (by kernel_rfl) ?_)
          | (refine wpList_store_blk rfl 39 (.tmp 4) (.tmp 19) rfl (w.heap.size + 1) [.string (ba x.nm), .int .i64 x.st, .int .i64 x.am, .int .i64 x.du, .string (ba x.po), .string (ba x.pa)] rfl rfl 39 [.string (ba []), .int .i64 0, .int .i64 0, .int .i64 0, .string (ba []), .string (ba [])] (HB.out.alloc _) (by kernel_rfl) rfl (one6 _ _ _ _ _ _) ?_; intro wb hbb hgb; have HBb := Lib.hid hbb; have HXb : Hid (Below w.heap.size w wb) := Lib.hid ((HX.out.alloc HX.out.size _).grown hgb (by have := HX.out.size; simp; omega) (fun k hk => by have := Option.some.inj hk; omega)); clear hbb hgb))
        (try simp only [Exit.inBlock, Exit.then]); refine bodyPost_ret (results_cell_row_tmp1 rfl _ _ (w.heap.size + 1) 39 _ (0, 0) _ rfl HBb.out Tryz.underlying39 rfl (by kernel_rfl)) rfl ⟨?_, HXb.out⟩
        rw [← HF.out]
        rfl
      · rw [if_neg hnm] at hf
        have hnb : (x.nm == nm) = false := by simpa using hnm
        have HF := Lib.hid hf
        clear hf hnm
        go_wp2_with (first
          | (refine wpList_load_mid rfl 39 (.tmp 13) rfl g (o + i * 6) rfl [.string (ba x.nm), .int .i64 x.st, .int .i64 x.am, .int .i64 x.du, .string (ba x.po), .string (ba x.pa)] _ HRg.out Tryz.underlying39 rfl (by kernel_rfl) ?_))
        go_roundw
        case rel => exact ⟨i + 1, by omega, by go_num, HF.out, HB.out.alloc _, HX.out.alloc HX.out.size _⟩
        case measure => simp [intOf]; omega
    · have hl : l.ls.drop i = [] := List.drop_of_length_le (by have := HI.out.len; omega)
      rw [hl] at hf
      have HF := Lib.hid hf
      clear hl hf
      go_wp2_with (refine wpList_store_blk rfl 39 (.tmp 4) (.tmp 21) rfl (w.heap.size + 1) [.string (ba []), .int .i64 0, .int .i64 0, .int .i64 0, .string (ba []), .string (ba [])] rfl rfl 39 [.string (ba []), .int .i64 0, .int .i64 0, .int .i64 0, .string (ba []), .string (ba [])] HB.out (by kernel_rfl) rfl (one6 _ _ _ _ _ _) ?_; intro wb hbb hgb; have HBb := Lib.hid hbb; have HXb : Hid (Below w.heap.size w wb) := Lib.hid (HX.out.grown hgb HX.out.size (fun k hk => by have := Option.some.inj hk; omega)); clear hbb hgb)
      (try simp only [Exit.inBlock, Exit.then]); refine bodyPost_ret (results_cell_row_tmp1 rfl _ _ (w.heap.size + 1) 39 _ (0, 0) _ rfl HBb.out Tryz.underlying39 rfl (by kernel_rfl)) rfl ⟨?_, HXb.out⟩
      rw [← HF.out]
      rfl
end

section
open Go.RowKit
theorem Tryz.zero_oc (w : World) : (zeroValue 56).run Tryz.prog w = .ok (.agg #[.int .i64 0, .int .i64 0, .int .i64 0]) w := by kernel_rfl
theorem Tryz.build_oc (w : World) : (Instr.build 56 #[]).run Tryz.prog w = .ok (.agg #[.int .i64 0, .int .i64 0, .int .i64 0]) w := by kernel_rfl
end

section
open Go.RowKit
/-- What a call hands back: a ledger, in memory; beside an error. -/
def LgOut (w : World) (l : Lg) (e : Ending) (w' : World) : Prop := ∃ A n c B m d, e = .returned (l.val A n c B m d) ∧ LgIn w' A n B m l ∧ Below w.heap.size w w'
def LgOutE (w : World) (l : Lg) (er : Int) (e : Ending) (w' : World) : Prop := ∃ A n c B m d, e = .returned (.tuple #[l.val A n c B m d, .int .i64 er]) ∧ LgIn w' A n B m l ∧ Below w.heap.size w w'
theorem fin3 (w : World) (A B C : Obj) : (((w.alloc A).alloc B).alloc C).heap[w.heap.size + 2]? = some C := by have := heap_alloc_new ((w.alloc A).alloc B) C; simpa using this
theorem below3 (w : World) (A B C : Obj) : Below w.heap.size w (((w.alloc A).alloc B).alloc C) := (below2 w A B).alloc (by simp; omega) C
theorem Tryz.zero_lg (w : World) : (zeroValue 25).run Tryz.prog w = .ok (.agg #[.int .i64 0, .int .i64 0, .slice none 0 0, .slice none 0 0]) w := by kernel_rfl
theorem Tryz.build_lg (w : World) : (Instr.build 25 #[]).run Tryz.prog w = .ok (.agg #[.int .i64 0, .int .i64 0, .slice none 0 0, .slice none 0 0]) w := by kernel_rfl
theorem one4 (i j : Int) (A : Option Addr) (n c : Nat) (B : Option Addr) (m d : Nat) : ([.int .i64 i, .int .i64 j, .slice A n c, .slice B m d] : List Value).toArray.all (·.oneCell') = true := by kernel_rfl
theorem Os.out' {w : World} {B : Nat} {e : TypeId} {k : Nat} {v : Value} {xs : List (List Value)} (h : Os w B e k v xs) : ∃ A n c, v = .slice A n c ∧ n = xs.length := by
  obtain ⟨A, c, h1, _⟩ := h.out
  exact ⟨A, _, c, h1, rfl⟩
theorem Os.sl {w : World} {B : Nat} {e : TypeId} {k : Nat} {v : Value} {xs : List (List Value)} (h : Os w B e k v xs) {A : Option Addr} {n c : Nat} (hv : v = .slice A n c) : Sl w k A n xs := by
  obtain ⟨A', c', h1, _, _, h2⟩ := h.out
  rw [hv] at h1
  injection h1 with e1 e2 e3
  subst e1 e2 e3
  exact h2
end

section
open Go.RowKit
theorem Tryz.alloc_lt (g : Nat) (w : World) (hg : w.heap.size = g) : (Instr.alloc 39 true (.tuple #[])).run Tryz.prog w = .ok (.pointer (some ⟨g, 0, none⟩)) (w.alloc (.cells #[.string (ba []), .int .i64 0, .int .i64 0, .int .i64 0, .string (ba []), .string (ba [])] 39)) := by
  subst hg
  kernel_rfl
theorem wrap_sx (v : Nat) (h : v < 18446744073709551616) : IntKind.i64.wrap (v : Int) = sx 8 v := by
  have e : ∀ V, sx 8 V = if V < 9223372036854775808 then (V : Int) else V - 18446744073709551616 := fun V => by simp [sx]
  rw [e]
  simp [IntKind.wrap, IntKind.signed, IntKind.bits]
  split <;> omega
theorem sx_small {v : Nat} (h : v < 9223372036854775808) : sx 8 v = v := by simp [sx, h]
theorem conv_i64 {P : Program} (t t' : TypeId) (ht : P.underlying t = some (.int .u64)) (ht' : P.underlying t' = some (.int .i64)) (v : Nat) (h : v < 18446744073709551616) (w : World) : (convert t t' (.int .u64 (v : Int))).run P w = .ok (.int .i64 (sx 8 v)) w := by
  simp [convert, run_underlying ht, run_underlying ht', Conv.intToInt, wrap_sx v h]
theorem conv_small {P : Program} (t t' : TypeId) (ht : P.underlying t = some (.int .u64)) (ht' : P.underlying t' = some (.int .i64)) (v : Nat) (h : v < 9223372036854775808) (w : World) : (convert t t' (.int .u64 (v : Int))).run P w = .ok (.int .i64 (v : Int)) w := by
  rw [conv_i64 t t' ht ht' v (by omega), sx_small h]
theorem Tryz.build_lg2 (i j : Int) (w : World) : (Instr.build 25 #[(0, .int .i64 i), (1, .int .i64 j)]).run Tryz.prog w = .ok (.agg #[.int .i64 i, .int .i64 j, .slice none 0 0, .slice none 0 0]) w := by kernel_rfl
theorem Tryz.build_l6 (a b d : ByteArray) (i j k : Int) (w : World) : (Instr.build 39 #[(0, .string a), (1, .int .i64 i), (2, .int .i64 j), (3, .int .i64 k), (4, .string b), (5, .string d)]).run Tryz.prog w = .ok (.agg #[.string a, .int .i64 i, .int .i64 j, .int .i64 k, .string b, .string d]) w := by kernel_rfl
theorem Tryz.build_o3 (i j k : Int) (w : World) : (Instr.build 56 #[(0, .int .i64 i), (1, .int .i64 j), (2, .int .i64 k)]).run Tryz.prog w = .ok (.agg #[.int .i64 i, .int .i64 j, .int .i64 k]) w := by kernel_rfl
theorem only_new {a b c : World} {g h : Nat} (hab : a.grownBy b (some g)) (hbc : b.grownBy c (some h)) (hh : a.heap.size ≤ h) : a.grownBy c (some g) :=
  ⟨hbc.os.trans hab.os, hbc.tape.trans hab.tape, hbc.output.trans hab.output, Nat.le_trans hab.size hbc.size, fun i hi hne => (hbc.block i (Nat.lt_of_lt_of_le hi hab.size) (fun e => by have := Option.some.inj e; omega)).trans (hab.block i hi hne)⟩
/-- A block of cells that are no bytes is turned. -/
theorem By.far {w w' : World} {A : Option Addr} {n g : Nat} {xs : List UInt8} {t : TypeId} {cs : List Value} (h : By w (fun _ => True) A n xs) (hg : w.grownBy w' (some g)) (hb : Blk w g t cs) (hc : ∀ v ∈ cs, ∀ u : UInt8, v ≠ u8 u) : By w' (fun _ => True) A n xs :=
  ⟨h.1, fun hn => by
    obtain ⟨b, o, e, _, hc1⟩ := h.2 hn
    refine ⟨b, o, e, trivial, fun j u hu => hg.cell (hc1 j u hu) (fun e2 => ?_)⟩
    have e3 : b = g := Option.some.inj e2
    subst e3
    have h2 := hc1 j u hu
    rw [hb.cell] at h2
    exact hc _ (List.mem_of_getElem? h2) u rfl⟩
theorem no_u8 (a b d : ByteArray) (i j k : Int) : ∀ v ∈ ([.string a, .int .i64 i, .int .i64 j, .int .i64 k, .string b, .string d] : List Value), ∀ u : UInt8, v ≠ u8 u := by
  intro v hv u
  simp at hv
  rcases hv with rfl | rfl | rfl | rfl | rfl | rfl <;> simp [u8]
theorem tval_le (k : Nat) (st : Option (List UInt8)) : (tval k st).length ≤ k := by
  cases st with
  | none => simp [tval]
  | some xs => rw [tval_some]; split <;> simp; omega
theorem rval_le (most : Nat) (st : Option (List UInt8)) : (rval most st).length ≤ most := by
  unfold rval
  split
  · exact Nat.le_trans (tval_le _ _) (by assumption)
  · simp
theorem rdMany_mem {α : Type} {rd : Option (List UInt8) → α × Option (List UInt8)} {p : α → Prop} (h : ∀ st, p (rd st).1) : ∀ (n : Nat) (st : Option (List UInt8)), ∀ x ∈ (rdMany rd n st).1, p x
  | 0, _, x, hx => by cases hx
  | n + 1, none, x, hx => by rw [rdMany_none] at hx; cases hx
  | n + 1, some xs, x, hx => by
    rw [rdMany_some] at hx
    rcases List.mem_cons.1 hx with rfl | hx
    · exact h _
    · exact rdMany_mem h n _ x hx
theorem rdMany_step {α : Type} (rd : Option (List UInt8) → α × Option (List UInt8)) (k : Nat) (xs : List UInt8) (pre : List α) : (pre ++ (rdMany rd (k + 1) (some xs)).1, (rdMany rd (k + 1) (some xs)).2) = ((pre ++ [(rd (some xs)).1]) ++ (rdMany rd k (rd (some xs)).2).1, (rdMany rd k (rd (some xs)).2).2) := by
  rw [rdMany_some]
  simp

/-- which ledger bytes tell, and whether they tell one -/
def parseB (xs : List UInt8) : Lg × Bool := match parseLg xs with | some l => (l, true) | none => (Lg.no, false)
def LgOutB (w : World) (l : Lg) (b : Bool) (e : Ending) (w' : World) : Prop := ∃ A n c B m d, e = .returned (.tuple #[l.val A n c B m d, .bool b]) ∧ LgIn w' A n B m l ∧ Below w.heap.size w w'

theorem Tryz.agg_so (w : World) : (isAgg 23).run Tryz.prog w = .ok false w := by kernel_rfl
theorem cval_le (most : Nat) (st : Option (List UInt8)) : cval most st ≤ most := by
  unfold cval
  split <;> omega
theorem parseB_yes {xs : List UInt8} {l : Lg} (h : rdLg xs = (l, some [])) (hr : l.right = true) : parseB xs = (l, true) := by
  unfold parseB parseLg
  rw [h]
  simp [hr]
theorem parseB_no {xs : List UInt8} {l : Lg} {st : Option (List UInt8)} (h : rdLg xs = (l, st)) (hn : st ≠ some [] ∨ l.right = false) : parseB xs = (Lg.no, false) := by
  unfold parseB parseLg
  rw [h]
  have h2 : ¬ (st = some [] ∧ l.right = true) := fun ⟨a, b⟩ => by
    rcases hn with hn | hn
    · exact hn a
    · rw [b] at hn; cases hn
  rw [if_neg h2]
end

section
open Go.RowKit

end

section
open Go.RowKit
/-- may a name have this rune? -/
def nmR (r : Int) : Bool := (decide (97 ≤ r) && decide (r ≤ 122)) || (decide (48 ≤ r) && decide (r ≤ 57)) || (r == 45)
theorem nmR_byte (x : UInt8) : nmR (x.toNat : Int) = nmB x := by
  have h : ∀ a b : Bool, (a = true ↔ b = true) → a = b := fun a b h => by cases a <;> cases b <;> simp_all
  apply h
  simp only [nmR, nmB, Bool.or_eq_true, Bool.and_eq_true, decide_eq_true_eq, beq_iff_eq]
  omega
theorem nmR_high {r : Int} (h : 128 ≤ r) : nmR r = false := by
  cases hb : nmR r
  · rfl
  · simp only [nmR, Bool.or_eq_true, Bool.and_eq_true, decide_eq_true_eq, beq_iff_eq] at hb
    omega
theorem nmR_yes {x : Int} (h : 97 ≤ x ∧ x ≤ 122 ∨ 48 ≤ x ∧ x ≤ 57 ∨ x = 45) : nmR x = true := by
  simp only [nmR, Bool.or_eq_true, Bool.and_eq_true, decide_eq_true_eq, beq_iff_eq]
  omega
theorem nmR_no {x : Int} (h : ¬ (97 ≤ x ∧ x ≤ 122 ∨ 48 ≤ x ∧ x ≤ 57 ∨ x = 45)) : nmR x = false := by
  cases hb : nmR x
  · rfl
  · simp only [nmR, Bool.or_eq_true, Bool.and_eq_true, decide_eq_true_eq, beq_iff_eq] at hb
    omega

set_option maxHeartbeats 1000000 in
theorem isofname_any (r : Int) (w : World) : Calls Tryz.prog 53 #[.int .i32 r] w fun e w' => e = .returned (.bool (nmR r)) ∧ w' = w := by
  by_cases hy : 97 ≤ r ∧ r ≤ 122 ∨ 48 ≤ r ∧ r ≤ 57 ∨ r = 45
  · rw [nmR_yes hy]
    rcases hy with ⟨h, h'⟩ | ⟨h, h'⟩ | h
    all_goals
      go_enter Tryz.func53, Tryz.ntmps53
      go_wp2
      go_ret
      exact ⟨rfl, rfl⟩
  · rw [nmR_no hy]
    have hcases : r < 45 ∨ (45 < r ∧ r < 48) ∨ (57 < r ∧ r < 97) ∨ 122 < r := by omega
    have hne : (r == 45) = false := by simp; omega
    clear hy
    rcases hcases with h | ⟨h, h'⟩ | ⟨h, h'⟩ | h
    · go_enter Tryz.func53, Tryz.ntmps53
      go_wp2
      go_ret
      exact ⟨rfl, rfl⟩
    · go_enter Tryz.func53, Tryz.ntmps53
      go_wp2
      go_ret
      exact ⟨rfl, rfl⟩
    · have b57 : decide (r ≤ 57) = false := by simp; omega
      go_enter Tryz.func53, Tryz.ntmps53
      go_wp2
      go_ret
      exact ⟨rfl, rfl⟩
    · have b57 : decide (r ≤ 57) = false := by simp; omega
      have b122 : decide (r ≤ 122) = false := by simp; omega
      go_enter Tryz.func53, Tryz.ntmps53
      go_wp2
      go_ret
      exact ⟨rfl, rfl⟩

set_option maxHeartbeats 4000000 in
set_option maxRecDepth 100000 in
theorem isname_any (t : List UInt8) (w : World) (hl : t.length ≤ 140737488355328) : Calls Tryz.prog 36 #[.string (ba t)] w fun e w' => e = .returned (.bool (isNm t)) ∧ Below w.heap.size w w' := by
  have hsz := ba_size
  obtain ⟨bb, hbb⟩ : ∃ bb, isNm t = bb := ⟨_, rfl⟩
  rw [hbb]
  have HBB := Lib.hid hbb
  clear hbb
  by_cases h1 : t.length < 1
  · go_enter Tryz.func36, Tryz.ntmps36
    go_wp2
    go_ret
    exact ⟨ret_b (by rw [← HBB.out, isNm_eq]; simp; omega), Below.refl _ _⟩
  by_cases h16 : 16 < t.length
  · go_enter Tryz.func36, Tryz.ntmps36
    go_wp2
    go_ret
    exact ⟨ret_b (by rw [← HBB.out, isNm_eq]; simp; omega), Below.refl _ _⟩
  have hd1 : decide ((t.length : Int) < 1) = false := by simp; omega
  have hd2 : decide ((16 : Int) < t.length) = false := by simp; omega
  have H1 := Lib.hid h1
  have H16 := Lib.hid h16
  clear h1 h16
  go_enter Tryz.func36, Tryz.ntmps36
  go_wp2
  go_loopw [4] (fun ev wr => ∃ pos : Nat, pos ≤ t.length ∧ wr.heap[w.heap.size]? = some (.stringIter (ba t) pos) ∧ Below w.heap.size w wr ∧ (t.take pos).all nmB = true ∧ ∃ ev', ev' = ev) (fun _ wr => t.length - wr.iterPos w.heap.size)
  case atStart => exact ⟨0, Nat.zero_le _, World.iter_heap w (ba t) 0, (Below.refl _ w).alloc (Nat.le_refl _) _, rfl, _, rfl⟩
  case round =>
    obtain ⟨pos, hp, hit, hx, hs, ev', rfl⟩ := hrel
    have HX := Lib.hid hx
    have HS := Lib.hid hs
    have hmeas : wr.iterPos w.heap.size = pos := by simp only [World.iterPos, hit]
    clear hx hs
    by_cases hlt : pos < t.length
    · have hpz : pos < (ba t).size := by rw [ba_size]; exact hlt
      obtain ⟨x, hxx⟩ : ∃ x, t[pos]? = some x := ⟨_, List.getElem?_eq_getElem hlt⟩
      have hxe : (ba t)[pos]'hpz = x := by rw [ba_get]; exact (List.getElem?_eq_some_iff.1 hxx).2
      have hal : (t.take (pos + 1)).all nmB = nmB x := by
        rw [List.take_add_one, hxx]
        simp [HS.out]
      have hall : nmB x = false → t.all nmB = false := fun h => by
        rw [← List.take_append_drop (pos + 1) t, List.all_append, hal, h]
        rfl
      cases hq : nmB x with
      | true =>
        have ha : ((ba t)[pos]'hpz).toNat < 128 := by
          rw [hxe]
          have h9 := nmR_byte x
          rw [hq] at h9
          by_cases h8 : x.toNat < 128
          · exact h8
          · rw [nmR_high (by omega)] at h9; cases h9
        have hnx : ∀ ty, (Instr.next (.pointer (some ⟨w.heap.size, 0, none⟩)) true ty).run Tryz.prog wr = .ok (.tuple #[.bool true, .int .i64 (pos : Int), .int .i32 (x.toNat : Int)]) (wr.iterAt w.heap.size (ba t) (pos + 1)) := fun ty => by
          rw [← hxe]
          exact Lib.run_next_ascii_at wr w.heap.size (ba t) pos ty hit hpz ha
        have hk := fun W => isofname_any (x.toNat : Int) W
        rw [nmR_byte x, hq] at hk
        have HKd := Lib.hid hk
        have hit2 := Lib.iterAt_heap wr w.heap.size (ba t) pos (pos + 1) hit
        have hx2 := Lib.below_iterAt HX.out (Nat.le_refl _) (ba t) (pos + 1)
        have HSp := Lib.hid (hal.trans hq)
        generalize wr.iterAt w.heap.size (ba t) (pos + 1) = w2 at *
        have HI2 := Lib.hid hit2
        have HX2 := Lib.hid hx2
        clear hk hq hal hall hxe hxx hit2 hx2 ha
        go_wp2_with (go_at_call 53; (with_reducible refine (HKd.out _).mono ?_); rintro e w3 ⟨rfl, rfl⟩)
        go_roundw
        case rel => exact ⟨pos + 1, by omega, HI2.out, HX2.out, HSp.out, _, rfl⟩
        case measure => rw [hmeas]; have h9 := HI2.out; simp only [World.iterPos, h9]; omega
      | false =>
        have HN := Lib.hid (hall hq)
        obtain ⟨r, wd, hnx, hrk⟩ : ∃ (r : Int) (wd : Nat), (∀ ty, (Instr.next (.pointer (some ⟨w.heap.size, 0, none⟩)) true ty).run Tryz.prog wr = .ok (.tuple #[.bool true, .int .i64 (pos : Int), .int .i32 r]) (wr.iterAt w.heap.size (ba t) wd)) ∧ nmR r = false := by
          by_cases ha : ((ba t)[pos]'hpz).toNat < 128
          · refine ⟨x.toNat, pos + 1, fun ty => ?_, ?_⟩
            · rw [← hxe]
              exact Lib.run_next_ascii_at wr w.heap.size (ba t) pos ty hit hpz ha
            · rw [nmR_byte x, hq]
          · refine ⟨(Utf8.decode (ba t) pos).1, _, fun ty => Lib.run_next_any_at wr w.heap.size (ba t) pos ty hit hpz, ?_⟩
            have hd := (decode_high (ba t) pos hpz (by omega)).1
            exact nmR_high (by omega)
        have hk := fun W => isofname_any r W
        rw [hrk] at hk
        have HKd := Lib.hid hk
        have hx2 := Lib.below_iterAt HX.out (Nat.le_refl _) (ba t) wd
        generalize wr.iterAt w.heap.size (ba t) wd = w2 at *
        have HX2 := Lib.hid hx2
        clear hk hrk hq hal hall hxe hxx hx2 hit hmeas
        go_wp2_with (go_at_call 53; (with_reducible refine (HKd.out _).mono ?_); rintro e w3 ⟨rfl, rfl⟩)
        go_ret
        exact ⟨ret_b (by rw [← HBB.out, isNm_eq, HN.out]; rfl), HX2.out⟩
    · have hpe : pos = t.length := by omega
      have hs := HS.out
      rw [hpe, List.take_length] at hs
      have HA := Lib.hid hs
      subst hpe
      have hnx : ∀ ty, (Instr.next (.pointer (some ⟨w.heap.size, 0, none⟩)) true ty).run Tryz.prog wr = .ok (.tuple #[.bool false]) wr := fun ty => Lib.run_next_end_at wr w.heap.size (ba t) _ ty hit (by rw [ba_size]; omega)
      clear hs hmeas
      go_wp2
      go_ret
      exact ⟨ret_b (by rw [← HBB.out, isNm_eq, HA.out]; have := H1.out; have := H16.out; simp; omega), HX.out⟩

set_option maxHeartbeats 1000000 in
theorem nameof_any (x : Lt) (w : World) : Calls Tryz.prog 55 #[.agg #[.string (ba x.nm), .int .i64 x.st, .int .i64 x.am, .int .i64 x.du, .string (ba x.po), .string (ba x.pa)]] w fun e w' => e = .returned (.string (ba x.nm)) ∧ Below w.heap.size w w' := by
  go_enter Tryz.func55, Tryz.ntmps55
  go_wp2
  go_ret
  exact ⟨rfl, below1 w _⟩

set_option maxHeartbeats 1000000 in
theorem clientof_any (x : Oc) (w : World) : Calls Tryz.prog 44 #[.agg #[.int .i64 x.cl, .int .i64 x.sp, .int .i64 x.rs]] w fun e w' => e = .returned (.int .i64 x.cl) ∧ Below w.heap.size w w' := by
  go_enter Tryz.func44, Tryz.ntmps44
  go_wp2
  go_ret
  exact ⟨rfl, below1 w _⟩

/-- how two keys compare -/
def cmpS (a b : List UInt8) : Int := if ltS a b then -1 else if a = b then 0 else 1
def cmpI (a b : Int) : Int := if a < b then -1 else if a = b then 0 else 1

set_option maxHeartbeats 1000000 in
theorem nanS_any (a : List UInt8) (w : World) : Calls Tryz.prog 114 #[.string (ba a)] w fun e w' => e = .returned (.bool false) ∧ w' = w := by
  have hli := ba_list
  go_enter Tryz.func114, Tryz.ntmps114
  go_wp2
  go_ret
  exact ⟨by simp, rfl⟩

set_option maxHeartbeats 1000000 in
theorem cmpS_any (a b : List UInt8) (w : World) : Calls Tryz.prog 97 #[.string (ba a), .string (ba b)] w fun e w' => e = .returned (.int .i64 (cmpS a b)) ∧ w' = w := by
  have hnn := fun (c : List UInt8) (W : World) => nanS_any c W
  have HN := Lib.hid hnn
  clear hnn
  have hli := ba_list
  cases h1 : ltS a b
  case true =>
    have e1 : cmpS a b = -1 := by simp [cmpS, h1]
    rw [e1]
    have h2 : Op.bytesLess a b = true := h1
    clear e1 h1
    go_enter Tryz.func97, Tryz.ntmps97
    go_wp2_with (go_at_call 114; (with_reducible refine (HN.out _ _).mono ?_); rintro e w1 ⟨rfl, rfl⟩)
    go_ret
    exact ⟨rfl, rfl⟩
  by_cases h3 : a = b
  case pos =>
    subst h3
    have e1 : cmpS a a = 0 := by simp [cmpS, h1]
    rw [e1]
    have h2 : Op.bytesLess a a = false := h1
    have h4 : (a == a) = true := by simp
    clear e1 h1
    go_enter Tryz.func97, Tryz.ntmps97
    go_wp2_with (go_at_call 114; (with_reducible refine (HN.out _ _).mono ?_); rintro e w1 ⟨rfl, rfl⟩)
    go_ret
    exact ⟨rfl, rfl⟩
  case neg =>
    have e1 : cmpS a b = 1 := by simp [cmpS, h1, h3]
    rw [e1]
    have h2 : Op.bytesLess a b = false := h1
    have h4 : (a == b) = false := by simpa using h3
    clear e1 h1 h3
    go_enter Tryz.func97, Tryz.ntmps97
    go_wp2_with (go_at_call 114; (with_reducible refine (HN.out _ _).mono ?_); rintro e w1 ⟨rfl, rfl⟩)
    go_ret
    exact ⟨rfl, rfl⟩

set_option maxHeartbeats 1000000 in
theorem nanI_any (a : Int) (w : World) : Calls Tryz.prog 113 #[.int .i64 a] w fun e w' => e = .returned (.bool false) ∧ w' = w := by
  go_enter Tryz.func113, Tryz.ntmps113
  go_wp2
  go_ret
  exact ⟨by simp, rfl⟩

set_option maxHeartbeats 1000000 in
theorem cmpI_any (a b : Int) (w : World) : Calls Tryz.prog 89 #[.int .i64 a, .int .i64 b] w fun e w' => e = .returned (.int .i64 (cmpI a b)) ∧ w' = w := by
  have hnn := fun (c : Int) (W : World) => nanI_any c W
  have HN := Lib.hid hnn
  clear hnn
  by_cases h1 : a < b
  case pos =>
    have e1 : cmpI a b = -1 := by simp [cmpI, h1]
    rw [e1]
    clear e1
    go_enter Tryz.func89, Tryz.ntmps89
    go_wp2_with (go_at_call 113; (with_reducible refine (HN.out _ _).mono ?_); rintro e w1 ⟨rfl, rfl⟩)
    go_ret
    exact ⟨rfl, rfl⟩
  by_cases h3 : a = b
  case pos =>
    subst h3
    have e1 : cmpI a a = 0 := by simp [cmpI]
    rw [e1]
    have d1 : decide (a < a) = false := by simp
    clear e1 h1
    go_enter Tryz.func89, Tryz.ntmps89
    go_wp2_with (go_at_call 113; (with_reducible refine (HN.out _ _).mono ?_); rintro e w1 ⟨rfl, rfl⟩)
    go_ret
    exact ⟨rfl, rfl⟩
  case neg =>
    have e1 : cmpI a b = 1 := by simp [cmpI, h1, h3]
    rw [e1]
    have h4 : b < a := by omega
    have d1 : decide (a < b) = false := by simp; omega
    have d2 : decide (b < a) = true := by simpa using h4
    clear e1 h3
    go_enter Tryz.func89, Tryz.ntmps89
    go_wp2_with (go_at_call 113; (with_reducible refine (HN.out _ _).mono ?_); rintro e w1 ⟨rfl, rfl⟩)
    go_ret
    exact ⟨rfl, rfl⟩
end

section
open Go.RowKit
section
variable {α : Type}
/-- the first place at which p holds, or -1 -/
def ixF (p : α → Bool) (l : List α) : Int := match l.findIdx? p with | some i => (i : Int) | none => -1
/-- where the first stands that compares as the same; else, and then it is false, where the first stands that is greater -/
def plc (c : α → Int) (l : List α) : Nat × Bool := match l.findIdx? (fun x => c x == 0) with | some i => (i, true) | none => (l.findIdx (fun x => decide (0 < c x)), false)
theorem findIdx?_none_of {p : α → Bool} {l : List α} (h : ∀ x ∈ l, p x = false) : l.findIdx? p = none := by
  rw [List.findIdx?_eq_none_iff]
  simpa using h
theorem findIdx?_of {p : α → Bool} : ∀ {l : List α} {i : Nat} {x : α}, l[i]? = some x → p x = true → (∀ j y, j < i → l[j]? = some y → p y = false) → l.findIdx? p = some i
  | [], i, x, h, _, _ => by simp at h
  | y :: ys, 0, x, h, hp, _ => by
    simp at h
    subst h
    simp [List.findIdx?_cons, hp]
  | y :: ys, i + 1, x, h, hp, hb => by
    have h0 : p y = false := hb 0 y (by omega) rfl
    have h1 := findIdx?_of (l := ys) (i := i) (x := x) (by simpa using h) hp (fun j z hj hz => hb (j + 1) z (by omega) (by simpa using hz))
    simp [List.findIdx?_cons, h0, h1]
theorem findIdx_of_none {p : α → Bool} {l : List α} (h : l.findIdx? p = none) : l.findIdx p = l.length := by
  rw [List.findIdx?_eq_none_iff] at h
  exact List.findIdx_eq_length.2 (by simpa using h)
theorem findIdx_of_some {p : α → Bool} : ∀ {l : List α} {i : Nat}, l.findIdx? p = some i → l.findIdx p = i ∧ ∃ x, l[i]? = some x ∧ p x = true
  | [], i, h => by simp at h
  | y :: ys, i, h => by
    rw [List.findIdx?_cons] at h
    rw [List.findIdx_cons]
    cases hp : p y with
    | true =>
      rw [hp] at h
      simp at h
      subst h
      exact ⟨by simp, y, rfl, hp⟩
    | false =>
      rw [hp] at h
      simp at h
      obtain ⟨k, hk, rfl⟩ := h
      obtain ⟨h1, x, h2, h3⟩ := findIdx_of_some hk
      exact ⟨by simp [h1], x, by simpa using h2, h3⟩
/-- rising strictly, one by one -/
def ris (lt : α → α → Bool) : List α → Bool
  | x :: y :: ys => lt x y && ris lt (y :: ys)
  | _ => true
theorem ris_first {lt : α → α → Bool} (ht : ∀ a b c, lt a b = true → lt b c = true → lt a c = true) : ∀ {l : List α} {x : α}, ris lt (x :: l) = true → ∀ y ∈ l, lt x y = true
  | [], _, _, y, hy => by cases hy
  | z :: zs, x, h, y, hy => by
    simp only [ris, Bool.and_eq_true] at h
    rcases List.mem_cons.1 hy with rfl | hy
    · exact h.1
    · exact ht _ _ _ h.1 (ris_first ht h.2 y hy)
theorem ris_tail {lt : α → α → Bool} {x : α} {l : List α} (h : ris lt (x :: l) = true) : ris lt l = true := by
  cases l with
  | nil => rfl
  | cons y ys =>
    simp only [ris, Bool.and_eq_true] at h
    exact h.2
theorem ris_pair {lt : α → α → Bool} (ht : ∀ a b c, lt a b = true → lt b c = true → lt a c = true) : ∀ {l : List α}, ris lt l = true → ∀ {j k : Nat} {y z : α}, j < k → l[j]? = some y → l[k]? = some z → lt y z = true
  | [], _, _, _, _, _, _, h, _ => by simp at h
  | x :: xs, h, 0, k + 1, y, z, _, hy, hz => by
    simp at hy hz
    subst hy
    exact ris_first ht h z (List.mem_of_getElem? hz)
  | x :: xs, h, j + 1, k + 1, y, z, hj, hy, hz => ris_pair ht (ris_tail h) (j := j) (k := k) (by omega) (by simpa using hy) (by simpa using hz)
/-- rising at each place -/
theorem ris_iff {lt : α → α → Bool} : ∀ {l : List α}, ris lt l = true ↔ ∀ i x y, l[i]? = some x → l[i + 1]? = some y → lt x y = true
  | [] => by simp [ris]
  | [x] => by
    simp only [ris, true_iff]
    intro i a b _ h
    simp at h
  | x :: y :: ys => by
    rw [ris, Bool.and_eq_true, ris_iff]
    constructor
    · rintro ⟨h1, h2⟩ i a b ha hb
      cases i with
      | zero => simp at ha hb; subst ha hb; exact h1
      | succ i => exact h2 i a b (by simpa using ha) (by simpa using hb)
    · intro h
      exact ⟨h 0 x y rfl rfl, fun i a b ha hb => h (i + 1) a b (by simpa using ha) (by simpa using hb)⟩
theorem plc_cut {c : α → Int} {l : List α} {i : Nat} (hm : ∀ (j k : Nat) (y z : α), j < k → l[j]? = some y → l[k]? = some z → 0 ≤ c y → 0 < c z) (hlo : ∀ (j : Nat) (y : α), j < i → l[j]? = some y → c y < 0) (hhi : ∀ (j : Nat) (y : α), i ≤ j → l[j]? = some y → 0 ≤ c y) (hi : i ≤ l.length) :
    plc c l = (i, match l[i]? with | some y => c y == 0 | none => false) := by
  unfold plc
  cases hx : l[i]? with
  | none =>
    have hl : l.length = i := by have := List.getElem?_eq_none_iff.1 hx; omega
    have h1 : l.findIdx? (fun x => c x == 0) = none := findIdx?_none_of fun x hx => by
      obtain ⟨j, hj, rfl⟩ := List.mem_iff_getElem.1 hx
      have := hlo j _ (by omega) (List.getElem?_eq_getElem hj)
      simp; omega
    have h2 : l.findIdx (fun x => decide (0 < c x)) = l.length := findIdx_of_none (findIdx?_none_of fun x hx => by
      obtain ⟨j, hj, rfl⟩ := List.mem_iff_getElem.1 hx
      have := hlo j _ (by omega) (List.getElem?_eq_getElem hj)
      simp; omega)
    rw [h1]
    simp only
    rw [h2, hl]
  | some y =>
    have hy := hhi i y (Nat.le_refl _) hx
    by_cases h0 : c y = 0
    · have h1 : l.findIdx? (fun x => c x == 0) = some i := findIdx?_of hx (by simpa using h0) fun j z hj hz => by
        have := hlo j z hj hz
        simp; omega
      rw [h1]
      simp [h0]
    · have h1 : l.findIdx? (fun x => c x == 0) = none := findIdx?_none_of fun x hx2 => by
        obtain ⟨j, hj, rfl⟩ := List.mem_iff_getElem.1 hx2
        have hj2 := List.getElem?_eq_getElem hj
        rcases Nat.lt_trichotomy j i with h | h | h
        · have := hlo j _ h hj2
          simp; omega
        · subst h
          rw [hx] at hj2
          injection hj2 with hj2
          rw [← hj2]
          simpa using h0
        · have := hm i j _ _ h hx hj2 hy
          simp; omega
      have h2 : l.findIdx? (fun x => decide (0 < c x)) = some i := findIdx?_of hx (by simp; omega) fun j z hj hz => by
        have := hlo j z hj hz
        simp; omega
      rw [h1]
      simp only
      rw [(findIdx_of_some h2).1]
      have h3 : (c y == 0) = false := by simpa using h0
      rw [h3]
theorem plc_le (c : α → Int) (l : List α) : (plc c l).1 ≤ l.length := by
  unfold plc
  split
  · rename_i i h
    obtain ⟨_, x, h2, _⟩ := findIdx_of_some h
    exact Nat.le_of_lt (List.getElem?_eq_some_iff.1 h2).1
  · exact List.findIdx_le_length
theorem plc_lt {c : α → Int} {l : List α} (h : (plc c l).2 = true) : ∃ x, l[(plc c l).1]? = some x ∧ c x = 0 := by
  unfold plc at h ⊢
  split
  · rename_i i h1
    obtain ⟨_, x, h2, h3⟩ := findIdx_of_some h1
    exact ⟨x, h2, by simpa using h3⟩
  · rename_i h1
    rw [h1] at h
    cases h
/-- what is put -/
def putP (c : α → Int) (x : α) (l : List α) : List α := l.take (plc c l).1 ++ [x] ++ l.drop (if (plc c l).2 then (plc c l).1 + 1 else (plc c l).1)
/-- what is found -/
def getP (c : α → Int) (l : List α) : Option α := if (plc c l).2 then l[(plc c l).1]? else none
theorem plc_cons (c : α → Int) (y : α) (ys : List α) : plc c (y :: ys) = if c y = 0 then (0, true) else if (plc c ys).2 then ((plc c ys).1 + 1, true) else if 0 < c y then (0, false) else ((plc c ys).1 + 1, false) := by
  unfold plc
  rw [List.findIdx?_cons, List.findIdx_cons]
  by_cases h : c y = 0
  · simp [h]
  · have hb : (c y == 0) = false := by simpa using h
    rw [hb, if_neg h]
    cases hf : ys.findIdx? (fun x => c x == 0) with
    | some i => simp
    | none =>
      by_cases hg : 0 < c y
      · simp [hg]
      · simp [hg]
end

theorem cmpS_pos {a b : List UInt8} : 0 < cmpS a b ↔ ltS b a = true := by
  unfold cmpS
  split
  · rename_i h
    exact ⟨fun h2 => absurd h2 (by decide), fun h2 => by rw [ltS_asymm h] at h2; cases h2⟩
  · rename_i h
    split
    · rename_i h2
      subst h2
      exact ⟨fun h2 => absurd h2 (by decide), fun h2 => by rw [ltS_irrefl] at h2; cases h2⟩
    · rename_i h2
      exact ⟨fun _ => ltS_total h2 (by simpa using h), fun _ => by decide⟩
theorem cmpS_zero {a b : List UInt8} : cmpS a b = 0 ↔ a = b := by
  unfold cmpS
  split
  · rename_i h
    exact ⟨fun h2 => absurd h2 (by decide), fun h2 => by rw [h2, ltS_irrefl] at h; cases h⟩
  · split
    · rename_i h; exact ⟨fun _ => h, fun _ => rfl⟩
    · rename_i h; exact ⟨fun h2 => absurd h2 (by decide), fun h2 => absurd h2 h⟩
theorem cmpS_neg {a b : List UInt8} : cmpS a b < 0 ↔ ltS a b = true := by
  unfold cmpS
  split
  · rename_i h; exact ⟨fun _ => h, fun _ => by decide⟩
  · rename_i h
    split
    · exact ⟨fun h2 => absurd h2 (by decide), fun h2 => absurd h2 h⟩
    · exact ⟨fun h2 => absurd h2 (by decide), fun h2 => absurd h2 h⟩
theorem cmpI_pos {a b : Int} : 0 < cmpI a b ↔ b < a := by unfold cmpI; split <;> (try split) <;> omega
theorem cmpI_zero {a b : Int} : cmpI a b = 0 ↔ a = b := by unfold cmpI; split <;> (try split) <;> omega
theorem cmpI_neg {a b : Int} : cmpI a b < 0 ↔ a < b := by unfold cmpI; split <;> (try split) <;> omega
/-- the document's ways, by the same words -/
theorem getP_find (nm : List UInt8) : ∀ ls : List Lt, getP (fun x => cmpS x.nm nm) ls = findL nm ls
  | [] => rfl
  | y :: ys => by
    have ih := getP_find nm ys
    unfold getP at ih ⊢
    rw [plc_cons, findL_cons]
    by_cases h : y.nm = nm
    · have h0 : cmpS y.nm nm = 0 := cmpS_zero.2 h
      rw [if_pos h0, if_pos h]
      simp
    · have h0 : cmpS y.nm nm ≠ 0 := fun e => h (cmpS_zero.1 e)
      rw [if_neg h0, if_neg h, ← ih]
      cases hp : (plc (fun x => cmpS x.nm nm) ys).2 with
      | true => simp
      | false =>
        simp only [Bool.false_eq_true, if_false]
        split <;> simp
theorem getP_last (cl : Int) : ∀ os : List Oc, getP (fun x => cmpI x.cl cl) os = lastL cl os
  | [] => rfl
  | y :: ys => by
    have ih := getP_last cl ys
    unfold getP at ih ⊢
    rw [plc_cons, lastL_cons]
    by_cases h : y.cl = cl
    · have h0 : cmpI y.cl cl = 0 := cmpI_zero.2 h
      rw [if_pos h0, if_pos h]
      simp
    · have h0 : cmpI y.cl cl ≠ 0 := fun e => h (cmpI_zero.1 e)
      rw [if_neg h0, if_neg h, ← ih]
      cases hp : (plc (fun x => cmpI x.cl cl) ys).2 with
      | true => simp
      | false =>
        simp only [Bool.false_eq_true, if_false]
        split <;> simp
theorem findL_some_iff {nm : List UInt8} {ls : List Lt} : (findL nm ls).isSome = (plc (fun x => cmpS x.nm nm) ls).2 := by
  rw [← getP_find]
  unfold getP
  cases h : (plc (fun x => cmpS x.nm nm) ls).2 with
  | true =>
    obtain ⟨x, hx, _⟩ := plc_lt h
    simp [hx]
  | false => simp
theorem lastL_some_iff {cl : Int} {os : List Oc} : (lastL cl os).isSome = (plc (fun x => cmpI x.cl cl) os).2 := by
  rw [← getP_last]
  unfold getP
  cases h : (plc (fun x => cmpI x.cl cl) os).2 with
  | true =>
    obtain ⟨x, hx, _⟩ := plc_lt h
    simp [hx]
  | false => simp
theorem putP_lt (x : Lt) (ls : List Lt) : putP (fun y => cmpS y.nm x.nm) x ls = putL (findL x.nm ls).isSome x ls := by
  rw [findL_some_iff]
  induction ls with
  | nil => rfl
  | cons y ys ih =>
    unfold putP at ih ⊢
    rw [plc_cons]
    by_cases h : y.nm = x.nm
    · have h0 : cmpS y.nm x.nm = 0 := cmpS_zero.2 h
      rw [if_pos h0]
      simp [putL, h]
    · have h0 : cmpS y.nm x.nm ≠ 0 := fun e => h (cmpS_zero.1 e)
      rw [if_neg h0]
      cases hp : (plc (fun y => cmpS y.nm x.nm) ys).2 with
      | true =>
        rw [hp] at ih
        simp only [if_true] at ih ⊢
        simp only [putL, if_true, if_neg h, ← ih]
        simp
      | false =>
        rw [hp] at ih
        simp only [Bool.false_eq_true, if_false] at ih ⊢
        by_cases hg : 0 < cmpS y.nm x.nm
        · have hl := cmpS_pos.1 hg
          simp [hg, putL, hl]
        · have hl : ltS x.nm y.nm = false := by
            cases hl : ltS x.nm y.nm
            · rfl
            · exact absurd (cmpS_pos.2 hl) hg
          rw [if_neg hg]
          simp only [putL, Bool.false_eq_true, if_false, hl, ← ih]
          simp
theorem putP_oc (x : Oc) (ls : List Oc) : putP (fun y => cmpI y.cl x.cl) x ls = putO (lastL x.cl ls).isSome x ls := by
  rw [lastL_some_iff]
  induction ls with
  | nil => rfl
  | cons y ys ih =>
    unfold putP at ih ⊢
    rw [plc_cons]
    by_cases h : y.cl = x.cl
    · have h0 : cmpI y.cl x.cl = 0 := cmpI_zero.2 h
      rw [if_pos h0]
      simp [putO, h]
    · have h0 : cmpI y.cl x.cl ≠ 0 := fun e => h (cmpI_zero.1 e)
      rw [if_neg h0]
      cases hp : (plc (fun y => cmpI y.cl x.cl) ys).2 with
      | true =>
        rw [hp] at ih
        simp only [if_true] at ih ⊢
        simp only [putO, if_true, if_neg h, ← ih]
        simp
      | false =>
        rw [hp] at ih
        simp only [Bool.false_eq_true, if_false] at ih ⊢
        by_cases hg : 0 < cmpI y.cl x.cl
        · have hl := cmpI_pos.1 hg
          simp [hg, putO, hl]
        · have hl : ¬ x.cl < y.cl := fun hl => hg (cmpI_pos.2 hl)
          rw [if_neg hg]
          simp only [putO, Bool.false_eq_true, if_false, hl, ← ih]
          simp
/-- in a list that rises, how its elements compare to a key rises -/
theorem mono_lt {ls : List Lt} (h : ris (fun a b => ltS a.nm b.nm) ls = true) (nm : List UInt8) : ∀ (j k : Nat) (y z : Lt), j < k → ls[j]? = some y → ls[k]? = some z → 0 ≤ cmpS y.nm nm → 0 < cmpS z.nm nm := fun j k y z hj hy hz h0 => by
  have h1 : ltS y.nm z.nm = true := ris_pair (lt := fun a b : Lt => ltS a.nm b.nm) (fun a b c => ltS_trans) h hj hy hz
  rw [cmpS_pos]
  by_cases e : y.nm = nm
  · rw [← e]; exact h1
  · have h2 : ltS y.nm nm = false := by
      cases hl : ltS y.nm nm
      · rfl
      · have := cmpS_neg.2 hl; omega
    exact ltS_trans (ltS_total e h2) h1
theorem mono_oc {ls : List Oc} (h : ris (fun a b : Oc => decide (a.cl < b.cl)) ls = true) (c : Int) : ∀ (j k : Nat) (y z : Oc), j < k → ls[j]? = some y → ls[k]? = some z → 0 ≤ cmpI y.cl c → 0 < cmpI z.cl c := fun j k y z hj hy hz h0 => by
  have h1 : decide (y.cl < z.cl) = true := ris_pair (lt := fun a b : Oc => decide (a.cl < b.cl)) (fun a b c h h' => by simp only [decide_eq_true_eq] at h h' ⊢; omega) h hj hy hz
  simp at h1
  rw [cmpI_pos]
  have h2 : ¬ y.cl < c := fun hl => by have := cmpI_neg.2 hl; omega
  omega

/-- Elements of a slice. -/
theorem Sl.at_lt {w : World} {A : Option Addr} {n : Nat} {ls : List Lt} (h : Sl w 6 A n (ls.map Lt.cells)) {i : Nat} (hi : i < n) : ∃ g o x, A = some ⟨g, o, none⟩ ∧ ls[i]? = some x ∧ x ∈ ls ∧ ls.drop i = x :: ls.drop (i + 1) ∧ w.rangeAt g (o + i * 6) x.cells :=
  LgIn.lt_at (l := ⟨0, 0, ls, []⟩) (B := none) (m := 0) ⟨h, Sl.none_⟩ hi
theorem Sl.at_oc {w : World} {B : Option Addr} {n : Nat} {os : List Oc} (h : Sl w 3 B n (os.map Oc.cells)) {i : Nat} (hi : i < n) : ∃ g o x, B = some ⟨g, o, none⟩ ∧ os[i]? = some x ∧ x ∈ os ∧ os.drop i = x :: os.drop (i + 1) ∧ w.rangeAt g (o + i * 3) x.cells :=
  LgIn.oc_at (l := ⟨0, 0, [], os⟩) (A := none) (n := 0) ⟨Sl.none_, h⟩ hi
end

end Go.Proofs.YtfflkodgojiklaaGreatDoor
