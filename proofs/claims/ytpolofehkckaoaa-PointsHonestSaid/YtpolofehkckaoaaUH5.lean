/-
  Joined: El2.
-/
import Derived.Laws.AppendOwn
import Derived.Test.YtpolofehkckaoaaUH4
namespace Go.Proofs.Ytpolofehkckaoaa
open Go.RowKit

section
variable {k : Nat}
theorem flatten_cells {w : World} {g : Nat} : ∀ (ys : List (List Value)) (o : Nat), (∀ y ∈ ys, y.length = k) → (∀ (i : Nat) (cs : List Value), ys[i]? = some cs → w.rangeAt g (o + i * k) cs) → ∀ (j : Nat) (u : Value), ys.flatten[j]? = some u → w.cell? ⟨g, o + j, none⟩ = some u
 | [], _, _, _, _, _, h => by simp at h
 | y :: ys, o, hk, hc, j, u, h => by
  have hy := hk y (List.mem_cons_self ..)
  rw [List.flatten_cons] at h
  rcases Nat.lt_or_ge j k with hj | hj
  ·rw [List.getElem?_append_left (by omega)] at h
   have := hc 0 y rfl j u h
   simpa using this
  ·rw [List.getElem?_append_right (by omega), hy] at h
   have := flatten_cells ys (o + k) (fun z hz => hk z (List.mem_cons_of_mem _ hz)) (fun i cs hi => by
    have h9 := hc (i + 1) cs (by simpa using hi)
    rw [show o + (i + 1) * k = o + k + i * k by rw [Nat.add_mul]; omega] at h9
    exact h9) (j - k) u h
   rw [show o + k + (j - k) = o + j by omega] at this
   exact this
end

section
variable {P : Program} {s e : TypeId} {k bytes : Nat} {z : Value}
/-- append(v, x...) -/
theorem El.run_append_sl (E : El P s e k bytes z) (w : World) (ty : TypeId) (B : Nat) (v : Value) (xs : List (List Value)) (hown : Os w B e k v xs) (A : Option Addr) (m c : Nat) (ys : List (List Value)) (hy : Sl w k A m ys) (hyk : ∀ y ∈ ys, y.length = k) (h1 : ∀ y ∈ ys, ∀ u ∈ y, u.oneCell' = true)
  (hn : xs.length + m ≤ 1000000) (hB : B ≤ w.heap.size) :
  ∃ v' w', (Builtin.append_ #[s, s] ty #[v, .slice A m c]).run P w = .ok v' w' ∧ Os w' B e k v' (xs ++ ys) ∧ w.grownBy w' v.ownBlock := by
 obtain ⟨i, hi, h2⟩ := Option.map_eq_some_iff.1 E.info
 simp only [Prod.mk.injEq] at h2
 have hp := E.pos
 have hbs := E.bsm
 have hall : ∀ y ∈ xs ++ ys, y.length = k := fun y hy2 => (List.mem_append.1 hy2).elim (hown.2 y) (hyk y)
 rcases A with _ | ad
 ·obtain rfl : m = 0 := by
   rcases Nat.eq_zero_or_pos m with h0 | h0
   ·exact h0
   ·obtain ⟨_, _, h, _⟩ := hy.2 h0
    cases h
  obtain rfl : ys = [] := List.eq_nil_of_length_eq_zero hy.1
  refine ⟨v, w, ?_, by simpa using hown, World.grownBy.refl w _⟩
  rcases hown.1.2 with ⟨rfl, _⟩ | ⟨g, cap, cur, rfl, _, _, hnc, _⟩
  ·simp [Builtin.append_, run_underlying E.sl, sizeOf, typeInfo, hi, Builtin.lenOf, Builtin.firstCells]
  ·simp [Builtin.append_, run_underlying E.sl, sizeOf, typeInfo, hi, Builtin.lenOf, Builtin.firstCells, hnc, storeCells]
 ·have hmul : (xs.length + m) * bytes ≤ 1000000 * 100000 := Nat.mul_le_mul hn hbs
  have hfl := flatten_len ys hyk
  obtain ⟨v', w', hr, h3, h4, _⟩ := run_append_own (P := P) w B s ty e i z k bytes E.sl hi h2.1 h2.2.1 h2.2.2 E.zero hp v xs.length xs.flatten hown.1 ad m c ys.flatten (by rw [hfl, hy.1]) (fun j u hu => by
   have hj : 0 < m := by
    rcases Nat.eq_zero_or_pos m with h0 | h0
    ·subst h0
     obtain rfl : ys = [] := List.eq_nil_of_length_eq_zero hy.1
     simp at hu
    ·exact h0
   obtain ⟨g, o, ea, hc⟩ := hy.2 hj
   injection ea with ea
   subst ea
   have e2 : (⟨g, o, none⟩ : Addr).add j = ⟨g, o + j, none⟩ := by unfold Addr.add; split <;> simp_all
   rw [e2]
   exact flatten_cells ys o hyk hc j u hu) (fun u hu => by
   obtain ⟨y, hy2, hu2⟩ := List.mem_flatten.1 hu
   exact h1 y hy2 u hu2) (by unfold maxLen; omega) (by omega) hB
  refine ⟨v', w', hr, ⟨?_, hall⟩, h4⟩
  rw [List.length_append, List.flatten_append, hy.1]
  exact h3
theorem wpList_append_sl {ops : Array Oper} {rest : List Oper} {o : Oper} {a : Act} {w : World} {Q : Exit → Act → World → Prop} (hgd : o.guard = none) (E : El P s e k bytes z) (sl x : Operand)
  (ho : o.op = .call { callee := .builtin .append, args := #[sl, x], argTypes := #[s, s] })
  (B : Nat) (v : Value) (xs : List (List Value)) (hs : a.eval sl = v) (hown : Os w B e k v xs) (A : Option Addr) (m c : Nat) (ys : List (List Value)) (hx : a.eval x = .slice A m c) (hy : Sl w k A m ys) (hyk : ∀ y ∈ ys, y.length = k) (h1 : ∀ y ∈ ys, ∀ u ∈ y, u.oneCell' = true)
  (hn : xs.length + m ≤ 1000000) (hB : B ≤ w.heap.size)
  (h : ∀ v' w', Os w' B e k v' (xs ++ ys) → w.grownBy w' v.ownBlock → wpList P ops Q rest (a.put o.dst v') w') : wpList P ops Q (o :: rest) a w := by
 refine wpList_plain hgd fun K hK => ?_
 obtain ⟨v', w', hrun, h2, h3⟩ := E.run_append_sl w o.type B v xs hown A m c ys hy hyk h1 hn hB
 unfold Oper.wp execOp
 simp only [ho, resolve, invoke, builtin, Sem.run_bind, Sem.run_pure, Result.andThen_ok, List.map_toArray, List.map_cons, List.map_nil, hs, hx, hrun]
 exact hK _ _ (h v' w' h2 h3)
/-- append(nil, make([]T, m)...), m at least 1: a new row. -/
theorem El.run_append_zeros (E : El P s e k bytes z) (w : World) (ti ty : TypeId) (hti : P.underlying ti = some (.int .i64)) (m : Nat) (hpos : 0 < m) (hm : m ≤ 1000000) :
  ∃ cap w', (Builtin.append_ #[s, ti] ty #[.slice none 0 0, .int .i64 (m : Int)]).run P w = .ok (.slice (some ⟨w.heap.size, 0, none⟩) m cap) w' ∧ Os w' w.heap.size e k (.slice (some ⟨w.heap.size, 0, none⟩) 0 cap) [] ∧ m ≤ cap ∧ Below w.heap.size w w' := by
 obtain ⟨i, hi, h2⟩ := Option.map_eq_some_iff.1 E.info
 simp only [Prod.mk.injEq] at h2
 obtain ⟨hz, hsize, hby⟩ := h2
 have hp := E.pos
 have hbs := E.bsm
 have hw : IntKind.i64.wrap (m : Int) = m := IntWalk.i64_in _ (by omega)
 have h0 : ¬ ((m : Int) < 0) := by omega
 have hm0 : m ≠ 0 := by omega
 have hks := E.small
 have hmul : m * bytes ≤ 1000000 * 100000 := Nat.mul_le_mul hm hbs
 have h48 : ¬ (281474976710656 < (m : Int) * (bytes : Int)) := by
  rw [← Int.natCast_mul]
  omega
 have hmk : ¬ (m * k = 0) := fun h9 => by rcases Nat.mul_eq_zero.1 h9 with h9 | h9 <;> omega
 have hge := grownCap_ge w m 0 e
 have hcm : grownCap w m 0 e ≤ maxLen := grownCap_le_maxLen w m 0 e (by simp only [maxLen]; omega)
 have hfit := growslice_fits (need := m) (old := 0) (bytes := bytes) (by omega) (by omega)
 have hfit' : ¬ (281474976710656 < Builtin.nextslicecap m 0 * bytes) := by omega
 have h63 : ¬ (9223372036854775807 < (m : Int)) := by omega
 have hold : ∀ W, (Builtin.firstCells k 0 (.slice none 0 0)).run P W = .ok #[] W := fun W => run_firstCells_none W k 0 0 0
 obtain ⟨row, hrow⟩ : ∃ row, row = Builtin.zeroCells z.cells m ++ Builtin.zeroCells z.cells (grownCap w m 0 e - m) := ⟨_, rfl⟩
 have hrs : row.size = grownCap w m 0 e * k := by
  rw [hrow]
  simp only [Array.size_append, size_zeroCells, E.zero]
  rw [← Nat.add_mul]
  congr 1
  omega
 refine ⟨grownCap w m 0 e, w.drew.alloc (.cells row e), ?_, ⟨⟨by simp, .inr ⟨w.heap.size, _, row, rfl, Nat.le_refl _, heap_alloc_new w.drew _, Nat.zero_le _, hcm, hrs, by simp⟩⟩, fun x hx => by cases hx⟩, hge, ⟨rfl, rfl, rfl, by simp, fun q hq => Below.heap_alloc w.drew _ q hq⟩⟩
 simp [Builtin.append_, run_underlying E.sl, run_underlying hti, sizeOf, typeInfo, zeroValue, hi, hz, hsize, hby, asInt, asIntOf, hw, h0, h48, hmk, hm0, hold, hfit', h63, Question.forced, newRow, hrow, grownCap]
theorem wpList_append_zeros {ops : Array Oper} {rest : List Oper} {o : Oper} {a : Act} {w : World} {Q : Exit → Act → World → Prop} (hgd : o.guard = none) (E : El P s e k bytes z) (ti : TypeId) (hti : P.underlying ti = some (.int .i64)) (sl x : Operand)
  (ho : o.op = .call { callee := .builtin .append, args := #[sl, x], argTypes := #[s, ti] })
  (hs : a.eval sl = .slice none 0 0) (m : Nat) (hx : a.eval x = .int .i64 (m : Int)) (hpos : 0 < m) (hm : m ≤ 1000000)
  (h : ∀ cap w', Os w' w.heap.size e k (.slice (some ⟨w.heap.size, 0, none⟩) 0 cap) [] → m ≤ cap → Below w.heap.size w w' → wpList P ops Q rest (a.put o.dst (.slice (some ⟨w.heap.size, 0, none⟩) m cap)) w') : wpList P ops Q (o :: rest) a w := by
 refine wpList_plain hgd fun K hK => ?_
 obtain ⟨cap, w', hrun, h2, h3, h4⟩ := E.run_append_zeros w ti o.type hti m hpos hm
 unfold Oper.wp execOp
 simp only [ho, resolve, invoke, builtin, Sem.run_bind, Sem.run_pure, Result.andThen_ok, List.map_toArray, List.map_cons, List.map_nil, hs, hx, hrun]
 exact hK _ _ (h cap w' h2 h3 h4)
end

theorem yields_build {P : Program} {ops : Array Oper} {S : World → Prop} {op : Oper} {a : Act} (hw : Region.wanted op (yielded ops a.tmps) = true) (t : TypeId) (parts : Array (Nat × Operand)) (ho : op.op = .build t parts)
  (vs : Array (Nat × Value)) (hx : parts.map (fun (i, x) => (i, a.eval x)) = vs) (v : Value) (hS : ∀ w, S w → (Instr.build t vs).run P w = .ok v w) : YieldsIf P ops S op v a :=
 .inl ⟨hw, fun w hw' => by
  unfold execOp
  simp only [ho, hx, Sem.run_bind, hS w hw', Result.andThen_ok]
  rfl⟩
theorem step_store_cell {P : Program} {w : World} {ops : Array Oper} {o : Oper} {a : Act} {K : Act → World → Prop} {Q : Exit → Act → World → Prop} {E : Prop} (hw : Region.wanted o (yielded ops a.tmps) = true) (ty : TypeId) (x y : Operand) (ho : o.op = .store ty x y)
  (g i : Nat) (hx : a.eval x = .pointer (some ⟨g, i, none⟩)) (v : Value) (hy : a.eval y = v) (hv : v.cells = #[v]) (hv1 : v.oneCell' = true) (hsz : ∀ w, (sizeOf ty).run P w = .ok 1 w) (t : TypeId) (cs : List Value) (hb : Blk w g t cs) (hi : i < cs.length)
  (h : ∀ w', Blk w' g t (cs.set i v) → w.grownBy w' (some g) → K (a.put o.dst undef) w') : if Region.wanted o (yielded ops a.tmps) = true then Oper.wp P o a w K Q else E := by
 rw [if_pos hw]
 have hc := hb.cellAt (List.getElem?_eq_getElem hi)
 have hf := hb.frozen i
 have hrun : (Instr.storeAt ty (.pointer (some ⟨g, i, none⟩)) v).run P w = .ok () (w.setCell ⟨g, i, none⟩ v) := by
  simp only [Instr.storeAt, Instr.sureAddr, storeVar, Sem.run_bind, Sem.run_pure, Result.andThen_ok]
  have ha : (⟨g, i, none⟩ : Addr).add 0 = ⟨g, i, none⟩ := by simp [Addr.add]
  have hst := run_store P w ⟨g, i, none⟩ v .plain hv1
  simp only [hc, hf, Bool.false_eq_true, if_false] at hst
  simp [hv, storeCells, ha, hsz, hst]
 unfold Oper.wp execOp
 simp only [ho, hx, hy, Sem.run_bind, hrun, Result.andThen_ok]
 exact h _ (hb.set_ i v) (only_set w g i v)

end Go.Proofs.Ytpolofehkckaoaa
