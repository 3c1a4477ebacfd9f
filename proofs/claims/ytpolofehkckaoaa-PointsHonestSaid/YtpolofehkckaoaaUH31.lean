/-
  Joined: WpR.
-/
import Derived.Maps.RangeRun
import Derived.Maps.OwnSet
import Derived.OwnWalk
import Derived.Test.YtpolofehkckaoaaUH30
namespace Go.Proofs.Ytpolofehkckaoaa
open Go.RowKit
open Go.ChangeMaps (setBlock)

section
variable {κ : Type} {P : Program} {kt vt mt : TypeId} {enc : κ → Value} {ok : κ → Prop}
def RgIn (W : World) (b r : Nat) (es : Array MapEntry) (ck since c0 : Nat) (seen : Array Nat) : Prop := W.heap[b]? = some (.map es ck) ∧ (∀ x ∈ es.toList, x.born < ck) ∧ (es.toList.map (·.born)).Nodup ∧ W.heap[r]? = some (.mapIter (some b) since seen c0) ∧ (∀ x ∈ es.toList, x.born < since) ∧ since ≤ c0 ∧ since ≤ ck
/-- L: what the map holds; N: what is still to come -/
def MpRg (enc : κ → Value) (W : World) (b r : Nat) (L N : List (κ × Value)) : Prop := ∃ es ck since c0 seen, RgIn W b r es ck since c0 seen ∧ es.toList.map kvE = encK enc L ∧ (leftOf es seen).toList.map kvE = encK enc N
def rgLeft (W : World) (b r : Nat) : Nat :=
 match W.heap[b]?, W.heap[r]? with
 | some (.map es _), some (.mapIter _ _ seen _) => (leftOf es seen).size
 | _, _ => 0
variable {W W' : World} {b r : Nat} {L N : List (κ × Value)} {E : List (Value × Value)}
theorem MpRg.is (h : MpRg enc W b r L N) : MpIs W b (encK enc L) := by
 obtain ⟨es, ck, since, c0, seen, ⟨h1, h2, h3, _⟩, h4, _⟩ := h
 exact ⟨es, ck, h1, h4, h2, h3⟩
theorem MpRg.ne (h : MpRg enc W b r L N) : r ≠ b := by
 obtain ⟨es, ck, since, c0, seen, ⟨h1, _, _, h4, _⟩, _⟩ := h
 intro e
 rw [e, h1] at h4
 cases h4
theorem MpRg.lt (h : MpRg enc W b r L N) : r < W.heap.size := by
 obtain ⟨es, ck, since, c0, seen, ⟨_, _, _, h4, _⟩, _⟩ := h
 exact (Array.getElem?_eq_some_iff.1 h4).1
theorem MpRg.left (h : MpRg enc W b r L N) : rgLeft W b r = N.length := by
 obtain ⟨es, ck, since, c0, seen, ⟨h1, _, _, h4, _⟩, _, h6⟩ := h
 simp only [rgLeft, h1, h4]
 have := congrArg List.length h6
 simpa [encK] using this
theorem MpRg.keep (h : MpRg enc W b r L N) (hb : W'.heap[b]? = W.heap[b]?) (hr : W'.heap[r]? = W.heap[r]?) : MpRg enc W' b r L N := by
 obtain ⟨es, ck, since, c0, seen, ⟨h1, h2, h3, h4, h5⟩, h6⟩ := h
 exact ⟨es, ck, since, c0, seen, ⟨hb.trans h1, h2, h3, hr.trans h4, h5⟩, h6⟩
theorem MpRg.through (h : MpRg enc W b r L N) (hb : Below W.heap.size W W') : MpRg enc W' b r L N := h.keep (hb.block b h.is.lt) (hb.block r h.lt)
theorem MpRg.grown {row : Option Nat} (h : MpRg enc W b r L N) (hg : W.grownBy W' row) (h1 : some b ≠ row) (h2 : some r ≠ row) : MpRg enc W' b r L N := h.keep (hg.block b h.is.lt h1) (hg.block r h.lt h2)
theorem left_list (es : Array MapEntry) (seen : Array Nat) : (leftOf es seen).toList = es.toList.filter fun e => !seen.contains e.born := by
 unfold leftOf
 rw [← Array.toList_filter]
theorem enc_sub (hi : ∀ x y, enc x = enc y → x = y) {N L : List (κ × Value)} (h : (encK enc N).Sublist (encK enc L)) : N.Sublist L := by
 unfold encK at h
 obtain ⟨l', h1, h2⟩ := List.sublist_map_iff.1 h
 have e : N = l' := (List.map_inj_right (fun p q e9 => by
  have e1 := hi _ _ (congrArg Prod.fst e9)
  have e2 := congrArg Prod.snd e9
  exact Prod.ext e1 e2)).1 h2
 rw [e]
 exact h1
theorem MpRg.sub (hi : ∀ x y, enc x = enc y → x = y) (h : MpRg enc W b r L N) : N.Sublist L := by
 obtain ⟨es, ck, since, c0, seen, _, h6, h7⟩ := h
 refine enc_sub hi ?_
 rw [← h6, ← h7, left_list]
 exact List.Sublist.map _ List.filter_sublist
/-- 'range m' -/
theorem MpIs.range {k e : TypeId} (ht : P.underlying mt = some (.map k e)) (h : MpIs W b (encK enc L)) :
  ∃ W', (Instr.range mt (.map (some b))).run P W = .ok (.pointer (some ⟨W.heap.size, 0, none⟩)) W' ∧ MpRg enc W' b W.heap.size L L ∧ Below W.heap.size W W' := by
 obtain ⟨es, ck, hb, hk, h1, h2⟩ := h
 have hlt := (Array.getElem?_eq_some_iff.1 hb).1
 have hx : Below W.heap.size W (W.alloc (.mapIter (some b) ck #[] ck)) := (Below.refl _ W).alloc (Nat.le_refl _) _
 refine ⟨_, run_range_map W mt k e b es ck ht hb, ⟨es, ck, ck, ck, #[], ⟨(hx.block b hlt).trans hb, h1, h2, heap_alloc_new W _, h1, Nat.le_refl _, Nat.le_refl _⟩, hk, ?_⟩, hx⟩
 rw [left_list, List.filter_eq_self.2 (fun x _ => by simp)]
 exact hk
theorem filter_push {es : List MapEntry} {seen : Array Nat} {e : MapEntry} {j : Nat} (hn : (es.map (·.born)).Nodup) (hj : (es.filter fun x => !seen.contains x.born)[j]? = some e) :
  (es.filter fun x => !(seen.push e.born).contains x.born) = (es.filter fun x => !seen.contains x.born).eraseIdx j := by
 have h0 : (es.filter fun x => !(seen.push e.born).contains x.born) = (es.filter fun x => !seen.contains x.born).filter fun x => !(x.born == e.born) := by
  rw [List.filter_filter]
  refine List.filter_congr fun x _ => ?_
  rw [contains_push, Bool.not_or, Bool.and_comm]
 rw [h0]
 have hn2 : ((es.filter fun x => !seen.contains x.born).map (·.born)).Nodup := hn.sublist (List.Sublist.map _ List.filter_sublist)
 generalize (es.filter fun x => !seen.contains x.born) = l at hj hn2
 clear h0 hn
 induction l generalizing j with
 | nil => simp at hj
 | cons a l ih =>
  rw [List.map_cons, List.nodup_cons] at hn2
  cases j with
  | zero =>
   simp only [List.getElem?_cons_zero, Option.some.injEq] at hj
   subst hj
   rw [List.filter_cons, List.eraseIdx_cons_zero]
   simp only [beq_self_eq_true, Bool.not_true, Bool.false_eq_true, if_false]
   refine List.filter_eq_self.2 fun x hx => ?_
   have : x.born ≠ a.born := fun e9 => hn2.1 (List.mem_map.2 ⟨x, hx, e9⟩)
   simp [this]
  | succ j =>
   rw [List.getElem?_cons_succ] at hj
   have : a.born ≠ e.born := fun e9 => hn2.1 (List.mem_map.2 ⟨e, List.mem_of_getElem? hj, e9.symm⟩)
   rw [List.filter_cons, List.eraseIdx_cons_succ, ih hj hn2.2]
   simp [this]
/-- the step -/
theorem MpRg.next (h : MpRg enc W b r L N) (ty : TypeId) : (N = [] ∧ (Instr.next (.pointer (some ⟨r, 0, none⟩)) false ty).run P W = .ok (.tuple #[.bool false]) W) ∨
  ∃ N1 x v N2 W', N = N1 ++ (x, v) :: N2 ∧ (Instr.next (.pointer (some ⟨r, 0, none⟩)) false ty).run P W = .ok (.tuple #[.bool true, enc x, v]) W' ∧ MpRg enc W' b r L (N1 ++ N2) ∧ W.grownBy W' (some r) ∧ (Instr.entry (.pointer (some ⟨r, 0, none⟩))).run P W' = .ok (.tuple #[enc x, v]) W' := by
 have hne := h.ne
 have hrl := h.lt
 obtain ⟨es, ck, since, c0, seen, ⟨hb, h1, h2, hr, h5, h7, h8⟩, h6, h9⟩ := h
 rcases run_next_at (P := P) W ty r b since c0 seen es ck hr hb h5 h7 with ⟨h0, hrun⟩ | ⟨e, he, w1, hal, hrun⟩
 ·refine .inl ⟨?_, hrun⟩
  have := congrArg List.length h9
  simp [h0, encK] at this
  exact List.length_eq_zero_iff.1 this.symm
 ·obtain ⟨hem, hes⟩ := mem_left he
  obtain ⟨j, hj⟩ := List.getElem?_of_mem he
  have hNj : (encK enc N)[j]? = some (kvE e) := by rw [← h9, List.getElem?_map, hj]; rfl
  unfold encK at hNj
  rw [List.getElem?_map] at hNj
  obtain ⟨⟨x, v⟩, hx, hxe⟩ := Option.map_eq_some_iff.1 hNj
  have ek : e.key = enc x := (congrArg Prod.fst hxe).symm
  have ev : e.val = v := (congrArg Prod.snd hxe).symm
  have hjl : j < N.length := (List.getElem?_eq_some_iff.1 hx).1
  have hsp : N = N.take j ++ (x, v) :: N.drop (j + 1) := by
   have h10 := List.getElem?_eq_some_iff.1 hx
   rw [← h10.2, List.getElem_cons_drop, List.take_append_drop]
  have hr1 : w1.heap[r]? = some (.mapIter (some b) since seen c0) := by rcases hal with rfl | rfl <;> exact hr
  have hb1 : w1.heap[b]? = some (.map es ck) := by rcases hal with rfl | rfl <;> exact hb
  have hset := Go.MapKept.heap_set (o' := .mapIter (some b) since (seen.push e.born) ck) hr1
  have hb' : (setBlock w1 r (.mapIter (some b) since (seen.push e.born) ck)).heap[b]? = some (.map es ck) := (hset.2 b (fun e1 => hne e1.symm)).trans hb1
  have hen := run_entry_at (P := P) _ r b since seen es ck e hset.1 hb' hem h2
  rw [ek, ev] at hrun hen
  refine .inr ⟨N.take j, x, v, N.drop (j + 1), _, hsp, hrun, ⟨es, ck, since, ck, seen.push e.born, ⟨hb', h1, h2, hset.1, h5, h8, h8⟩, h6, ?_⟩, ?_, hen⟩
  ·rw [left_list] at hj h9 ⊢
   rw [filter_push h2 hj, map_erase, h9]
   unfold encK
   rw [← map_erase, List.eraseIdx_eq_take_drop_succ]
  ·rcases hal with rfl | rfl <;> exact ⟨rfl, rfl, rfl, by simp [setBlock], fun i _ hi => hset.2 i (fun e1 => hi (by rw [e1]))⟩
theorem filter_erase {α : Type} (f : α → Bool) : ∀ {l : List α} {i : Nat} {a : α}, l[i]? = some a → f a = false → (l.eraseIdx i).filter f = l.filter f
 | [], _, _, h, _ => by simp at h
 | x :: l, 0, a, h, hf => by
  simp only [List.getElem?_cons_zero, Option.some.injEq] at h
  subst h
  rw [List.eraseIdx_cons_zero, List.filter_cons, hf]
  rfl
 | x :: l, i + 1, a, h, hf => by
  rw [List.getElem?_cons_succ] at h
  rw [List.eraseIdx_cons_succ, List.filter_cons, List.filter_cons, filter_erase f h hf]
/-- 'delete(m, k)' of one that isn't still to come -/
theorem MpRg.drop [DecidableEq κ] (K : KeyT P kt enc ok) (hm : P.underlying mt = some (.map kt vt)) (h : MpRg enc W b r L N) (hL : ∀ p ∈ L, ok p.1) {x : κ} (hx : ok x) (hN : ∀ p ∈ encK enc N, p.1 ≠ enc x) (ty : TypeId) :
  ∃ W', (Builtin.delete_ #[mt, kt] ty #[.map (some b), enc x]).run P W = .ok (.tuple #[]) W' ∧ MpRg enc W' b r (delK x L) N ∧ W.grownBy W' (some b) := by
 have hne := h.ne
 have hlt := h.is.lt
 obtain ⟨es, ck, since, c0, seen, ⟨hb, h1, h2, hr, h5, h7, h8⟩, h6, h9⟩ := h
 have hget := Go.MapKept.run_getObj_map (P := P) hb
 have hset := fun o => Go.MapKept.run_setObj_map (P := P) (o := o) hb
 have hf := K.find x hx es.toList L h6 hL W
 have hc := fun em => K.chk em x W hx
 have hat : ∀ o : Obj, ({ W with heap := W.heap.setIfInBounds b o } : World).heap[b]? = some o := fun o => Array.getElem?_setIfInBounds_self_of_lt hlt
 have har : ∀ o : Obj, ({ W with heap := W.heap.setIfInBounds b o } : World).heap[r]? = W.heap[r]? := fun o => Array.getElem?_setIfInBounds_ne (fun e => hne e.symm)
 rcases fnd_spec x undef undef L 0 with ⟨g1, _, _, g4, _⟩ | ⟨i, u, g1, _, g3, _, g5, _⟩
 ·rw [g1] at hf
  rw [g4]
  refine ⟨_, ?_, ⟨es, ck, since, c0, seen, ⟨hat (.map es ck), h1, h2, (har _).trans hr, h5, h7, h8⟩, h6, h9⟩, grown_map hlt _⟩
  simp [Builtin.delete_, Sem.run_bind, run_underlying hm, hget, hc, hf, hset]
 ·rw [g1, Nat.zero_add] at hf
  rw [g5]
  obtain ⟨e, he, hek, _⟩ := at_kv h6 g3
  have hel : (es.eraseIdxIfInBounds i).toList = es.toList.eraseIdx i := by simp
  have hmem : ∀ y, y ∈ (es.eraseIdxIfInBounds i).toList → y ∈ es.toList := fun y hy => by rw [hel] at hy; exact List.mem_of_mem_eraseIdx hy
  refine ⟨_, ?_, ⟨es.eraseIdxIfInBounds i, ck, since, c0, seen, ⟨hat (.map (es.eraseIdxIfInBounds i) ck), fun y hy => h1 y (hmem y hy), ?_, (har _).trans hr, fun y hy => h5 y (hmem y hy), h7, h8⟩, ?_, ?_⟩, grown_map hlt _⟩
  ·simp [Builtin.delete_, Sem.run_bind, run_underlying hm, hget, hc, hf, hset]
  ·rw [hel, map_erase]
   exact h2.sublist (List.eraseIdx_sublist ..)
  ·rw [hel, map_erase, h6]
   unfold encK
   rw [map_erase]
  ·rw [left_list] at h9 ⊢
   rw [hel, filter_erase _ (a := e) (by rw [Array.getElem?_toList]; exact he) ?_, h9]
   cases hs : (!seen.contains e.born) with
   | false => rfl
   | true =>
    exfalso
    have h10 : e ∈ es.toList.filter fun x => !seen.contains x.born := List.mem_filter.2 ⟨List.mem_of_getElem? (by rw [Array.getElem?_toList]; exact he), hs⟩
    have h11 : kvE e ∈ encK enc N := by rw [← h9]; exact List.mem_map.2 ⟨e, h10, rfl⟩
    exact hN _ h11 hek
end

section
variable {κ : Type} {P : Program} {kt vt mt : TypeId} {enc : κ → Value} {ok : κ → Prop}
variable {ops : Array Oper} {rest : List Oper} {o : Oper} {a : Act} {w : World} {Q : Exit → Act → World → Prop} {b r : Nat} {L N : List (κ × Value)}
theorem wpList_range_k (hg : o.guard = none) (m : Operand) (t : TypeId) (hop : o.op = Op.range t m) {k e : TypeId} (ht : P.underlying t = some (.map k e)) (hm : a.eval m = .map (some b)) (h : MpIs w b (encK enc L))
  (hK : ∀ w', MpRg enc w' b w.heap.size L L → Below w.heap.size w w' → wpList P ops Q rest (a.put o.dst (.pointer (some ⟨w.heap.size, 0, none⟩))) w') : wpList P ops Q (o :: rest) a w :=
 wpList_plain hg fun _ hK' => by
  obtain ⟨w', hrun, r1, r2⟩ := h.range ht
  unfold Oper.wp execOp
  simp only [hop, hm, Sem.run_bind, hrun, Result.andThen_ok]
  exact hK' _ _ (hK w' r1 r2)
theorem wpList_next_k (hg : o.guard = none) (it : Operand) (hop : o.op = Op.next it false) (hit : a.eval it = .pointer (some ⟨r, 0, none⟩)) (h : MpRg enc w b r L N)
  (hDone : N = [] → wpList P ops Q rest (a.put o.dst (.tuple #[.bool false])) w)
  (hMore : ∀ N1 x v N2 w', N = N1 ++ (x, v) :: N2 → MpRg enc w' b r L (N1 ++ N2) → w.grownBy w' (some r) → (Instr.entry (.pointer (some ⟨r, 0, none⟩))).run P w' = .ok (.tuple #[enc x, v]) w' → wpList P ops Q rest (a.put o.dst (.tuple #[.bool true, enc x, v])) w') : wpList P ops Q (o :: rest) a w :=
 wpList_plain hg fun _ hK' => by
  unfold Oper.wp execOp
  rcases h.next (P := P) o.type with ⟨h0, hrun⟩ | ⟨N1, x, v, N2, w', e, hrun, r1, r2, r3⟩
  ·simp only [hop, hit, Sem.run_bind, hrun, Result.andThen_ok]
   exact hK' _ _ (hDone h0)
  ·simp only [hop, hit, Sem.run_bind, hrun, Result.andThen_ok]
   exact hK' _ _ (hMore N1 x v N2 w' e r1 r2 r3)
end

end Go.Proofs.Ytpolofehkckaoaa
