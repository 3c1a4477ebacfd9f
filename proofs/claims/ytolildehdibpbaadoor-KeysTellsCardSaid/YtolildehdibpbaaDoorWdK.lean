/-
  append of one word onto a row of the call's own: what the old block's first cells hold stands. No walk here.
-/
import Derived.Test.YtolildehdibpbaaDoorWd
namespace Go.Proofs.YtolildehdibpbaaDoor
open Go.RowKit

theorem run_append_keep {P : Program} (w : World) (base : Nat) (t ty : TypeId) (i : TypeInfo) (ht : P.underlying t = some (.slice 46)) (hi : P.info? 46 = some i) (hz : i.zero = some (.int .u32 0)) (hsize : i.size = 1) (hby : i.bytes = 4)
    (gw n cap : Nat) (ws : List UInt32) (hown : w.ownsRow base 46 1 (.slice (some ⟨gw, 0, none⟩) n cap) n (cw ws)) (g c : Nat) (u : UInt32) (hc : w.cell? ⟨g, 0, none⟩ = some (c32 u)) (hn : n ≤ 1000000) (hbase : base ≤ w.heap.size) :
    ∃ A' c' w', (Builtin.append_ #[t, t] ty #[.slice (some ⟨gw, 0, none⟩) n cap, .slice (some ⟨g, 0, none⟩) 1 c]).run P w = .ok (.slice A' (n + 1) c') w' ∧ w'.ownsRow base 46 1 (.slice A' (n + 1) c') (n + 1) (cw (ws ++ [u])) ∧
      w.grownBy w' (some gw) ∧ (∀ j, j < n → w'.cell? ⟨gw, j, none⟩ = w.cell? ⟨gw, j, none⟩) := by
  have hnews : ∀ j y, ([c32 u] : List Value)[j]? = some y → w.cell? ((⟨g, 0, none⟩ : Addr).add j) = some y := fun j y hy => by
    match j, hy with
    | 0, hy =>
      simp at hy
      subst hy
      simpa [Addr.add] using hc
  have hone : ∀ y ∈ ([c32 u] : List Value), y.oneCell' = true := fun y hy => by simp at hy; subst hy; rfl
  have hwl : ws.length = n := by have := hown.1; simpa [cw] using this
  obtain ⟨A0, c0, e0, hnc, hcm⟩ := own32_form hown
  injection e0 with _ _ e0
  subst e0
  by_cases hroom : n + 1 ≤ cap
  · obtain ⟨w', hr, h2, h3⟩ := run_append_fits (P := P) w base t ty 46 i 1 ht hi hsize gw n cap (cw ws) hown ⟨g, 0, none⟩ 1 c [c32 u] rfl hnews hone hroom
    rw [show cw ws ++ [c32 u] = cw (ws ++ [u]) from cw_append ws [u]] at h2
    refine ⟨_, _, w', hr, h2, h3, fun j hj => ?_⟩
    have h4 := h2.cellAt (g := gw) j (by omega)
    have h5 := hown.cellAt (g := gw) j (by omega)
    rw [h4, h5, cw_get, cw_get, List.getElem?_append_left (by omega)]
  · have hcells : ∀ j y, (cw ws)[j]? = some y → w.cell? ((⟨gw, 0, none⟩ : Addr).add j) = some y := fun j y hy => by
      have hj : j < n := by have := (List.getElem?_eq_some_iff.1 hy).1; rw [cw_length] at this; omega
      have ea : (⟨gw, 0, none⟩ : Addr).add j = ⟨gw, j, none⟩ := by unfold Addr.add; split <;> simp_all
      rw [ea, hown.cellAt (g := gw) j (by omega), hy]
    have hold : (Builtin.firstCells i.size n (.slice (some ⟨gw, 0, none⟩) n cap)).run P w.drew = .ok (cw ws).toArray w.drew :=
      run_firstCells_some w.drew i.size n ⟨gw, 0, none⟩ n cap (cw ws) (by rw [cw_length, hwl, hsize, Nat.mul_one]) hcells
    have hsrc : Src P i.size t (.slice (some ⟨g, 0, none⟩) 1 c) 1 [c32 u] w := Src.ofSlice w ht ⟨g, 0, none⟩ 1 c [c32 u] (by rw [hsize]; rfl) hnews hone
    have hrun := run_append_grow_src (P := P) w t t ty 46 i (.int .u32 0) ht hi hz (some ⟨gw, 0, none⟩) n cap (cw ws) hold (.slice (some ⟨g, 0, none⟩) 1 c) 1 [c32 u] hsrc (by omega) (by omega)
      (by rw [hby]; exact growslice_fits (by omega) (by omega))
    have h2 := run_append_own (P := P) w base t ty 46 i (.int .u32 0) 1 4 ht hi hz hsize hby rfl (by decide) (.slice (some ⟨gw, 0, none⟩) n cap) n (cw ws) hown ⟨g, 0, none⟩ 1 c [c32 u] rfl hnews hone (by unfold maxLen; omega) (by omega) hbase
    obtain ⟨v', w', hr, h3, h4, _⟩ := h2
    rw [hrun] at hr
    injection hr with hv hw
    subst hw; subst hv
    refine ⟨_, _, _, hrun, by rw [← cw_append]; exact h3, h4, fun j hj => ?_⟩
    have hlt : gw < w.heap.size := (hown.lt gw rfl).2
    exact World.cell?_alloc_lt w.drew _ ⟨gw, j, none⟩ hlt

theorem step_append_keep {P : Program} {ops : Array Oper} {o : Oper} {a : Act} {w : World} {K : Act → World → Prop} {R : Exit → Act → World → Prop} {E : Prop} (hw : Region.wanted o (yielded ops a.tmps) = true) (s x : Operand) (t : TypeId)
    (ho : o.op = .call { callee := .builtin .append, args := #[s, x], argTypes := #[t, t] })
    (base : Nat) (i : TypeInfo) (ht : P.underlying t = some (.slice 46)) (hi : P.info? 46 = some i) (hz : i.zero = some (.int .u32 0)) (hsize : i.size = 1) (hby : i.bytes = 4)
    (gw n cap : Nat) (ws : List UInt32) (hs : a.eval s = .slice (some ⟨gw, 0, none⟩) n cap) (hown : w.ownsRow base 46 1 (.slice (some ⟨gw, 0, none⟩) n cap) n (cw ws)) (g c : Nat) (u : UInt32) (hx : a.eval x = .slice (some ⟨g, 0, none⟩) 1 c) (hc : w.cell? ⟨g, 0, none⟩ = some (c32 u)) (hn : n ≤ 1000000) (hbase : base ≤ w.heap.size)
    (h : ∀ A' c' w', w'.ownsRow base 46 1 (.slice A' (n + 1) c') (n + 1) (cw (ws ++ [u])) → w.grownBy w' (some gw) → (∀ j, j < n → w'.cell? ⟨gw, j, none⟩ = w.cell? ⟨gw, j, none⟩) → K (a.put o.dst (.slice A' (n + 1) c')) w') :
    if Region.wanted o (yielded ops a.tmps) = true then Oper.wp P o a w K R else E := by
  rw [if_pos hw]
  obtain ⟨A', c', w', hrun, h2, h3, h4⟩ := run_append_keep (P := P) w base t o.type i ht hi hz hsize hby gw n cap ws hown g c u hc hn hbase
  unfold Oper.wp execOp
  simp only [ho, resolve, invoke, builtin, Sem.run_bind, Sem.run_pure, Result.andThen_ok, List.map_toArray, List.map_cons, List.map_nil, hs, hx, hrun]
  exact h A' c' w' h2 h3 h4

theorem step_build_one {P : Program} {ops : Array Oper} {o : Oper} {a : Act} {w : World} {K : Act → World → Prop} {Q : Exit → Act → World → Prop} {E : Prop} (hw : Region.wanted o (yielded ops a.tmps) = true) (t : TypeId) (x : Operand) (ho : o.op = .buildSlice t 1 #[(0, x)])
    (v : Value) (hx : a.eval x = v) (r : Value) (w' : World) (hrun : (Instr.buildSlice t 1 #[(0, v)]).run P w = .ok r w') (h : K (a.put o.dst r) w') : if Region.wanted o (yielded ops a.tmps) = true then Oper.wp P o a w K Q else E := by
  rw [if_pos hw]
  unfold Oper.wp execOp
  simp only [ho, Sem.run_bind, List.map_toArray, List.map_cons, List.map_nil, hx, hrun, Result.andThen_ok]
  exact h
theorem Tryd.build_one (v : Int) (w : World) : (Instr.buildSlice 52 1 #[(0, .int .u32 v)]).run Tryd.prog w = .ok (.slice (some ⟨w.heap.size, 0, none⟩) 1 1) (w.alloc (.cells #[.int .u32 v] 46)) := by kernel_rfl
theorem w32_add4 (a b c d : UInt32) : (n32 a + n32 b + n32 c + n32 d) % 4294967296 = n32 (a + b + c + d) := by
  rw [← w32_add, ← w32_add, ← w32_add]
  omega
theorem rnd_list (k w : UInt32) (s : S8) : (rnd k w s).list = [s.h + three s.e 6 11 25 + choose s.e s.f s.g + k + w + (three s.a 2 13 22 + most s.a s.b s.c), s.a, s.b, s.c, s.d + (s.h + three s.e 6 11 25 + choose s.e s.f s.g + k + w), s.e, s.f, s.g] := rfl
theorem w32_addW (x y : UInt32) : IntKind.u32.wrap (n32 x + n32 y) = n32 (x + y) := by
  rw [IntKind.wrap_u32', w32_add]
theorem cell_alloc {w : World} {g j : Nat} {v : Value} {o : Obj} (h : w.cell? ⟨g, j, none⟩ = some v) : (w.alloc o).cell? ⟨g, j, none⟩ = some v :=
  (World.cell?_alloc_lt w o ⟨g, j, none⟩ (World.block_lt_of_cell? w ⟨g, j, none⟩ h)).trans h
theorem load_one {w : World} {p : Addr} {v : Int} (h : w.cell? p = some (.int .u32 v)) : (Instr.loadAt 46 (.pointer (some p))).run Tryd.prog w = .ok (.int .u32 v) w := by
  have hag : (isAgg 46).run Tryd.prog w = .ok false w := by kernel_rfl
  simp only [Instr.loadAt, Instr.sureAddr, loadVar, Sem.run_bind, Sem.run_pure, hag, Result.andThen_ok, Bool.false_eq_true, if_false]
  simp [h]

/-- 'append(s, x...)' of words, at least one, as the walk takes it. -/
theorem wpList_append_ws {P : Program} {w : World} {ops : Array Oper} {rest : List Oper} {o : Oper} {a : Act} {Q : Exit → Act → World → Prop} (hgd : o.guard = none) (s x : Operand) (t : TypeId)
    (ho : o.op = .call { callee := .builtin .append, args := #[s, x], argTypes := #[t, t] })
    (base : Nat) (i : TypeInfo) (ht : P.underlying t = some (.slice 46)) (hi : P.info? 46 = some i) (hz : i.zero = some (.int .u32 0)) (hsize : i.size = 1) (hby : i.bytes = 4)
    (v : Value) (n : Nat) (ws : List UInt32) (hs : a.eval s = v) (hown : w.ownsRow base 46 1 v n (cw ws))
    (R : Nat → Prop) (A : Option Addr) (m c : Nat) (us : List UInt32) (hx : a.eval x = .slice A m c) (hr : Wd w R A m us) (hm : 0 < m) (hn : n + m ≤ 1000000) (hbase : base ≤ w.heap.size)
    (h : ∀ g' cap w', w'.ownsRow base 46 1 (.slice (some ⟨g', 0, none⟩) (n + m) cap) (n + m) (cw (ws ++ us)) → w.grownBy w' v.ownBlock → n + m ≤ cap → cap ≤ maxLen → wpList P ops Q rest (a.put o.dst (.slice (some ⟨g', 0, none⟩) (n + m) cap)) w') : wpList P ops Q (o :: rest) a w := by
  obtain ⟨g, og, rfl, _, hc⟩ := hr.2 hm
  refine wpList_append_lies w hgd s x t ho base 46 i (.int .u32 0) 1 4 ht hi hz hsize hby rfl (by decide) v n (cw ws) hs hown ⟨g, og, none⟩ m c (cw us) hx (by rw [cw_length, hr.1, Nat.mul_one])
    (fun j y hy => ?_) cw_one hm (by unfold maxLen; omega) (by omega) hbase _ rfl (fun g' cap w' h1 h2 h3 _ => ?_)
  · rw [cw_get] at hy
    obtain ⟨u, hu, rfl⟩ := Option.map_eq_some_iff.1 hy
    have ea : (⟨g, og, none⟩ : Addr).add j = ⟨g, og + j, none⟩ := by unfold Addr.add; split <;> simp_all
    rw [ea]
    exact hc j u hu
  · obtain ⟨A', c', e, h4, h5⟩ := own32_form h1
    injection e with _ _ e
    subst e
    exact h g' cap w' (by rw [← cw_append]; exact h1) h2 h4 h5
theorem own_one32 (w : World) (x : UInt32) {base : Nat} (hb : base ≤ w.heap.size) : (w.alloc (.cells #[.int .u32 (n32 x)] 46)).ownsRow base 46 1 (.slice (some ⟨w.heap.size, 0, none⟩) 1 1) 1 (cw [x]) := by
  have h : (w.alloc (.cells #[.int .u32 (n32 x)] 46)).ownsRow w.heap.size 46 1 (.slice (some ⟨w.heap.size, 0, none⟩) 1 1) 1 (cw [x]) := ⟨rfl, .inr ⟨w.heap.size, 1, _, rfl, Nat.le_refl _, heap_alloc_new w _, Nat.le_refl _, by unfold maxLen; omega, rfl, rfl⟩⟩
  refine ⟨h.1, ?_⟩
  rcases h.2 with h2 | ⟨g, cap, cur, hv, hbg, r⟩
  · exact .inl h2
  · exact .inr ⟨g, cap, cur, hv, Nat.le_trans hb hbg, r⟩
theorem own_made32 (w : World) : (w.alloc (.cells #[] 46)).ownsRow w.heap.size 46 1 (.slice (some ⟨w.heap.size, 0, none⟩) 0 0) 0 (cw []) := World.ownsRow_made w #[] 0 (Nat.le_refl _) (Nat.zero_le _) rfl

/-- 'append(s, x)' of one word, nil let in, at a step of a region that draws. -/
theorem step_append_w {P : Program} {ops : Array Oper} {o : Oper} {a : Act} {w : World} {K : Act → World → Prop} {R : Exit → Act → World → Prop} {E : Prop} (hgd : o.guard = none) (s x : Operand) (t : TypeId)
    (ho : o.op = .call { callee := .builtin .append, args := #[s, x], argTypes := #[t, t] })
    (base : Nat) (i : TypeInfo) (ht : P.underlying t = some (.slice 46)) (hi : P.info? 46 = some i) (hz : i.zero = some (.int .u32 0)) (hsize : i.size = 1) (hby : i.bytes = 4)
    (v : Value) (n : Nat) (ws : List UInt32) (hs : a.eval s = v) (hown : w.ownsRow base 46 1 v n (cw ws)) (g c : Nat) (u : UInt32) (hx : a.eval x = .slice (some ⟨g, 0, none⟩) 1 c) (hc : w.cell? ⟨g, 0, none⟩ = some (c32 u)) (hn : n ≤ 1000000) (hbase : base ≤ w.heap.size)
    (h : ∀ g' cap w', w'.ownsRow base 46 1 (.slice (some ⟨g', 0, none⟩) (n + 1) cap) (n + 1) (cw (ws ++ [u])) → w.grownBy w' v.ownBlock → K (a.put o.dst (.slice (some ⟨g', 0, none⟩) (n + 1) cap)) w') :
    if Region.wanted o (yielded ops a.tmps) = true then Oper.wp P o a w K R else E :=
  step_append_lies w hgd s x t ho base 46 i (.int .u32 0) 1 4 ht hi hz hsize hby rfl (by decide) v n (cw ws) hs hown ⟨g, 0, none⟩ 1 c [c32 u] hx rfl
    (fun j y hy => by
      match j, hy with
      | 0, hy =>
        simp at hy
        subst hy
        simpa [Addr.add] using hc)
    (fun y hy => by simp at hy; subst hy; rfl) (by omega) (by unfold maxLen; omega) (by omega) hbase _ rfl (fun g' cap w' h1 h2 _ _ => h g' cap w' (by rw [← cw_append]; exact h1) h2)

end Go.Proofs.YtolildehdibpbaaDoor
