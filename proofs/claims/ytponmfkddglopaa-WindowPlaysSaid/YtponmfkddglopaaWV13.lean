/-
  Joined: SlM.
-/
import Derived.Test.YtponmfkddglopaaWV11
import Derived.Test.YtponmfkddglopaaWV12
namespace Go.Proofs.Ytponmfkddglopaa
open Go.RowKit

theorem eq_dgy (x y : List UInt8) (hx : x.length = 32) (hy : y.length = 32) (w : World) : (Op.equalIn 10000 40 (.agg (vs x).toArray) (.agg (vs y).toArray)).run Try.prog w = .ok (x == y) w := by
 obtain ⟨i, hi⟩ := Option.isSome_iff_exists.1 (show (Try.prog.info? 5).isSome = true by kernel_rfl)
 rw [show (10000 : Nat) = 9998 + 1 + 1 from rfl, run_equalIn_array w (9998 + 1) _ _ Try.underlying40 hi, show Try.prog.cellsOf 5 = 1 by kernel_rfl, List.range_eq_range', run_eqItems_bytes 9998 5 w Try.underlying5 x y 32 0 (by omega) (by omega)]
 rfl
def wdC (x : Int × List UInt8) : List Value := .int .i64 x.1 :: vs x.2
theorem wdC_len (x : Int × List UInt8) (h : x.2.length = 32) : (wdC x).length = 33 := by simp [wdC, vs, h]
theorem wdC_one (x : Int × List UInt8) : (wdC x).toArray.all (·.oneCell') = true := Array.all_eq_true_iff_forall_mem.2 (fun u hu => by
 simp only [wdC, List.mem_toArray, List.mem_cons, vs, List.mem_map] at hu
 rcases hu with rfl | ⟨b, _, rfl⟩ <;> rfl)
def dgZ : List UInt8 := List.replicate 32 0
theorem Try.el_wd : El Try.prog 55 72 33 40 (.agg (wdC (0, dgZ)).toArray) := ⟨Try.underlying55, by kernel_rfl, rfl, by omega, by omega, by omega⟩
theorem Try.ix_wd (W : World) (g o n c j : Nat) (hj : j < n) : (Instr.indexAt 55 (.slice (some ⟨g, o, none⟩) n c) (.int .i64 (j : Int))).run Try.prog W = .ok (.pointer (some ⟨g, o + j * 33, none⟩)) W := Try.el_wd.index (by kernel_rfl) W g o n c j hj
def WdIn (w : World) (A : Option Addr) (k : Nat) (l : Wl) : Prop := Sl w 33 A k (l.map wdC) ∧ ∀ x ∈ l, x.2.length = 32
def OWd (w : World) (B : Nat) (v : Value) (l : Wl) : Prop := Os w B 72 33 v (l.map wdC) ∧ ∀ x ∈ l, x.2.length = 32
section
variable {w w' : World} {A : Option Addr} {k B : Nat} {v : Value}
theorem WdIn.through {l : Wl} (h : WdIn w A k l) (hb : Below w.heap.size w w') : WdIn w' A k l := ⟨h.1.through hb, h.2⟩
theorem WdIn.len {l : Wl} (h : WdIn w A k l) : l.length = k := by simpa using h.1.len
theorem WdIn.none_ : WdIn w none 0 [] := ⟨Sl.none_, fun _ h => nomatch h⟩
theorem WdIn.at {l : Wl} (h : WdIn w A k l) {i : Nat} (hi : i < k) : ∃ g o x, A = some ⟨g, o, none⟩ ∧ l[i]? = some x ∧ x ∈ l ∧ l.drop i = x :: l.drop (i + 1) ∧ x.2.length = 32 ∧ w.rangeAt g (o + i * 33) (wdC x) := by
 obtain ⟨g, o, cs, e, h1, _, _, h4⟩ := h.1.at hi
 have hl : i < l.length := by rw [h.len]; exact hi
 rw [List.getElem?_map, List.getElem?_eq_getElem hl] at h1
 simp only [Option.map_some, Option.some.injEq] at h1
 subst h1
 exact ⟨g, o, l[i], e, List.getElem?_eq_getElem hl, List.getElem_mem hl, List.drop_eq_getElem_cons hl, h.2 _ (List.getElem_mem hl), h4⟩
theorem OWd.through {l : Wl} (h : OWd w B v l) (hb : Below w.heap.size w w') : OWd w' B v l := ⟨h.1.through hb, h.2⟩
theorem OWd.nil (w : World) (B : Nat) : OWd w B (.slice none 0 0) [] := ⟨Os.nil _ _ _ _, fun _ h => nomatch h⟩
theorem OWd.weak {l : Wl} {B' : Nat} (h : OWd w B v l) (hB : B' ≤ B) : OWd w B' v l := ⟨h.1.weak hB, h.2⟩
theorem OWd.out {l : Wl} (h : OWd w B v l) : ∃ A c, v = .slice A l.length c ∧ l.length ≤ c ∧ c ≤ maxLen ∧ WdIn w A l.length l := by
 obtain ⟨A, c, e, hn, hm, hs⟩ := h.1.out
 rw [List.length_map] at e hn hs
 exact ⟨A, c, e, hn, hm, hs, h.2⟩
end
theorem Try.build_wd (a : Int) (d : List UInt8) (h : d.length = 32) (w : World) : (Instr.build 72 #[(0, .int .i64 a), (1, .agg (vs d).toArray)]).run Try.prog w = .ok (.agg (wdC (a, d)).toArray) w := by
 obtain ⟨x0, x1, x2, x3, x4, x5, x6, x7, x8, x9, x10, x11, x12, x13, x14, x15, x16, x17, x18, x19, x20, x21, x22, x23, x24, x25, x26, x27, x28, x29, x30, x31, rfl⟩ := vs_lit d h
 kernel_rfl
theorem Try.empty_wd (g : Nat) (w : World) (hg : w.heap.size = g) : (Instr.buildSlice 55 0 #[]).run Try.prog w = .ok (.slice (some ⟨g, 0, none⟩) 0 0) (w.alloc (.cells #[] 72)) := by
 subst hg
 kernel_rfl
theorem osMade (w : World) (e : TypeId) (k : Nat) : Os (w.alloc (.cells #[] e)) w.heap.size e k (.slice (some ⟨w.heap.size, 0, none⟩) 0 0) [] :=
 ⟨World.ownsRow_made w #[] 0 (Nat.le_refl _) (by simp [maxLen]) (by simp), fun x hx => by cases hx⟩
theorem step_mk_ {P : Program} {s e : TypeId} {k B : Nat} {ops : Array Oper} {o : Oper} {a : Act} {w : World} {K : Act → World → Prop} {Q : Exit → Act → World → Prop} {F : Prop} (hgd : o.guard = none) (ho : o.op = .buildSlice s 0 #[])
  (hrun : (Instr.buildSlice s 0 #[]).run P w = .ok (.slice (some ⟨w.heap.size, 0, none⟩) 0 0) (w.alloc (.cells #[] e))) (hB : B ≤ w.heap.size)
  (h : ∀ g w', w.heap.size ≤ g → Os w' B e k (.slice (some ⟨g, 0, none⟩) 0 0) [] → Below w.heap.size w w' → K (a.put o.dst (.slice (some ⟨g, 0, none⟩) 0 0)) w') : if Region.wanted o (yielded ops a.tmps) = true then Oper.wp P o a w K Q else F := by
 have hw : Region.wanted o (yielded ops a.tmps) = true := by simp [Region.wanted, hgd]
 rw [if_pos hw]
 unfold Oper.wp execOp
 simp only [ho, Sem.run_bind, List.map_toArray, List.map_nil, hrun, Result.andThen_ok]
 exact h _ _ (Nat.le_refl _) ((osMade w e k).weak hB) ((Below.refl _ w).alloc (Nat.le_refl _) _)
theorem step_build_el_n {P : Program} {s e : TypeId} {k bytes : Nat} {z : Value} {ops : Array Oper} {o : Oper} {a : Act} {w : World} {K : Act → World → Prop} {Q : Exit → Act → World → Prop} {F : Prop} (hgd : o.guard = none) (E : El P s e k bytes z) (x : Operand) (ho : o.op = .buildSlice s 1 #[(0, x)])
  (q : List Value) (hx : a.eval x = .agg q.toArray) (hq : q.length = k)
  (h : ∀ g w', w.heap.size ≤ g → Blk w' g e q → Below w.heap.size w w' → K (a.put o.dst (.slice (some ⟨g, 0, none⟩) 1 1)) w') : if Region.wanted o (yielded ops a.tmps) = true then Oper.wp P o a w K Q else F :=
 step_build_el hgd E x ho q hx hq (h _ _ (Nat.le_refl _) (Blk.fresh rfl rfl) ((Below.refl _ w).alloc (Nat.le_refl _) _))
theorem wpList_load_mid_gs {P : Program} {ops : Array Oper} {rest : List Oper} {op : Oper} {a : Act} {w : World} {Q : Exit → Act → World → Prop} (ty : TypeId) (x : Operand) (ho : op.op = .load ty x) (hw : Region.wanted op (yielded ops a.tmps) = true)
  (b o : Nat) (hx : a.eval x = .pointer (some ⟨b, o, none⟩)) (cs : List Value) (d : TypeDesc) (hc : w.rangeAt b o cs)
  (hu : P.underlying ty = some d) (hd : d.isRow = true) (hi : (P.info? ty).map (·.size) = some cs.length)
  (h : wpList P ops Q rest (a.put op.dst (.agg cs.toArray)) w) : wpList P ops Q (op :: rest) a w := by
 rw [wpList, if_pos hw]
 exact .inl (wp_load_mid ty x ho b o hx cs d hc hu hd hi h)
/-- the slot's own cells -/
def slC (s : Slt) (b p c : Value) : List Value := .int .i64 s.n :: .bool s.has :: (vs s.dg ++ [b, p, c])
theorem slC_p (s : Slt) (b p c : Value) (h : s.dg.length = 32) : (slC s b p c)[35]? = some p := by
 unfold slC
 rw [List.getElem?_cons_succ, List.getElem?_cons_succ, List.getElem?_append_right (by simp [vs, h])]
 simp [vs, h]
theorem slC_setP (s : Slt) (b p c v : Value) (l : Wl) (h : s.dg.length = 32) : (slC s b p c).set 35 v = slC { s with pr := l } b v c := by
 unfold slC
 rw [List.set_cons_succ, List.set_cons_succ, List.set_append_right _ _ (by simp [vs, h])]
 simp [vs, h]
theorem Try.agg_wds (w : World) : (isAgg 55).run Try.prog w = .ok false w := by kernel_rfl
theorem Try.sz_wds (w : World) : (sizeOf 55).run Try.prog w = .ok 1 w := by kernel_rfl
theorem slC_len (s : Slt) (b p c : Value) (h : s.dg.length = 32) : (slC s b p c).length = 37 := by simp [slC, vs, h]

end Go.Proofs.Ytponmfkddglopaa
