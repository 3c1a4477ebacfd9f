/-
  Joined: TaM.
-/
import Derived.Test.YtkpgjcahmpekbaaTT16
import Derived.Test.YtkpgjcahmpekbaaTT17
namespace Go.Proofs.Ytkpgjcahmpekbaa
open Go.RowKit

theorem eq_dgx (x y : List UInt8) (hx : x.length = 32) (hy : y.length = 32) (w : World) : (Op.equalIn 9999 27 (.agg (vs x).toArray) (.agg (vs y).toArray)).run Try.prog w = .ok (x == y) w := by
 obtain ⟨i, hi⟩ := Option.isSome_iff_exists.1 (show (Try.prog.info? 5).isSome = true by kernel_rfl)
 rw [show (9999 : Nat) = 9997 + 1 + 1 from rfl, run_equalIn_array w (9997 + 1) _ _ Try.underlying27 hi, show Try.prog.cellsOf 5 = 1 by kernel_rfl, List.range_eq_range', run_eqItems_bytes 9997 5 w Try.underlying5 x y 32 0 (by omega) (by omega)]
 rfl
set_option maxRecDepth 100000 in
set_option maxHeartbeats 8000000 in
theorem eq_vov (p q : Vo) (hp : p.dg.length = 32) (hq : q.dg.length = 32) (w : World) : (binOp .eql 29 (.agg (Vo.cells p).toArray) (.agg (Vo.cells q).toArray)).run Try.prog w = .ok (.bool (p.eqb q)) w := by
 obtain ⟨a, a', d⟩ := p
 obtain ⟨b, b', e⟩ := q
 have hdq := eq_dgx d e hp hq w
 unfold Vo.eqb
 simp only
 generalize (d == e) = bb at *
 obtain ⟨x0, x1, x2, x3, x4, x5, x6, x7, x8, x9, x10, x11, x12, x13, x14, x15, x16, x17, x18, x19, x20, x21, x22, x23, x24, x25, x26, x27, x28, x29, x30, x31, rfl⟩ := vs_lit d hp
 obtain ⟨y0, y1, y2, y3, y4, y5, y6, y7, y8, y9, y10, y11, y12, y13, y14, y15, y16, y17, y18, y19, y20, y21, y22, y23, y24, y25, y26, y27, y28, y29, y30, y31, rfl⟩ := vs_lit e hq
 simp only [vs, u8, List.map_cons, List.map_nil] at hdq
 cases h0 : (a == b) with
 | false => simp [go_sem, Vo.cells, vs, u8, h0]
 | true =>
  cases h1 : (a' == b') with
  | false => simp [go_sem, Vo.cells, vs, u8, h0, h1]
  | true => cases bb <;> simp [go_sem, Vo.cells, vs, u8, h0, h1, hdq]
theorem neq_vov (p q : Vo) (hp : p.dg.length = 32) (hq : q.dg.length = 32) (w : World) : (binOp .neq 29 (.agg (Vo.cells p).toArray) (.agg (Vo.cells q).toArray)).run Try.prog w = .ok (.bool (!(p.eqb q))) w := arr_neq (fun w => eq_vov p q hp hq w) w
def onC (x : Int × Vo) : List Value := .int .i64 x.1 :: Vo.cells x.2
theorem onC_len (x : Int × Vo) (h : x.2.dg.length = 32) : (onC x).length = 35 := by simp [onC, Vo.cells_len _ h]
theorem onC_one (x : Int × Vo) : (onC x).toArray.all (·.oneCell') = true := Array.all_eq_true_iff_forall_mem.2 (fun u hu => by
 simp only [onC, List.mem_toArray, List.mem_cons] at hu
 rcases hu with rfl | hu
 ·rfl
 ·exact Array.all_eq_true_iff_forall_mem.1 (Vo.one x.2) u (by simpa using hu))
theorem Try.el_on : El Try.prog 31 92 35 56 (.agg (onC (0, voZ)).toArray) := ⟨Try.underlying31, by kernel_rfl, rfl, by omega, by omega, by omega⟩
theorem Try.ix_on (W : World) (g o n c j : Nat) (hj : j < n) : (Instr.indexAt 31 (.slice (some ⟨g, o, none⟩) n c) (.int .i64 (j : Int))).run Try.prog W = .ok (.pointer (some ⟨g, o + j * 35, none⟩)) W := Try.el_on.index (by kernel_rfl) W g o n c j hj
theorem Try.el_is : El Try.prog 41 3 1 8 (.int .i64 0) := ⟨Try.underlying41, by kernel_rfl, rfl, by omega, by omega, by omega⟩
theorem Try.ix_is (W : World) (g o n c j : Nat) (hj : j < n) : (Instr.indexAt 41 (.slice (some ⟨g, o, none⟩) n c) (.int .i64 (j : Int))).run Try.prog W = .ok (.pointer (some ⟨g, o + j, none⟩)) W := by
 have h9 := Try.el_is.index (by kernel_rfl) W g o n c j hj
 simpa using h9
def itC (i : Int) : List Value := [.int .i64 i]
def IsIn (w : World) (A : Option Addr) (k : Nat) (l : List Int) : Prop := Sl w 1 A k (l.map itC)
def OnIn (w : World) (A : Option Addr) (k : Nat) (l : Tl) : Prop := Sl w 35 A k (l.map onC) ∧ ∀ x ∈ l, x.2.dg.length = 32
def OOn (w : World) (B : Nat) (v : Value) (l : Tl) : Prop := Os w B 92 35 v (l.map onC) ∧ ∀ x ∈ l, x.2.dg.length = 32
section
variable {w w' : World} {A : Option Addr} {k B : Nat} {v : Value}
theorem IsIn.through {l : List Int} (h : IsIn w A k l) (hb : Below w.heap.size w w') : IsIn w' A k l := Sl.through h hb
theorem IsIn.len {l : List Int} (h : IsIn w A k l) : l.length = k := by simpa using Sl.len h
theorem IsIn.none_ : IsIn w none 0 [] := Sl.none_
theorem IsIn.at {l : List Int} (h : IsIn w A k l) {i : Nat} (hi : i < k) : ∃ g o x, A = some ⟨g, o, none⟩ ∧ l[i]? = some x ∧ l.drop i = x :: l.drop (i + 1) ∧ w.cell? ⟨g, o + i, none⟩ = some (.int .i64 x) := by
 obtain ⟨g, o, cs, e, h1, _, _, h4⟩ := Sl.at h hi
 have hl : i < l.length := by rw [h.len]; exact hi
 rw [List.getElem?_map, List.getElem?_eq_getElem hl] at h1
 simp only [Option.map_some, Option.some.injEq] at h1
 subst h1
 refine ⟨g, o, l[i], e, List.getElem?_eq_getElem hl, List.drop_eq_getElem_cons hl, ?_⟩
 have h9 := h4 0 _ rfl
 simpa using h9
theorem OnIn.through {l : Tl} (h : OnIn w A k l) (hb : Below w.heap.size w w') : OnIn w' A k l := ⟨h.1.through hb, h.2⟩
theorem OnIn.len {l : Tl} (h : OnIn w A k l) : l.length = k := by simpa using h.1.len
theorem OnIn.none_ : OnIn w none 0 [] := ⟨Sl.none_, fun _ h => nomatch h⟩
theorem OnIn.at {l : Tl} (h : OnIn w A k l) {i : Nat} (hi : i < k) : ∃ g o x, A = some ⟨g, o, none⟩ ∧ l[i]? = some x ∧ x ∈ l ∧ l.drop i = x :: l.drop (i + 1) ∧ x.2.dg.length = 32 ∧ w.rangeAt g (o + i * 35) (onC x) := by
 obtain ⟨g, o, cs, e, h1, _, _, h4⟩ := h.1.at hi
 have hl : i < l.length := by rw [h.len]; exact hi
 rw [List.getElem?_map, List.getElem?_eq_getElem hl] at h1
 simp only [Option.map_some, Option.some.injEq] at h1
 subst h1
 exact ⟨g, o, l[i], e, List.getElem?_eq_getElem hl, List.getElem_mem hl, List.drop_eq_getElem_cons hl, h.2 _ (List.getElem_mem hl), h4⟩
theorem OOn.through {l : Tl} (h : OOn w B v l) (hb : Below w.heap.size w w') : OOn w' B v l := ⟨h.1.through hb, h.2⟩
theorem OOn.nil (w : World) (B : Nat) : OOn w B (.slice none 0 0) [] := ⟨Os.nil _ _ _ _, fun _ h => nomatch h⟩
theorem OOn.weak {l : Tl} {B' : Nat} (h : OOn w B v l) (hB : B' ≤ B) : OOn w B' v l := ⟨h.1.weak hB, h.2⟩
theorem OOn.out {l : Tl} (h : OOn w B v l) : ∃ A c, v = .slice A l.length c ∧ l.length ≤ c ∧ c ≤ maxLen ∧ OnIn w A l.length l := by
 obtain ⟨A, c, e, hn, hm, hs⟩ := h.1.out
 rw [List.length_map] at e hn hs
 exact ⟨A, c, e, hn, hm, hs, h.2⟩
end
theorem Try.build_on (a : Int) (v : Vo) (h : v.dg.length = 32) (w : World) : (Instr.build 92 #[(0, .int .i64 a), (1, .agg (Vo.cells v).toArray)]).run Try.prog w = .ok (.agg (onC (a, v)).toArray) w := by
 obtain ⟨b, c, d⟩ := v
 obtain ⟨x0, x1, x2, x3, x4, x5, x6, x7, x8, x9, x10, x11, x12, x13, x14, x15, x16, x17, x18, x19, x20, x21, x22, x23, x24, x25, x26, x27, x28, x29, x30, x31, rfl⟩ := vs_lit d h
 kernel_rfl
theorem Try.zero_vo (w : World) : (zeroValue 29).run Try.prog w = .ok (.agg (Vo.cells voZ).toArray) w := by kernel_rfl
theorem Try.bld_vo (w : World) : (Instr.build 29 #[]).run Try.prog w = .ok (.agg (Vo.cells voZ).toArray) w := by kernel_rfl
end Go.Proofs.Ytkpgjcahmpekbaa
