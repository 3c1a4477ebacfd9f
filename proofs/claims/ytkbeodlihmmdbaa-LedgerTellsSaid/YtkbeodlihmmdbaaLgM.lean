/-
  A ledger in memory; the document's IsName, Find, Last.
-/
import Derived.Test.YtkbeodlihmmdbaaEl
import Derived.Test.YtkbeodlihmmdbaaLg
namespace Go.Proofs.Ytkbeodlihmmdbaa
open Go.RowKit

theorem Try.el_lt : El Try.prog 22 27 6 72 (.agg #[.string ⟨#[]⟩, .int .i64 0, .int .i64 0, .int .i64 0, .string ⟨#[]⟩, .string ⟨#[]⟩]) :=
  ⟨Try.underlying22, by kernel_rfl, rfl, by omega, by omega, by omega⟩
theorem Try.el_oc : El Try.prog 23 30 3 24 (.agg #[.int .i64 0, .int .i64 0, .int .i64 0]) :=
  ⟨Try.underlying23, by kernel_rfl, rfl, by omega, by omega, by omega⟩
theorem Try.ix_lt (W : World) (g o n c j : Nat) (hj : j < n) : (Instr.indexAt 22 (.slice (some ⟨g, o, none⟩) n c) (.int .i64 (j : Int))).run Try.prog W = .ok (.pointer (some ⟨g, o + j * 6, none⟩)) W := Try.el_lt.index (by kernel_rfl) W g o n c j hj
theorem Try.ix_oc (W : World) (g o n c j : Nat) (hj : j < n) : (Instr.indexAt 23 (.slice (some ⟨g, o, none⟩) n c) (.int .i64 (j : Int))).run Try.prog W = .ok (.pointer (some ⟨g, o + j * 3, none⟩)) W := Try.el_oc.index (by kernel_rfl) W g o n c j hj
theorem one6 (a b c : ByteArray) (i j k : Int) : ([.string a, .int .i64 i, .int .i64 j, .int .i64 k, .string b, .string c] : List Value).toArray.all (·.oneCell') = true := by kernel_rfl
theorem one3i (i j k : Int) : ([.int .i64 i, .int .i64 j, .int .i64 k] : List Value).toArray.all (·.oneCell') = true := by kernel_rfl
theorem beq_nope {a b : Int} (h : a ≠ b) : (a == b) = false := by simpa using h

/-- A ledger's slices, as they lie in memory. -/
def LgIn (w : World) (A : Option Addr) (n : Nat) (B : Option Addr) (m : Nat) (l : Lg) : Prop := Sl w 6 A n (l.ls.map Lt.cells) ∧ Sl w 3 B m (l.os.map Oc.cells)
section
variable {w w' : World} {A B : Option Addr} {n m : Nat} {l : Lg}
theorem LgIn.through (h : LgIn w A n B m l) (hb : Below w.heap.size w w') : LgIn w' A n B m l := ⟨h.1.through hb, h.2.through hb⟩
theorem LgIn.alloc (h : LgIn w A n B m l) (o : Obj) : LgIn (w.alloc o) A n B m l := ⟨h.1.alloc o, h.2.alloc o⟩
theorem LgIn.len (h : LgIn w A n B m l) : l.ls.length = n ∧ l.os.length = m := ⟨by simpa using h.1.len, by simpa using h.2.len⟩
/-- the letter at i -/
theorem LgIn.lt_at (h : LgIn w A n B m l) {i : Nat} (hi : i < n) : ∃ g o x, A = some ⟨g, o, none⟩ ∧ l.ls[i]? = some x ∧ x ∈ l.ls ∧ l.ls.drop i = x :: l.ls.drop (i + 1) ∧ w.rangeAt g (o + i * 6) x.cells := by
  obtain ⟨g, o, cs, e, h1, _, _, h4⟩ := h.1.at hi
  have hl : i < l.ls.length := by rw [h.len.1]; exact hi
  rw [List.getElem?_map, List.getElem?_eq_getElem hl] at h1
  simp only [Option.map_some, Option.some.injEq] at h1
  subst h1
  exact ⟨g, o, l.ls[i], e, List.getElem?_eq_getElem hl, List.getElem_mem hl, List.drop_eq_getElem_cons hl, h4⟩
theorem LgIn.oc_at (h : LgIn w A n B m l) {i : Nat} (hi : i < m) : ∃ g o x, B = some ⟨g, o, none⟩ ∧ l.os[i]? = some x ∧ x ∈ l.os ∧ l.os.drop i = x :: l.os.drop (i + 1) ∧ w.rangeAt g (o + i * 3) x.cells := by
  obtain ⟨g, o, cs, e, h1, _, _, h4⟩ := h.2.at hi
  have hl : i < l.os.length := by rw [h.len.2]; exact hi
  rw [List.getElem?_map, List.getElem?_eq_getElem hl] at h1
  simp only [Option.map_some, Option.some.injEq] at h1
  subst h1
  exact ⟨g, o, l.os[i], e, List.getElem?_eq_getElem hl, List.getElem_mem hl, List.drop_eq_getElem_cons hl, h4⟩
end
/-- A ledger's value. -/
def Lg.val (l : Lg) (A : Option Addr) (n c : Nat) (B : Option Addr) (m d : Nat) : Value := .agg #[.int .i64 l.sq, .int .i64 l.tt, .slice A n c, .slice B m d]
/-- What a call that makes no memory that counts leaves: a letter in a cell. -/
theorem fin1 (w : World) (A : Obj) : (w.alloc A).heap[w.heap.size]? = some A := heap_alloc_new w A
theorem fin2 (w : World) (A B : Obj) : ((w.alloc A).alloc B).heap[w.heap.size + 1]? = some B := by have := heap_alloc_new (w.alloc A) B; simpa using this
theorem below1 (w : World) (A : Obj) : Below w.heap.size w (w.alloc A) := (Below.refl _ w).alloc (Nat.le_refl _) A
theorem below2 (w : World) (A B : Obj) : Below w.heap.size w ((w.alloc A).alloc B) := (below1 w A).alloc (by simp) B
theorem results_cell_row_tmp1 {P : Program} {fn : Func} {p u : Tmp} {ty : TypeId} (h : fn.results = #[.cell p ty, .tmp u]) (tmps : Array Value) (w : World) (g : Nat) (t : TypeId) (cs : Array Value) (fr : Nat × Nat) (d : TypeDesc)
    (hp : tmps.getD p undef = .pointer (some ⟨g, 0, none⟩)) (hg : w.heap[g]? = some (.cells cs t fr))
    (hu : P.underlying ty = some d) (hd : (match d with | .struct _ | .array _ _ => true | _ => false) = true) (hi : (P.info? ty).map (·.size) = some cs.size) :
    (results fn tmps).run P w = .ok (.tuple #[.agg cs, tmps.getD u undef]) w := by
  have hp' : tmps[p]?.getD undef = .pointer (some ⟨g, 0, none⟩) := by simpa using hp
  simp [results, h, hp', asAddr, run_loadVar_row w g t ty cs fr d hg hu hd hi]
theorem results_cell_row_0 {P : Program} {fn : Func} {p : Tmp} {ty : TypeId} (h : fn.results = #[.cell p ty]) (tmps : Array Value) (w : World) (g : Nat) (t : TypeId) (cs : Array Value) (fr : Nat × Nat) (d : TypeDesc)
    (hp : tmps.getD p undef = .pointer (some ⟨g, 0, none⟩)) (hg : w.heap[g]? = some (.cells cs t fr))
    (hu : P.underlying ty = some d) (hd : (match d with | .struct _ | .array _ _ => true | _ => false) = true) (hi : (P.info? ty).map (·.size) = some cs.size) :
    (results fn tmps).run P w = .ok (.agg cs) w := by
  have hp' : tmps[p]?.getD undef = .pointer (some ⟨g, 0, none⟩) := by simpa using hp
  simp [results, h, hp', asAddr, run_loadVar_row w g t ty cs fr d hg hu hd hi]

end Go.Proofs.Ytkbeodlihmmdbaa
