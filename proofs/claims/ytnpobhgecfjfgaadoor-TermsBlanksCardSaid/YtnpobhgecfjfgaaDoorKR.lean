/-
  A slice of kids that a call has made itself, and what an append to it does. No walk here.
-/
import Derived.Test.YtnpobhgecfjfgaaDoorFm
import Derived.Deep.AppendLies
import Derived.Great.BuildSlice
namespace Go.Proofs.YtnpobhgecfjfgaaDoor
open Go.RowKit

/-- The cells of a row of kids. -/
def KRow (w : World) (Q : Nat → Prop) : List Fm → List Value → Prop
  | [], xs => xs = []
  | k :: ks, xs => ∃ A n c ys, xs = [.int .i64 k.org, .int .i64 k.nd, .slice A n c] ++ ys ∧ k.In w Q A n ∧ KRow w Q ks ys
section
variable {w w' : World} {Q Q' : Nat → Prop}
theorem KRow.len : ∀ {ks : List Fm} {xs : List Value}, KRow w Q ks xs → xs.length = ks.length * 3
  | [], _, h => by rw [h]; rfl
  | k :: ks, xs, ⟨A, n, c, ys, e, _, h⟩ => by
    have := KRow.len h
    rw [e]
    simp
    omega
theorem KRow.snoc {k : Fm} {A : Option Addr} {n c : Nat} (hk : k.In w Q A n) : ∀ {ks : List Fm} {xs : List Value}, KRow w Q ks xs → KRow w Q (ks ++ [k]) (xs ++ [.int .i64 k.org, .int .i64 k.nd, .slice A n c])
  | [], _, h => ⟨A, n, c, [], by rw [h]; rfl, hk, rfl⟩
  | x :: ks, xs, ⟨A', n', c', ys, e, h1, h2⟩ => ⟨A', n', c', ys ++ [.int .i64 k.org, .int .i64 k.nd, .slice A n c], by rw [e, List.append_assoc], h1, KRow.snoc hk h2⟩
theorem KRow.keep (hk : ∀ g, Q g → g < w.heap.size → w'.heap[g]? = w.heap[g]?) (hq : ∀ g, Q g → g < w.heap.size → Q' g) : ∀ {ks : List Fm} {xs : List Value}, KRow w Q ks xs → KRow w' Q' ks xs
  | [], _, h => h
  | x :: _, _, ⟨A', n', c', ys, e, h1, h2⟩ =>
    ⟨A', n', c', ys, e, Fm.In.weak (fun g hg _ => hq g hg.1 hg.2) x A' n' (Fm.In.keep (fun g hg => hk g hg.1 hg.2) x A' n' h1.lt), KRow.keep hk hq h2⟩
theorem KRow.row {g : Nat} : ∀ {ks : List Fm} {xs : List Value} (o : Nat), KRow w Q ks xs → w.rangeAt g o xs → Fm.InRow w Q g o ks
  | [], _, _, _, _ => trivial
  | x :: ks, xs, o, ⟨A, n, c, ys, e, h1, h2⟩, hr => by
    subst e
    refine ⟨⟨A, n, c, fun j u hu => hr j u (by rw [List.getElem?_append_left (List.getElem?_eq_some_iff.1 hu).1]; exact hu), h1⟩, KRow.row (o + 3) h2 fun j u hu => ?_⟩
    have h3 := hr (3 + j) u (by rw [List.getElem?_append_right (by simp)]; simpa using hu)
    rw [← Nat.add_assoc] at h3
    exact h3
end

/-- v is the call's own slice of these kids: its memory from B on, each kid's in blocks of its own. -/
def Kids (w : World) (B : Nat) (v : Value) (ks : List Fm) : Prop :=
  ∃ xs, w.ownsRow B 25 3 v ks.length xs ∧ KRow w (fun b => B ≤ b ∧ v.ownBlock ≠ some b) ks xs
section
variable {w w' : World} {B : Nat} {v : Value} {ks : List Fm}
theorem Kids.nil (w : World) (B : Nat) : Kids w B (.slice none 0 0) [] := ⟨[], World.ownsRow_nil w _ _ _, rfl⟩
theorem Kids.keep (h : Kids w B v ks) (hk : ∀ b, B ≤ b → b < w.heap.size → w'.heap[b]? = w.heap[b]?) : Kids w' B v ks := by
  obtain ⟨xs, ho, hr⟩ := h
  refine ⟨xs, ⟨ho.1, ?_⟩, hr.keep (fun g hg hl => hk g hg.1 hl) fun _ hg _ => hg⟩
  rcases ho.2 with h | ⟨g, cap, cur, hv, hb, hg, h1⟩
  · exact .inl h
  · exact .inr ⟨g, cap, cur, hv, hb, (hk g hb (Array.getElem?_eq_some_iff.1 hg).1).trans hg, h1⟩
theorem Kids.through (h : Kids w B v ks) (hb : Below w.heap.size w w') : Kids w' B v ks := h.keep fun b _ hl => hb.block b hl
theorem Kids.alloc (h : Kids w B v ks) (o : Obj) : Kids (w.alloc o) B v ks := h.through ((Below.refl _ w).alloc (Nat.le_refl _) o)
theorem Kids.drew (h : Kids w B v ks) : Kids w.drew B v ks := h.through (Below.refl _ w).drew
theorem Kids.drewN (h : Kids w B v ks) (n : Nat) : Kids (w.drewN n) B v ks := h.through ⟨rfl, rfl, rfl, Nat.le_refl _, fun _ _ => rfl⟩
/-- A block below B is turned. -/
theorem Kids.only {g : Nat} (h : Kids w B v ks) (hb : w.grownBy w' (some g)) (hg : g < B) : Kids w' B v ks :=
  h.keep fun b hB hl => hb.block b hl (fun e => by have := Option.some.inj e; omega)
theorem Kids.out (h : Kids w B v ks) : ∃ A c, v = .slice A ks.length c ∧ ∀ o a, (Fm.mk o a ks).In w (B ≤ ·) A ks.length := by
  obtain ⟨xs, ho, hr⟩ := h
  rcases ho.2 with ⟨hv, hn⟩ | ⟨g, cap, cur, hv, hb, hg, hc, hm, hs, ht⟩
  · rw [hn]
    exact ⟨none, 0, hv, fun o a => ⟨hn, by omega, fun h0 => absurd h0 (by omega)⟩⟩
  · refine ⟨_, cap, hv, fun o a => ⟨rfl, by omega, fun _ => ⟨g, 0, rfl, hb, ?_⟩⟩⟩
    refine KRow.row 0 (hr.keep (Q' := (B ≤ ·)) (fun _ _ _ => rfl) fun _ hg _ => hg.1) fun j u hu => ?_
    have hj := (List.getElem?_eq_some_iff.1 hu).1
    have hl := ho.1
    rw [Nat.zero_add, cell_of_row w g j _ _ _ hg, ← Array.getElem?_toList, ← List.getElem?_take_of_lt (show j < ks.length * 3 by omega), ht, hu]
/-- Behind an append of a kid that was made later than all of it. -/
theorem Kids.snoc {C : Nat} {k : Fm} {A : Option Addr} {n c : Nat} (hk : k.In w (C ≤ ·) A n) (hC : B ≤ C) (hv : ∀ b, v.ownBlock = some b → b < C) {w0 : World} (hw : Below w.heap.size w w0) {g cap : Nat} {w' : World} {xs : List Value}
    (hr : KRow w (fun b => B ≤ b ∧ v.ownBlock ≠ some b) ks xs)
    (ho : w'.ownsRow B 25 3 (.slice (some ⟨g, 0, none⟩) (ks.length + 1) cap) (ks.length + 1) (xs ++ [.int .i64 k.org, .int .i64 k.nd, .slice A n c])) (hg : w0.grownBy w' v.ownBlock) (hat : v.ownBlock = some g ∨ g = w0.heap.size) :
    Kids w' B (.slice (some ⟨g, 0, none⟩) (ks.length + 1) cap) (ks ++ [k]) := by
  have hs := hw.size
  refine ⟨_, by rw [List.length_append]; exact ho, KRow.keep (w := w) (Q := fun b => B ≤ b ∧ v.ownBlock ≠ some b) (fun b hb hl => ?_) (fun b hb hl => ⟨hb.1, fun e => ?_⟩) (KRow.snoc (Fm.In.weak (fun b hb _ => ⟨by omega, fun e => by have := hv b e; omega⟩) k A n hk) hr)⟩
  · rw [hg.block b (by omega) (fun e => hb.2 e.symm), hw.block b hl]
  · have e2 : g = b := Option.some.inj e
    subst e2
    rcases hat with e3 | e3
    · exact hb.2 e3
    · omega
end

theorem Tryd.info_fm3 : (Tryd.prog.info? 25).map (fun i => (i.zero, i.size, i.bytes)) = some (some (.agg #[.int .i64 0, .int .i64 0, .slice none 0 0]), 3, 40) := by kernel_rfl

set_option maxRecDepth 100000 in
/-- '[]Formula{f}' -/
theorem run_build_fm (w : World) (q : List Value) (hq : q.length = 3) : (Instr.buildSlice 23 1 #[(0, .agg q.toArray)]).run Tryd.prog w = .ok (.slice (some ⟨w.heap.size, 0, none⟩) 1 1) (w.alloc (.cells q.toArray 25)) := by
  have hi := Tryd.info_fm3
  obtain ⟨i, hi, he⟩ := Option.map_eq_some_iff.1 hi
  injection he with h1 he
  injection he with h2 h3
  refine run_buildSlice (P := Tryd.prog) w 23 25 1 _ q.toArray i _ Tryd.underlying23 hi h1 (by omega) (by omega) ?_
  have h := Great.fill_whole (s := 3) (by omega) [.agg q.toArray] ((Array.range (1 * i.size)).map fun x => (Value.agg #[.int .i64 0, .int .i64 0, .slice none 0 0]).cells[x % (Value.agg #[.int .i64 0, .int .i64 0, .slice none 0 0]).cells.size]!) (fun v hv => by
    obtain rfl : v = _ := by simpa using hv
    show q.toArray.size = 3
    simpa using hq) (by simp [h2])
  rw [h2] at h ⊢
  have e : ([Value.agg q.toArray].flatMap fun v => v.cells.toList) = q := by simp [Value.cells]
  rw [e] at h
  exact h
theorem wpList_build_fm {ops : Array Oper} {rest : List Oper} {o : Oper} {a : Act} {w : World} {Q : Exit → Act → World → Prop} (hgd : o.guard = none) (x : Operand) (ho : o.op = .buildSlice 23 1 #[(0, x)])
    (q : List Value) (hx : a.eval x = .agg q.toArray) (hq : q.length = 3)
    (h : wpList Tryd.prog ops Q rest (a.put o.dst (.slice (some ⟨w.heap.size, 0, none⟩) 1 1)) (w.alloc (.cells q.toArray 25))) : wpList Tryd.prog ops Q (o :: rest) a w := by
  exact wpList_plain hgd fun _ hK => by
    unfold Oper.wp execOp
    simp only [ho, Sem.run_bind, List.map_toArray, List.map_cons, List.map_nil, hx, run_build_fm w q hq, Result.andThen_ok]
    exact hK _ _ h
/-- A cell of a row that is known whole. -/
theorem row_cell' {w : World} {g : Nat} {t : TypeId} {cs : List Value} (h : Blk w g t cs) : ∀ j u, cs[j]? = some u → w.cell? ((⟨g, 0, none⟩ : Addr).add j) = some u := fun j u hu => by
  have e : (⟨g, 0, none⟩ : Addr).add j = ⟨g, j, none⟩ := by unfold Addr.add; split <;> simp_all
  rw [e]
  exact h.cellAt hu

end Go.Proofs.YtnpobhgecfjfgaaDoor
