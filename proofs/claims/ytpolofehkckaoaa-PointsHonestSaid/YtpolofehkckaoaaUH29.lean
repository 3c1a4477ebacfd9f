/-
  Joined: TwG.
-/
import Derived.Test.YtpolofehkckaoaaUH28
import Derived.Test.YtpolofehkckaoaaUH13
import Derived.Test.YtpolofehkckaoaaUH5
namespace Go.Proofs.Ytpolofehkckaoaa
open Go.RowKit

section
variable {P : Program} {ops : Array Oper} {rest : List Oper} {o : Oper} {a : Act} {w : World} {Q : Exit → Act → World → Prop} {K : Act → World → Prop} {E : Prop}
theorem wpList_look_to (hg : o.guard = none) (t : TypeId) (x y : Operand) (c : Bool) (ho : o.op = .lookup t x y c) (m k v : Value) (hx : a.eval x = m) (hy : a.eval y = k) (hrun : (Instr.lookup t m k c).run P w = .ok v w)
  (h : wpList P ops Q rest (a.put o.dst v) w) : wpList P ops Q (o :: rest) a w :=
 wpList_plain hg fun _ hK => by
  unfold Oper.wp execOp
  simp only [ho, hx, hy, Sem.run_bind, hrun, Result.andThen_ok]
  exact hK _ _ h
theorem wpList_del_to (hg : o.guard = none) (x y : Operand) (ts : Array TypeId) (ho : o.op = .call { callee := .builtin .delete, args := #[x, y], argTypes := ts }) (m k : Value) (hx : a.eval x = m) (hy : a.eval y = k) (w' : World) (hrun : (Builtin.delete_ ts o.type #[m, k]).run P w = .ok (.tuple #[]) w')
  (h : wpList P ops Q rest (a.put o.dst (.tuple #[])) w') : wpList P ops Q (o :: rest) a w :=
 wpList_plain hg fun _ hK => by
  unfold Oper.wp execOp
  simp only [ho, resolve, invoke, builtin, Sem.run_bind, Sem.run_pure, Result.andThen_ok, List.map_toArray, List.map_cons, List.map_nil, hx, hy, hrun]
  exact hK _ _ h
theorem yields_look_to {S : World → Prop} {op : Oper} (hw : Region.wanted op (yielded ops a.tmps) = true) (t : TypeId) (m x : Operand) (c : Bool) (ho : op.op = .lookup t m x c)
  (vm vx : Value) (hm : a.eval m = vm) (hx : a.eval x = vx) (v : Value) (hS : ∀ w, S w → (Instr.lookup t vm vx c).run P w = .ok v w) : YieldsIf P ops S op v a :=
 .inl ⟨hw, fun w hw' => by
  unfold execOp
  simp only [ho, hm, hx, Sem.run_bind, hS w hw', Result.andThen_ok]
  rfl⟩
theorem step_upd (hw : Region.wanted o (yielded ops a.tmps) = true) (t : TypeId) (x y z : Operand) (ho : o.op = .mapUpdate t x y z) (m k v : Value) (hx : a.eval x = m) (hy : a.eval y = k) (hz : a.eval z = v) (w' : World) (hrun : (Instr.mapUpdate t m k v).run P w = .ok () w')
  (h : K (a.put o.dst undef) w') : if Region.wanted o (yielded ops a.tmps) = true then Oper.wp P o a w K Q else E := by
 rw [if_pos hw]
 unfold Oper.wp execOp
 simp only [ho, hx, hy, hz, Sem.run_bind, hrun, Result.andThen_ok]
 exact h
end

section
variable {κ : Type} [DecidableEq κ]
def getM (x : Int) : List (Int × κ) → Option κ
 | [] => none
 | p :: l => if x = p.1 then some p.2 else getM x l
def putM (x : Int) (k : κ) : List (Int × κ) → List (Int × κ)
 | [] => [(x, k)]
 | p :: l => if x = p.1 then (x, k) :: l else p :: putM x k l
def cntM (k : κ) (M : List (Int × κ)) : Nat := (M.filter (fun p => decide (k = p.2))).length
theorem mem_putM {κ : Type} {x : Int} {k : κ} {p : Int × κ} : ∀ {M : List (Int × κ)}, p ∈ putM x k M → p = (x, k) ∨ p ∈ M
 | [], h => .inl (List.mem_singleton.1 h)
 | a :: l, h => by
  unfold putM at h
  split at h
  ·rcases List.mem_cons.1 h with h | h
   ·exact .inl h
   ·exact .inr (List.mem_cons_of_mem _ h)
  ·rcases List.mem_cons.1 h with h | h
   ·exact .inr (by rw [h]; exact List.mem_cons_self ..)
   ·exact (mem_putM h).imp id (List.mem_cons_of_mem _)
variable {P : Program} {kt vt mt : TypeId} {enc : κ → Value} {ok : κ → Prop}
def encM (enc : κ → Value) (M : List (Int × κ)) : List (Int × Value) := M.map fun p => (p.1, enc p.2)
theorem getK_enc {κ : Type} {enc : κ → Value} (x : Int) : ∀ M : List (Int × κ), getK x (encM enc M) = (getM x M).map enc
 | [] => rfl
 | p :: l => by
  simp only [encM, List.map_cons, getK, getM]
  split
  ·rfl
  ·exact getK_enc x l
theorem putK_enc {κ : Type} {enc : κ → Value} (x : Int) (k : κ) : ∀ M : List (Int × κ), putK x (enc k) (encM enc M) = encM enc (putM x k M)
 | [] => rfl
 | p :: l => by
  simp only [encM, List.map_cons, putK, putM]
  split
  ·rfl
  ·have := putK_enc (enc := enc) x k l
   simp only [encM] at this
   rw [this]
   rfl
def encI (i : Int) : Value := .int .i64 i
/-- the map of voters -/
def VMp (enc : κ → Value) (ok : κ → Prop) (W : World) (r : Nat) (M : List (Int × κ)) : Prop := MpIs W r (encK encI (encM enc M)) ∧ ∀ p ∈ M, ok p.2
def upd (f : κ → Int) (x : κ) (n : Int) : κ → Int := fun q => if q = x then n else f q
/-- the map of counts -/
def CMp (enc : κ → Value) (ok : κ → Prop) (W : World) (r : Nat) (f : κ → Int) : Prop := ∃ L : List (κ × Value), MpIs W r (encK enc L) ∧ (∀ p ∈ L, ok p.1) ∧ (L.map Prod.fst).Nodup ∧ ∀ q, (getK q L).getD (.int .i64 0) = .int .i64 (f q)
def CSt (enc : κ → Value) (ok : κ → Prop) (W : World) (r : Nat) (f : κ → Int) (x : κ) (s : Nat) : Prop := ∃ L : List (κ × Value), MpSt W r enc L x s ∧ (∀ p ∈ L, ok p.1) ∧ (L.map Prod.fst).Nodup ∧ ∀ q, (getK q L).getD (.int .i64 0) = .int .i64 (f q)
section
variable {W W' : World} {r : Nat} {f : κ → Int} {M : List (Int × κ)}
theorem VMp.lt {κ : Type} {enc : κ → Value} {ok : κ → Prop} {M : List (Int × κ)} (h : VMp enc ok W r M) : r < W.heap.size := h.1.lt
theorem VMp.keep {κ : Type} {enc : κ → Value} {ok : κ → Prop} {M : List (Int × κ)} (h : VMp enc ok W r M) (hb : W'.heap[r]? = W.heap[r]?) : VMp enc ok W' r M := ⟨h.1.keep hb, h.2⟩
theorem CMp.lt (h : CMp enc ok W r f) : r < W.heap.size := by obtain ⟨L, h1, _⟩ := h; exact h1.lt
theorem CMp.keep (h : CMp enc ok W r f) (hb : W'.heap[r]? = W.heap[r]?) : CMp enc ok W' r f := by obtain ⟨L, h1, h2⟩ := h; exact ⟨L, h1.keep hb, h2⟩
theorem CMp.congr {f' : κ → Int} (h : CMp enc ok W r f) (e : ∀ q, f q = f' q) : CMp enc ok W r f' := by obtain ⟨L, h1, h2, h3, h4⟩ := h; exact ⟨L, h1, h2, h3, fun q => by rw [h4, e]⟩
theorem CSt.is {x : κ} {s : Nat} (h : CSt enc ok W r f x s) : CMp enc ok W r f := by obtain ⟨L, h1, h2⟩ := h; exact ⟨L, h1.is, h2⟩
theorem CSt.keep {x : κ} {s : Nat} (h : CSt enc ok W r f x s) (hb : W'.heap[r]? = W.heap[r]?) : CSt enc ok W' r f x s := by obtain ⟨L, h1, h2⟩ := h; exact ⟨L, h1.keep hb, h2⟩
theorem VMp.through {κ : Type} {enc : κ → Value} {ok : κ → Prop} {M : List (Int × κ)} (h : VMp enc ok W r M) (hb : Below W.heap.size W W') : VMp enc ok W' r M := h.keep (hb.block r h.lt)
theorem CMp.through (h : CMp enc ok W r f) (hb : Below W.heap.size W W') : CMp enc ok W' r f := h.keep (hb.block r h.lt)
theorem VMp.made {κ : Type} {enc : κ → Value} {ok : κ → Prop} (W : World) : VMp enc ok (W.alloc (.map #[] 0)) W.heap.size [] := ⟨MpIs.made W, fun _ h => nomatch h⟩
theorem CMp.made (W : World) : CMp enc ok (W.alloc (.map #[] 0)) W.heap.size (fun _ => 0) := ⟨[], MpIs.made W, (fun _ h => nomatch h), List.nodup_nil, fun _ => rfl⟩
theorem VMp.look {κ : Type} {enc : κ → Value} {ok : κ → Prop} {M : List (Int × κ)} (K : KeyT P kt encI (fun _ => True)) (hm : P.underlying mt = some (.map kt vt)) (h : VMp enc ok W r M) (x : Int) {z : κ} (hz : (zeroValue vt).run P W = .ok (enc z) W) :
  (Instr.lookup mt (.map (some r)) (.int .i64 x) true).run P W = .ok (.tuple #[enc ((getM x M).getD z), .bool (getM x M).isSome]) W := by
 have h1 := h.1.look2 K hm (fun _ _ => trivial) (x := x) trivial hz
 rw [getK_enc] at h1
 rw [show (Value.int .i64 x) = encI x from rfl, h1]
 cases getM x M <;> rfl
theorem VMp.upd {κ : Type} {enc : κ → Value} {ok : κ → Prop} {M : List (Int × κ)} (K : KeyT P kt encI (fun _ => True)) (hm : P.underlying mt = some (.map kt vt)) (h : VMp enc ok W r M) (x : Int) {k : κ} (hk : ok k) :
  ∃ W', (Instr.mapUpdate mt (.map (some r)) (.int .i64 x) (enc k)).run P W = .ok () W' ∧ VMp enc ok W' r (putM x k M) ∧ W.grownBy W' (some r) := by
 obtain ⟨W', h1, h2, h3⟩ := h.1.upd K hm (fun _ _ => trivial) (x := x) trivial (enc k)
 rw [putK_enc] at h2
 refine ⟨W', h1, ⟨h2, fun p hp => ?_⟩, h3⟩
 rcases mem_putM hp with rfl | hp
 ·exact hk
 ·exact h.2 p hp
theorem VMp.len {κ : Type} {enc : κ → Value} {ok : κ → Prop} {M : List (Int × κ)} (hm : P.underlying mt = some (.map kt vt)) (h : VMp enc ok W r M) (ty : TypeId) : (Builtin.len_ #[mt] ty #[.map (some r)]).run P W = .ok (.int .i64 (M.length : Int)) W := by
 rw [h.1.len hm]
 simp [encK, encM]
theorem CMp.look (K : KeyT P kt enc ok) (hm : P.underlying mt = some (.map kt vt)) (h : CMp enc ok W r f) {x : κ} (hx : ok x) (hz : (zeroValue vt).run P W = .ok (.int .i64 0) W) :
  (Instr.lookup mt (.map (some r)) (enc x) false).run P W = .ok (.int .i64 (f x)) W := by
 obtain ⟨L, h1, h2, h3, h4⟩ := h
 rw [h1.look K hm h2 hx hz, h4]
theorem CMp.upd (K : KeyT P kt enc ok) (hm : P.underlying mt = some (.map kt vt)) (h : CMp enc ok W r f) {x : κ} (hx : ok x) (n : Int) :
  ∃ W', (Instr.mapUpdate mt (.map (some r)) (enc x) (.int .i64 n)).run P W = .ok () W' ∧ CMp enc ok W' r (upd f x n) ∧ W.grownBy W' (some r) := by
 obtain ⟨L, h1, h2, h3, h4⟩ := h
 obtain ⟨W', g1, g2, g3⟩ := h1.upd K hm h2 hx (.int .i64 n)
 refine ⟨W', g1, ⟨_, g2, fun p hp => ?_, nodup_put h3, fun q => ?_⟩, g3⟩
 ·rcases mem_put hp with rfl | hp
  ·exact hx
  ·exact h2 p hp
 ·rw [get_put]
  unfold Go.Proofs.Ytpolofehkckaoaa.upd
  split
  ·rfl
  ·exact h4 q
theorem CMp.entry (K : KeyT P kt enc ok) (hm : P.underlying mt = some (.map kt vt)) (h : CMp enc ok W r f) {x : κ} (hx : ok x) (hz : (zeroValue vt).run P W = .ok (.int .i64 0) W) :
  ∃ W' s, (Instr.mapEntry mt (.map (some r)) (enc x)).run P W = .ok (.tuple #[.int .i64 (f x), .int .i64 (s : Nat)]) W' ∧ CSt enc ok W' r f x s ∧ W.grownBy W' (some r) := by
 obtain ⟨L, h1, h2, h3, h4⟩ := h
 obtain ⟨W', s, g1, g2, g3⟩ := h1.entry K hm h2 hx hz
 refine ⟨W', s, by rw [g1, h4], ⟨_, g2, fun p hp => ?_, ?_, fun q => ?_⟩, g3⟩
 ·have hsub : p = (x, .int .i64 0) ∨ p ∈ L := by
   rcases fnd_spec x undef (.int .i64 0) L 0 with ⟨_, _, _, _, h5⟩ | ⟨i, u, _, _, _, _, _, h6⟩
   ·rw [h5] at hp
    rcases List.mem_append.1 hp with hp | hp
    ·exact .inr hp
    ·exact .inl (List.mem_singleton.1 hp)
   ·rw [h6] at hp; exact .inr hp
  rcases hsub with rfl | hp
  ·exact hx
  ·exact h2 p hp
 ·rcases fnd_spec x (.int .i64 0) (.int .i64 0) L 0 with ⟨_, _, h6, _, h5⟩ | ⟨i, u, _, _, _, _, _, h6⟩
  ·rw [h5, ← h6]
   exact nodup_put h3
  ·rw [h6]; exact h3
 ·rw [get_ent]
  split
  ·rename_i e
   rw [e]
   exact h4 x
  ·exact h4 q
theorem CSt.store {x : κ} {s : Nat} (hx : ok x) (h : CSt enc ok W r f x s) (n : Int) :
  ∃ W', (Instr.entryStore mt (.map (some r)) (.int .i64 (s : Nat)) (.int .i64 n)).run P W = .ok () W' ∧ CMp enc ok W' r (upd f x n) ∧ W.grownBy W' (some r) := by
 obtain ⟨L, h1, h2, h3, h4⟩ := h
 obtain ⟨W', g1, g2, g3⟩ := h1.store (P := P) (mt := mt) (.int .i64 n)
 refine ⟨W', g1, ⟨_, g2, fun p hp => ?_, nodup_put h3, fun q => ?_⟩, g3⟩
 ·rcases mem_put hp with rfl | hp
  ·exact hx
  ·exact h2 p hp
 ·rw [get_put]
  unfold Go.Proofs.Ytpolofehkckaoaa.upd
  split
  ·rfl
  ·exact h4 q
theorem CMp.drop (K : KeyT P kt enc ok) (hm : P.underlying mt = some (.map kt vt)) (h : CMp enc ok W r f) {x : κ} (hx : ok x) (h0 : f x = 0) (ty : TypeId) :
  ∃ W', (Builtin.delete_ #[mt, kt] ty #[.map (some r), enc x]).run P W = .ok (.tuple #[]) W' ∧ CMp enc ok W' r f ∧ W.grownBy W' (some r) := by
 obtain ⟨L, h1, h2, h3, h4⟩ := h
 obtain ⟨W', g1, g2, g3⟩ := h1.drop K hm h2 hx ty
 refine ⟨W', g1, ⟨_, g2, fun p hp => h2 p (sub_del.subset hp), h3.sublist (sub_del.map _), fun q => ?_⟩, g3⟩
 rw [get_del _ _ h3]
 split
 ·rename_i e
  rw [e, h0]; rfl
 ·exact h4 q
end
/-- a tally in memory: its box, its two maps -/
structure TlR (ty : TypeId) (enc : κ → Value) (ok : κ → Prop) (W : World) (g gv gc : Nat) (M : List (Int × κ)) : Prop where
 box : Blk W g ty [.map (some gv), .map (some gc)]
 vm : VMp enc ok W gv M
 cm : CMp enc ok W gc (fun k => (cntM k M : Int))
 ne : gv ≠ gc
 nd : (M.map Prod.fst).Nodup
def D3 (g gv gc : Nat) : Nat → Prop := fun q => q = g ∨ q = gv ∨ q = gc
section
variable {W W' : World} {ty : TypeId} {g gv gc : Nat} {M : List (Int × κ)} {f : κ → Int}
theorem TlR.lt (h : TlR ty enc ok W g gv gc M) : ∀ q, D3 g gv gc q → q < W.heap.size := by
 rintro q (rfl | rfl | rfl)
 ·exact h.box.lt
 ·exact h.vm.lt
 ·exact h.cm.lt
theorem TlR.keep (h : TlR ty enc ok W g gv gc M) (hb : ∀ q, D3 g gv gc q → W'.heap[q]? = W.heap[q]?) : TlR ty enc ok W' g gv gc M :=
 ⟨(hb g (.inl rfl)).trans h.box, h.vm.keep (hb gv (.inr (.inl rfl))), h.cm.keep (hb gc (.inr (.inr rfl))), h.ne, h.nd⟩
theorem TlR.through (h : TlR ty enc ok W g gv gc M) (hb : Below W.heap.size W W') : TlR ty enc ok W' g gv gc M := h.keep fun q hq => hb.block q (h.lt q hq)
end
end

end Go.Proofs.Ytpolofehkckaoaa
