/-
  Mem
-/
import Derived.Test.YtheecifgbkdecaaRows
import Derived.Handy
import Derived.WalkSpells
import Derived.Deep.AppendLies
import Derived.Deep.Draws
import Derived.Deep.AppendSrc
import Derived.Deep.RegionLaw
import Derived.Lib.Hide
namespace Go.Proofs.Ytheecifgbkdecaa
open Go.RowKit

/-- A byte, as a cell holds it. -/
def u8 (b : UInt8) : Value := .int .u8 (b.toNat : Int)
/-- Bytes, as cells hold them. -/
def vs (xs : List UInt8) : List Value := xs.map u8
theorem vs_length (xs : List UInt8) : (vs xs).length = xs.length := by simp [vs]
theorem vs_append (xs ys : List UInt8) : vs xs ++ vs ys = vs (xs ++ ys) := by simp [vs]
theorem vs_get (xs : List UInt8) (j : Nat) : (vs xs)[j]? = (xs[j]?).map u8 := by simp [vs]
theorem vs_one {xs : List UInt8} : ∀ u ∈ vs xs, u.oneCell' = true := by
 intro u hu
 obtain ⟨x, _, rfl⟩ := List.mem_map.1 hu
 rfl

/-- The slice '.slice A n _' reads, in w, as the bytes xs, in memory of which Q is said. -/
def By (w : World) (Q : Nat → Prop) (A : Option Addr) (n : Nat) (xs : List UInt8) : Prop :=
 xs.length = n ∧ (0 < n → ∃ g o, A = some ⟨g, o, none⟩ ∧ Q g ∧ ∀ (j : Nat) (u : UInt8), xs[j]? = some u → w.cell? ⟨g, o + j, none⟩ = some (u8 u))

/-- Block g of w holds bytes, all of them cells that may be written. -/
def Bk (w : World) (g : Nat) : Prop := ∃ cs, w.heap[g]? = some (.cells cs 5 (0, 0))

section
variable {w w' : World} {Q Q' : Nat → Prop} {A : Option Addr} {n : Nat} {xs : List UInt8}
theorem By.none_ : By w Q A 0 [] := ⟨rfl, fun h => absurd h (by omega)⟩
theorem By.keep (h : By w Q A n xs) (hk : ∀ g, Q g → w'.heap[g]? = w.heap[g]?) : By w' Q A n xs :=
 ⟨h.1, fun hn => by
  obtain ⟨g, o, e, hb, hc⟩ := h.2 hn
  exact ⟨g, o, e, hb, fun j u hu => (World.cell?_of_block (a := ⟨g, o + j, none⟩) (hk g hb)).trans (hc j u hu)⟩⟩
theorem By.weak (h : By w Q A n xs) (hk : ∀ g, Q g → Q' g) : By w Q' A n xs :=
 ⟨h.1, fun hn => by
  obtain ⟨g, o, e, hb, hc⟩ := h.2 hn
  exact ⟨g, o, e, hk g hb, hc⟩⟩
theorem By.below {B : Nat} (h : By w (· < B) A n xs) (hb : Below B w w') : By w' (· < B) A n xs := h.keep fun g hg => hb.block g hg
theorem By.len (h : By w Q A n xs) : xs.length = n := h.1
theorem By.cell (h : By w Q A n xs) (k : Nat) (hk : k < xs.length) : ∃ g o, A = some ⟨g, o, none⟩ ∧ w.cell? ⟨g, o + k, none⟩ = some (u8 xs[k]) := by
 obtain ⟨g, o, e, _, hc⟩ := h.2 (by have := h.1; omega)
 exact ⟨g, o, e, hc k _ (List.getElem?_eq_getElem hk)⟩
/-- the first k -/
theorem By.take (h : By w Q A n xs) {k : Nat} (hk : k ≤ n) : By w Q A k (xs.take k) :=
 ⟨by rw [List.length_take, h.1]; omega, fun hn => by
  obtain ⟨g, o, e, hb, hc⟩ := h.2 (by omega)
  refine ⟨g, o, e, hb, fun j u hu => hc j u ?_⟩
  rw [List.getElem?_take] at hu
  split at hu
  ·exact hu
  ·cases hu⟩
/-- all but the first k -/
theorem By.drop (h : By w Q A n xs) {k c : Nat} (hk : k ≤ n) (hc : n ≤ c) : By w Q (if c = k then A else A.map (·.add k)) (n - k) (xs.drop k) :=
 ⟨by rw [List.length_drop, h.1], fun hn => by
  obtain ⟨g, o, e, hb, hcell⟩ := h.2 (by omega)
  subst e
  rw [if_neg (by omega)]
  refine ⟨g, o + k, ?_, hb, fun j u hu => ?_⟩
  ·simp only [Option.map_some, Option.some.injEq]
   unfold Addr.add; split <;> simp_all
  ·rw [Nat.add_assoc]
   exact hcell (k + j) u (by rw [← hu, List.getElem?_drop])⟩

theorem By.lt (h : By w Q A n xs) : By w (fun g => Q g ∧ g < w.heap.size) A n xs :=
 ⟨h.1, fun hn => by
  obtain ⟨g, o, e, hb, hc⟩ := h.2 hn
  have hl : 0 < xs.length := by have := h.1; omega
  have h0 := hc 0 xs[0] (List.getElem?_eq_getElem hl)
  exact ⟨g, o, e, ⟨hb, World.block_lt_of_cell? w ⟨g, o + 0, none⟩ h0⟩, hc⟩⟩
/-- It is read as it was behind a call that turns nothing that was there. -/
theorem By.through (h : By w Q A n xs) (hb : Below w.heap.size w w') : By w' Q A n xs :=
 (h.lt.keep fun g hg => hb.block g hg.2).weak fun _ hg => hg.1
theorem By.alloc (h : By w Q A n xs) (o : Obj) : By (w.alloc o) Q A n xs :=
 (h.lt.keep fun g hg => Below.heap_alloc w o g hg.2).weak fun _ hg => hg.1
theorem By.drew (h : By w Q A n xs) : By w.drew Q A n xs := h
theorem By.drewN (h : By w Q A n xs) (k : Nat) : By (w.drewN k) Q A n xs := h

/-- What a call owns reads as its bytes, in a block of bytes. -/
theorem By.of_own {base c : Nat} (h : w.ownsRow base 5 1 (.slice A n c) n (vs xs)) : By w (fun g => base ≤ g ∧ g < w.heap.size ∧ Bk w g) A n xs := by
 have hl : xs.length = n := by have := h.1; simpa [vs] using this
 refine ⟨hl, fun hn => ?_⟩
 have h0 := h
 rcases h.2 with ⟨_, h'⟩ | ⟨g, cap, cur, hv, hbg, hg, _⟩
 ·omega
 ·injection hv with hA _ hc
  subst hA; subst hc
  refine ⟨g, 0, rfl, ⟨hbg, (Array.getElem?_eq_some_iff.1 hg).1, cur, hg⟩, fun j u hu => ?_⟩
  have hj : j < n := by rw [← hl]; exact (List.getElem?_eq_some_iff.1 hu).1
  rw [Nat.zero_add, h0.cellAt j (by omega), vs_get, hu]
  rfl

/-- What is owned from base on is owned from an earlier one on. -/
theorem own_weak {base base' : Nat} {v : Value} {ys : List Value} (h : w.ownsRow base 5 1 v n ys) (hb : base' ≤ base) : w.ownsRow base' 5 1 v n ys := by
 refine ⟨h.1, ?_⟩
 rcases h.2 with h2 | ⟨g, cap, cur, hv, hbg, r⟩
 ·exact .inl h2
 ·exact .inr ⟨g, cap, cur, hv, Nat.le_trans hb hbg, r⟩

/-- A slice that a call made is a slice. -/
theorem own_form {base : Nat} {v : Value} {ys : List Value} (h : w.ownsRow base 5 1 v n ys) : ∃ A c, v = .slice A n c ∧ n ≤ c ∧ c ≤ maxLen ∧ (∀ a, A = some a → ∃ g, a = ⟨g, 0, none⟩ ∧ base ≤ g) ∧ (A = none → c = 0) := by
 rcases h.2 with ⟨rfl, rfl⟩ | ⟨g, cap, cur, rfl, hbg, hg, hn, hm, _⟩
 ·exact ⟨none, 0, rfl, Nat.le_refl _, by simp [maxLen], fun a h => by (cases h), fun _ => rfl⟩
 ·exact ⟨some ⟨g, 0, none⟩, cap, rfl, hn, hm, fun a h => by injection h with h; exact ⟨g, h.symm, hbg⟩, fun h => by cases h⟩
end

section
variable {P : Program} (w : World)
/-- append of a slice that reads as bytes, nil let in, onto a row of the call's own. -/
theorem run_append_by (base : Nat) (t ty : TypeId) (i : TypeInfo) (ht : P.underlying t = some (.slice 5)) (hi : P.info? 5 = some i) (hz : i.zero = some (.int .u8 0))
  (hsize : i.size = 1) (hby : i.bytes = 1) (v : Value) (n : Nat) (ys : List Value) (hown : w.ownsRow base 5 1 v n ys)
  (Q : Nat → Prop) (A : Option Addr) (m c : Nat) (xs : List UInt8) (hr : By w Q A m xs) (hbytes : n + m ≤ 140737488355328) (hbase : base ≤ w.heap.size) :
  ∃ v' w', (Builtin.append_ #[t, t] ty #[v, .slice A m c]).run P w = .ok v' w' ∧ w'.ownsRow base 5 1 v' (n + m) (ys ++ vs xs) ∧ w.grownBy w' v.ownBlock ∧
   (v' = .slice none 0 0 ↔ v = .slice none 0 0 ∧ m = 0) := by
 rcases A with _ | ad
 ·obtain rfl : m = 0 := by
   rcases Nat.eq_zero_or_pos m with h0 | h0
   ·exact h0
   ·obtain ⟨_, _, h, _⟩ := hr.2 h0
    cases h
  obtain rfl : xs = [] := List.eq_nil_of_length_eq_zero hr.1
  refine ⟨v, w, ?_, by simpa [vs] using hown, World.grownBy.refl w _, by simp⟩
  rcases hown.2 with ⟨rfl, rfl⟩ | ⟨g, cap, cur, rfl, _, _, hnc, _⟩
  ·simp [Builtin.append_, run_underlying ht, sizeOf, typeInfo, hi, Builtin.lenOf, Builtin.firstCells]
  ·simp [Builtin.append_, run_underlying ht, sizeOf, typeInfo, hi, Builtin.lenOf, Builtin.firstCells, hnc, storeCells]
 ·refine run_append_own (P := P) w base t ty 5 i (.int .u8 0) 1 1 ht hi hz hsize hby rfl (by decide) v n ys hown ad m c (vs xs) (by rw [vs_length, hr.1, Nat.mul_one]) ?_ vs_one (by simp only [maxLen]; omega) (by omega) hbase
  intro j u hu
  rw [vs_get] at hu
  obtain ⟨x, hx, rfl⟩ := Option.map_eq_some_iff.1 hu
  have hj : j < xs.length := (List.getElem?_eq_some_iff.1 hx).1
  obtain ⟨g, o, e, _, hc⟩ := hr.2 (by have := hr.1; omega)
  injection e with e
  subst e
  have ea : (⟨g, o, none⟩ : Addr).add j = ⟨g, o + j, none⟩ := by unfold Addr.add; split <;> simp_all
  rw [ea]
  exact hc j x hx

/-- The same, as the walk takes it. -/
theorem wpList_append_by {ops : Array Oper} {rest : List Oper} {o : Oper} {a : Act} {R : Exit → Act → World → Prop} (hgd : o.guard = none) (s x : Operand) (t : TypeId)
  (ho : o.op = .call { callee := .builtin .append, args := #[s, x], argTypes := #[t, t] })
  (base : Nat) (i : TypeInfo) (ht : P.underlying t = some (.slice 5)) (hi : P.info? 5 = some i) (hz : i.zero = some (.int .u8 0))
  (hsize : i.size = 1) (hby : i.bytes = 1) (v : Value) (n : Nat) (ys : List Value) (hs : a.eval s = v) (hown : w.ownsRow base 5 1 v n ys)
  (Q : Nat → Prop) (A : Option Addr) (m c : Nat) (xs : List UInt8) (hx : a.eval x = .slice A m c) (hr : By w Q A m xs) (hbytes : n + m ≤ 140737488355328) (hbase : base ≤ w.heap.size)
  (h : ∀ v' w', w'.ownsRow base 5 1 v' (n + m) (ys ++ vs xs) → w.grownBy w' v.ownBlock → (v' = .slice none 0 0 ↔ v = .slice none 0 0 ∧ m = 0) → wpList P ops R rest (a.put o.dst v') w') :
  wpList P ops R (o :: rest) a w := by
 refine wpList_plain hgd fun K hK => ?_
 obtain ⟨v', w', hrun, h2, h3, h4⟩ := run_append_by (P := P) w base t o.type i ht hi hz hsize hby v n ys hown Q A m c xs hr hbytes hbase
 unfold Oper.wp execOp
 simp only [ho, resolve, invoke, builtin, Sem.run_bind, Sem.run_pure, Result.andThen_ok, List.map_toArray, List.map_cons, List.map_nil, hs, hx, hrun]
 exact hK _ _ (h v' w' h2 h3 h4)
end

section
variable {P : Program} (w : World)
/-- append of at least one byte onto a slice without room: a new row. -/
theorem run_append_by_grow (t ty : TypeId) (i : TypeInfo) (ht : P.underlying t = some (.slice 5)) (hi : P.info? 5 = some i) (hz : i.zero = some (.int .u8 0))
  (hsize : i.size = 1) (hby : i.bytes = 1) (Q : Nat → Prop) (A : Option Addr) (n : Nat) (xs : List UInt8) (hd : By w Q A n xs)
  (Q' : Nat → Prop) (A' : Option Addr) (m c : Nat) (ys : List UInt8) (hr : By w Q' A' m ys) (hm : 1 ≤ m) (hbytes : n + m ≤ 140737488355328) :
  ∃ v' w', (Builtin.append_ #[t, t] ty #[.slice A n n, .slice A' m c]).run P w = .ok v' w' ∧ w'.ownsRow w.heap.size 5 1 v' (n + m) (vs (xs ++ ys)) ∧ w.grownBy w' none := by
 obtain ⟨g, o, eA, _, hc⟩ := hr.2 (by omega)
 subst eA
 have cellsOf : ∀ (g o : Nat) (zs : List UInt8), (∀ (j : Nat) (u : UInt8), zs[j]? = some u → w.cell? ⟨g, o + j, none⟩ = some (u8 u)) → ∀ j u, (vs zs)[j]? = some u → w.cell? ((⟨g, o, none⟩ : Addr).add j) = some u := by
  intro g o zs hz j u hu
  rw [vs_get] at hu
  obtain ⟨x, hx, rfl⟩ := Option.map_eq_some_iff.1 hu
  have ea : (⟨g, o, none⟩ : Addr).add j = ⟨g, o + j, none⟩ := by unfold Addr.add; split <;> simp_all
  rw [ea]
  exact hz j x hx
 have hsrc : Src P i.size t (.slice (some ⟨g, o, none⟩) m c) m (vs ys) w :=
  Src.ofSlice w ht ⟨g, o, none⟩ m c (vs ys) (by rw [vs_length, hr.1, hsize, Nat.mul_one]) (cellsOf g o ys hc) vs_one
 have hold : (Builtin.firstCells i.size n (.slice A n n)).run P w.drew = .ok (vs xs).toArray w.drew := by
  rcases Nat.eq_zero_or_pos n with h0 | h0
  ·subst h0
   obtain rfl : xs = [] := List.eq_nil_of_length_eq_zero hd.1
   rcases A with _ | a
   ·exact run_firstCells_none w.drew i.size 0 0 0
   ·exact run_firstCells_some w.drew i.size 0 a 0 0 [] (by simp) (by intro j u h; simp at h)
  ·obtain ⟨g2, o2, e2, _, hc2⟩ := hd.2 h0
   subst e2
   exact run_firstCells_some w.drew i.size n ⟨g2, o2, none⟩ n n (vs xs) (by rw [vs_length, hd.1, hsize, Nat.mul_one]) (by
    intro j u hu
    have := cellsOf g2 o2 xs hc2 j u hu
    simpa using this)
 have hrun := run_append_grow_src (P := P) w t t ty 5 i (.int .u8 0) ht hi hz A n n (vs xs) hold (.slice (some ⟨g, o, none⟩) m c) m (vs ys) hsrc (by omega) (by omega)
  (by rw [hby]; exact growslice_fits (by omega) (by omega))
 refine ⟨_, _, hrun, ⟨by rw [vs_length, List.length_append, hd.1, hr.1, Nat.mul_one], .inr ⟨w.heap.size, _, _, rfl, Nat.le_refl _, heap_alloc_new w.drew _, grownCap_ge w (n + m) n 5, grownCap_le_maxLen w (n + m) n 5 (by simp only [maxLen]; omega), ?_, ?_⟩⟩,
  ⟨rfl, rfl, rfl, by simp, fun k hk _ => Below.heap_alloc w.drew _ k hk⟩⟩
 ·have hge := grownCap_ge w (n + m) n 5
  simp only [Array.size_append, List.size_toArray, size_zeroCells, List.length_append, vs_length, hd.1, hr.1]
  show n + m + (grownCap w (n + m) n 5 - (n + m)) * 1 = _
  omega
 ·have hl : (vs xs ++ vs ys).length = (n + m) * 1 := by rw [List.length_append, vs_length, vs_length, hd.1, hr.1, Nat.mul_one]
  simp only [Array.toList_append]
  rw [← hl, vs_append]
  exact List.take_left

/-- The same, in a region that draws its order. -/
theorem step_append_by_grow {ops : Array Oper} {o : Oper} {a : Act} {K : Act → World → Prop} {R : Exit → Act → World → Prop} {E : Prop} (hgd : o.guard = none) (s x : Operand) (t : TypeId)
  (ho : o.op = .call { callee := .builtin .append, args := #[s, x], argTypes := #[t, t] })
  (i : TypeInfo) (ht : P.underlying t = some (.slice 5)) (hi : P.info? 5 = some i) (hz : i.zero = some (.int .u8 0))
  (hsize : i.size = 1) (hby : i.bytes = 1) (Q : Nat → Prop) (A : Option Addr) (n : Nat) (xs : List UInt8) (hs : a.eval s = .slice A n n) (hd : By w Q A n xs)
  (Q' : Nat → Prop) (A' : Option Addr) (m c : Nat) (ys : List UInt8) (hx : a.eval x = .slice A' m c) (hr : By w Q' A' m ys) (hm : 1 ≤ m) (hbytes : n + m ≤ 140737488355328)
  (h : ∀ v' w', w'.ownsRow w.heap.size 5 1 v' (n + m) (vs (xs ++ ys)) → w.grownBy w' none → K (a.put o.dst v') w') :
  if Region.wanted o (yielded ops a.tmps) = true then Oper.wp P o a w K R else E := by
 have hw : Region.wanted o (yielded ops a.tmps) = true := by simp [Region.wanted, hgd]
 rw [if_pos hw]
 obtain ⟨v', w', hrun, h2, h3⟩ := run_append_by_grow (P := P) w t o.type i ht hi hz hsize hby Q A n xs hd Q' A' m c ys hr hm hbytes
 unfold Oper.wp execOp
 simp only [ho, resolve, invoke, builtin, Sem.run_bind, Sem.run_pure, Result.andThen_ok, List.map_toArray, List.map_cons, List.map_nil, hs, hx, hrun]
 exact h v' w' h2 h3
end

/-- 'string(b)' of a slice that reads as bytes. -/
theorem run_string_by {P : Program} (w : World) (src dst e : TypeId) (hs : P.underlying src = some (.slice e)) (he : P.underlying e = some (.int .u8)) (hd : P.underlying dst = some .string)
  (Q : Nat → Prop) (A : Option Addr) (n c : Nat) (xs : List UInt8) (hr : By w Q A n xs) : (convert src dst (.slice A n c)).run P w = .ok (.string ⟨xs.toArray⟩) w := by
 rcases Nat.eq_zero_or_pos n with h0 | h0
 ·subst h0
  obtain rfl : xs = [] := List.eq_nil_of_length_eq_zero hr.1
  rw [run_convert_bytes_string w src dst e A 0 c hs he hd]
  cases A <;> simp [Conv.bytesToString, loadCells, loadCellsFrom] <;> rfl
 ·obtain ⟨g, o, e', _, hc⟩ := hr.2 h0
  subst e'
  have hl := hr.1
  rw [run_convert_bytes_arg (P := P) w src e hs he g o n c (xs.map fun b => (b.toNat : Int)) (by simpa using hl) (fun j hj => by
   have hj' : j < xs.length := by omega
   rw [hc j xs[j] (List.getElem?_eq_getElem hj')]
   simp [u8, List.getD, List.getElem?_eq_getElem hj']) dst hd]
  congr 2
  simp [strOfNums, Function.comp_def]

/-- The bytes of a number, the highest first. -/
def beB (v : Nat) : Nat → List UInt8
 | 0 => []
 | k + 1 => beB (v / 256) k ++ [UInt8.ofNat v]
theorem beB_length (v k : Nat) : (beB v k).length = k := by
 induction k generalizing v with
 | zero => rfl
 | succ k ih => simp [beB, ih]

/-- A call that hands back bytes in memory of its own, and turns nothing that was there. -/
def Made (w : World) (n : Nat) (xs : List UInt8) (e : Ending) (w' : World) : Prop :=
 ∃ v, e = .returned v ∧ w'.ownsRow w.heap.size 5 1 v n (vs xs) ∧ Below w.heap.size w w'

theorem Try.info_u8 : (Try.prog.info? 5).map (fun i => (i.zero, i.size, i.bytes)) = some (some (.int .u8 0), 1, 1) := by kernel_rfl

end Go.Proofs.Ytheecifgbkdecaa
