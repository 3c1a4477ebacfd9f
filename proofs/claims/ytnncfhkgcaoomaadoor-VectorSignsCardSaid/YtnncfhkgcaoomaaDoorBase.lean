/-
  Bytes, blocks, regions (joined out of earlier texts); the frame of an object with maps.
-/
import Derived.Test.YtnncfhkgcaoomaaDoorRows
import Derived.Handy
import Derived.WalkSpells
import Derived.Deep.AppendLies
import Derived.Deep.Draws
import Derived.Deep.AppendSrc
import Derived.Deep.RegionLaw
import Derived.Lib.Hide
import Derived.Laws.CopyOwn
import Derived.Deep.MidRow
import Derived.Deep.RegionHeld
import Derived.Outline
import Derived.Lib.SlBytesConst
import Derived.ChangeKeysEq
import Derived.Laws.StructEq
import Derived.Laws.BitsAllLaws
import Derived.IntWalk
import Derived.MapKept
namespace Go.Proofs.YtnncfhkgcaoomaaDoor
open Go.RowKit

/-- A byte, as a cell holds it. -/
def u8 (b : UInt8) : Value := .int .u8 (b.toNat : Int)

/-- Bytes, as cells hold them. -/
def vs (xs : List UInt8) : List Value := xs.map u8

theorem vs_length (xs : List UInt8) : (vs xs).length = xs.length := by simp [vs]

theorem vs_append (xs ys : List UInt8) : vs xs ++ vs ys = vs (xs ++ ys) := by simp [vs]

theorem vs_nil : vs [] = [] := rfl

theorem vs_get (xs : List UInt8) (j : Nat) : (vs xs)[j]? = (xs[j]?).map u8 := by simp [vs]

theorem vs_one {xs : List UInt8} : ∀ u ∈ vs xs, u.oneCell' = true := by
  intro u hu
  obtain ⟨x, _, rfl⟩ := List.mem_map.1 hu
  rfl

/-- The slice '.slice A n _' reads, in w, as the bytes xs, in memory of which Q is said. -/
def By (w : World) (Q : Nat → Prop) (A : Option Addr) (n : Nat) (xs : List UInt8) : Prop :=
  xs.length = n ∧ (0 < n → ∃ g o, A = some ⟨g, o, none⟩ ∧ Q g ∧ ∀ (j : Nat) (u : UInt8), xs[j]? = some u → w.cell? ⟨g, o + j, none⟩ = some (u8 u))

/-- Block g of w holds bytes, all of them cells that may be written. -/
def Bk (w : World) (g : Nat) : Prop := ∃ cs, w.heap[g]? = some (.cells cs 5 (0, 0))

section
variable {w w' : World} {Q Q' : Nat → Prop} {A : Option Addr} {n : Nat} {xs : List UInt8}
theorem By.none_ : By w Q A 0 [] := ⟨rfl, fun h => absurd h (by omega)⟩
theorem By.keep (h : By w Q A n xs) (hk : ∀ g, Q g → w'.heap[g]? = w.heap[g]?) : By w' Q A n xs :=
  ⟨h.1, fun hn => by
    obtain ⟨g, o, e, hb, hc⟩ := h.2 hn
    exact ⟨g, o, e, hb, fun j u hu => (World.cell?_of_block (a := ⟨g, o + j, none⟩) (hk g hb)).trans (hc j u hu)⟩⟩
theorem By.weak (h : By w Q A n xs) (hk : ∀ g, Q g → Q' g) : By w Q' A n xs :=
  ⟨h.1, fun hn => by
    obtain ⟨g, o, e, hb, hc⟩ := h.2 hn
    exact ⟨g, o, e, hk g hb, hc⟩⟩
theorem By.below {B : Nat} (h : By w (· < B) A n xs) (hb : Below B w w') : By w' (· < B) A n xs := h.keep fun g hg => hb.block g hg
theorem By.len (h : By w Q A n xs) : xs.length = n := h.1
theorem By.cell (h : By w Q A n xs) (k : Nat) (hk : k < xs.length) : ∃ g o, A = some ⟨g, o, none⟩ ∧ w.cell? ⟨g, o + k, none⟩ = some (u8 xs[k]) := by
  obtain ⟨g, o, e, _, hc⟩ := h.2 (by have := h.1; omega)
  exact ⟨g, o, e, hc k _ (List.getElem?_eq_getElem hk)⟩
/-- the first k -/
theorem By.take (h : By w Q A n xs) {k : Nat} (hk : k ≤ n) : By w Q A k (xs.take k) :=
  ⟨by rw [List.length_take, h.1]; omega, fun hn => by
    obtain ⟨g, o, e, hb, hc⟩ := h.2 (by omega)
    refine ⟨g, o, e, hb, fun j u hu => hc j u ?_⟩
    rw [List.getElem?_take] at hu
    split at hu
    · exact hu
    · cases hu⟩
/-- all but the first k -/
theorem By.drop (h : By w Q A n xs) {k c : Nat} (hk : k ≤ n) (hc : n ≤ c) : By w Q (if c = k then A else A.map (·.add k)) (n - k) (xs.drop k) :=
  ⟨by rw [List.length_drop, h.1], fun hn => by
    obtain ⟨g, o, e, hb, hcell⟩ := h.2 (by omega)
    subst e
    rw [if_neg (by omega)]
    refine ⟨g, o + k, ?_, hb, fun j u hu => ?_⟩
    · simp only [Option.map_some, Option.some.injEq]
      unfold Addr.add; split <;> simp_all
    · rw [Nat.add_assoc]
      exact hcell (k + j) u (by rw [← hu, List.getElem?_drop])⟩

theorem By.lt (h : By w Q A n xs) : By w (fun g => Q g ∧ g < w.heap.size) A n xs :=
  ⟨h.1, fun hn => by
    obtain ⟨g, o, e, hb, hc⟩ := h.2 hn
    have hl : 0 < xs.length := by have := h.1; omega
    have h0 := hc 0 xs[0] (List.getElem?_eq_getElem hl)
    exact ⟨g, o, e, ⟨hb, World.block_lt_of_cell? w ⟨g, o + 0, none⟩ h0⟩, hc⟩⟩
/-- It is read as it was behind a call that turns nothing that was there. -/
theorem By.through (h : By w Q A n xs) (hb : Below w.heap.size w w') : By w' Q A n xs :=
  (h.lt.keep fun g hg => hb.block g hg.2).weak fun _ hg => hg.1
theorem By.alloc (h : By w Q A n xs) (o : Obj) : By (w.alloc o) Q A n xs :=
  (h.lt.keep fun g hg => Below.heap_alloc w o g hg.2).weak fun _ hg => hg.1
theorem By.drew (h : By w Q A n xs) : By w.drew Q A n xs := h
theorem By.drewN (h : By w Q A n xs) (k : Nat) : By (w.drewN k) Q A n xs := h

/-- What a call owns reads as its bytes, in a block of bytes. -/
theorem By.of_own {base c : Nat} (h : w.ownsRow base 5 1 (.slice A n c) n (vs xs)) : By w (fun g => base ≤ g ∧ g < w.heap.size ∧ Bk w g) A n xs := by
  have hl : xs.length = n := by have := h.1; simpa [vs] using this
  refine ⟨hl, fun hn => ?_⟩
  have h0 := h
  rcases h.2 with ⟨_, h'⟩ | ⟨g, cap, cur, hv, hbg, hg, _⟩
  · omega
  · injection hv with hA _ hc
    subst hA; subst hc
    refine ⟨g, 0, rfl, ⟨hbg, (Array.getElem?_eq_some_iff.1 hg).1, cur, hg⟩, fun j u hu => ?_⟩
    have hj : j < n := by rw [← hl]; exact (List.getElem?_eq_some_iff.1 hu).1
    rw [Nat.zero_add, h0.cellAt j (by omega), vs_get, hu]
    rfl

/-- What is owned from base on is owned from an earlier one on. -/
theorem own_weak {base base' : Nat} {v : Value} {ys : List Value} (h : w.ownsRow base 5 1 v n ys) (hb : base' ≤ base) : w.ownsRow base' 5 1 v n ys := by
  refine ⟨h.1, ?_⟩
  rcases h.2 with h2 | ⟨g, cap, cur, hv, hbg, r⟩
  · exact .inl h2
  · exact .inr ⟨g, cap, cur, hv, Nat.le_trans hb hbg, r⟩

/-- A slice that a call made is a slice. -/
theorem own_form {base : Nat} {v : Value} {ys : List Value} (h : w.ownsRow base 5 1 v n ys) : ∃ A c, v = .slice A n c ∧ n ≤ c ∧ c ≤ maxLen ∧ (∀ a, A = some a → ∃ g, a = ⟨g, 0, none⟩ ∧ base ≤ g) ∧ (A = none → c = 0) := by
  rcases h.2 with ⟨rfl, rfl⟩ | ⟨g, cap, cur, rfl, hbg, hg, hn, hm, _⟩
  · exact ⟨none, 0, rfl, Nat.le_refl _, by simp [maxLen], fun a h => by (cases h), fun _ => rfl⟩
  · exact ⟨some ⟨g, 0, none⟩, cap, rfl, hn, hm, fun a h => by injection h with h; exact ⟨g, h.symm, hbg⟩, fun h => by cases h⟩
end

section
variable {P : Program} (w : World)
/-- append of a slice that reads as bytes, nil let in, onto a row of the call's own. -/
theorem run_append_by (base : Nat) (t ty : TypeId) (i : TypeInfo) (ht : P.underlying t = some (.slice 5)) (hi : P.info? 5 = some i) (hz : i.zero = some (.int .u8 0))
    (hsize : i.size = 1) (hby : i.bytes = 1) (v : Value) (n : Nat) (ys : List Value) (hown : w.ownsRow base 5 1 v n ys)
    (Q : Nat → Prop) (A : Option Addr) (m c : Nat) (xs : List UInt8) (hr : By w Q A m xs) (hbytes : n + m ≤ 140737488355328) (hbase : base ≤ w.heap.size) :
    ∃ v' w', (Builtin.append_ #[t, t] ty #[v, .slice A m c]).run P w = .ok v' w' ∧ w'.ownsRow base 5 1 v' (n + m) (ys ++ vs xs) ∧ w.grownBy w' v.ownBlock ∧
      (v' = .slice none 0 0 ↔ v = .slice none 0 0 ∧ m = 0) := by
  rcases A with _ | ad
  · obtain rfl : m = 0 := by
      rcases Nat.eq_zero_or_pos m with h0 | h0
      · exact h0
      · obtain ⟨_, _, h, _⟩ := hr.2 h0
        cases h
    obtain rfl : xs = [] := List.eq_nil_of_length_eq_zero hr.1
    refine ⟨v, w, ?_, by simpa [vs] using hown, World.grownBy.refl w _, by simp⟩
    rcases hown.2 with ⟨rfl, rfl⟩ | ⟨g, cap, cur, rfl, _, _, hnc, _⟩
    · simp [Builtin.append_, run_underlying ht, sizeOf, typeInfo, hi, Builtin.lenOf, Builtin.firstCells]
    · simp [Builtin.append_, run_underlying ht, sizeOf, typeInfo, hi, Builtin.lenOf, Builtin.firstCells, hnc, storeCells]
  · refine run_append_own (P := P) w base t ty 5 i (.int .u8 0) 1 1 ht hi hz hsize hby rfl (by decide) v n ys hown ad m c (vs xs) (by rw [vs_length, hr.1, Nat.mul_one]) ?_ vs_one (by simp only [maxLen]; omega) (by omega) hbase
    intro j u hu
    rw [vs_get] at hu
    obtain ⟨x, hx, rfl⟩ := Option.map_eq_some_iff.1 hu
    have hj : j < xs.length := (List.getElem?_eq_some_iff.1 hx).1
    obtain ⟨g, o, e, _, hc⟩ := hr.2 (by have := hr.1; omega)
    injection e with e
    subst e
    have ea : (⟨g, o, none⟩ : Addr).add j = ⟨g, o + j, none⟩ := by unfold Addr.add; split <;> simp_all
    rw [ea]
    exact hc j x hx

/-- The same, as the walk takes it. -/
theorem wpList_append_by {ops : Array Oper} {rest : List Oper} {o : Oper} {a : Act} {R : Exit → Act → World → Prop} (hgd : o.guard = none) (s x : Operand) (t : TypeId)
    (ho : o.op = .call { callee := .builtin .append, args := #[s, x], argTypes := #[t, t] })
    (base : Nat) (i : TypeInfo) (ht : P.underlying t = some (.slice 5)) (hi : P.info? 5 = some i) (hz : i.zero = some (.int .u8 0))
    (hsize : i.size = 1) (hby : i.bytes = 1) (v : Value) (n : Nat) (ys : List Value) (hs : a.eval s = v) (hown : w.ownsRow base 5 1 v n ys)
    (Q : Nat → Prop) (A : Option Addr) (m c : Nat) (xs : List UInt8) (hx : a.eval x = .slice A m c) (hr : By w Q A m xs) (hbytes : n + m ≤ 140737488355328) (hbase : base ≤ w.heap.size)
    (h : ∀ v' w', w'.ownsRow base 5 1 v' (n + m) (ys ++ vs xs) → w.grownBy w' v.ownBlock → (v' = .slice none 0 0 ↔ v = .slice none 0 0 ∧ m = 0) → wpList P ops R rest (a.put o.dst v') w') :
    wpList P ops R (o :: rest) a w := by
  refine wpList_plain hgd fun K hK => ?_
  obtain ⟨v', w', hrun, h2, h3, h4⟩ := run_append_by (P := P) w base t o.type i ht hi hz hsize hby v n ys hown Q A m c xs hr hbytes hbase
  unfold Oper.wp execOp
  simp only [ho, resolve, invoke, builtin, Sem.run_bind, Sem.run_pure, Result.andThen_ok, List.map_toArray, List.map_cons, List.map_nil, hs, hx, hrun]
  exact hK _ _ (h v' w' h2 h3 h4)
end

section
variable {P : Program} (w : World)
/-- append of at least one byte onto a slice without room: a new row. -/
theorem run_append_by_grow (t ty : TypeId) (i : TypeInfo) (ht : P.underlying t = some (.slice 5)) (hi : P.info? 5 = some i) (hz : i.zero = some (.int .u8 0))
    (hsize : i.size = 1) (hby : i.bytes = 1) (Q : Nat → Prop) (A : Option Addr) (n : Nat) (xs : List UInt8) (hd : By w Q A n xs)
    (Q' : Nat → Prop) (A' : Option Addr) (m c : Nat) (ys : List UInt8) (hr : By w Q' A' m ys) (hm : 1 ≤ m) (hbytes : n + m ≤ 140737488355328) :
    ∃ v' w', (Builtin.append_ #[t, t] ty #[.slice A n n, .slice A' m c]).run P w = .ok v' w' ∧ w'.ownsRow w.heap.size 5 1 v' (n + m) (vs (xs ++ ys)) ∧ w.grownBy w' none := by
  obtain ⟨g, o, eA, _, hc⟩ := hr.2 (by omega)
  subst eA
  have cellsOf : ∀ (g o : Nat) (zs : List UInt8), (∀ (j : Nat) (u : UInt8), zs[j]? = some u → w.cell? ⟨g, o + j, none⟩ = some (u8 u)) → ∀ j u, (vs zs)[j]? = some u → w.cell? ((⟨g, o, none⟩ : Addr).add j) = some u := by
    intro g o zs hz j u hu
    rw [vs_get] at hu
    obtain ⟨x, hx, rfl⟩ := Option.map_eq_some_iff.1 hu
    have ea : (⟨g, o, none⟩ : Addr).add j = ⟨g, o + j, none⟩ := by unfold Addr.add; split <;> simp_all
    rw [ea]
    exact hz j x hx
  have hsrc : Src P i.size t (.slice (some ⟨g, o, none⟩) m c) m (vs ys) w :=
    Src.ofSlice w ht ⟨g, o, none⟩ m c (vs ys) (by rw [vs_length, hr.1, hsize, Nat.mul_one]) (cellsOf g o ys hc) vs_one
  have hold : (Builtin.firstCells i.size n (.slice A n n)).run P w.drew = .ok (vs xs).toArray w.drew := by
    rcases Nat.eq_zero_or_pos n with h0 | h0
    · subst h0
      obtain rfl : xs = [] := List.eq_nil_of_length_eq_zero hd.1
      rcases A with _ | a
      · exact run_firstCells_none w.drew i.size 0 0 0
      · exact run_firstCells_some w.drew i.size 0 a 0 0 [] (by simp) (by intro j u h; simp at h)
    · obtain ⟨g2, o2, e2, _, hc2⟩ := hd.2 h0
      subst e2
      exact run_firstCells_some w.drew i.size n ⟨g2, o2, none⟩ n n (vs xs) (by rw [vs_length, hd.1, hsize, Nat.mul_one]) (by
        intro j u hu
        have := cellsOf g2 o2 xs hc2 j u hu
        simpa using this)
  have hrun := run_append_grow_src (P := P) w t t ty 5 i (.int .u8 0) ht hi hz A n n (vs xs) hold (.slice (some ⟨g, o, none⟩) m c) m (vs ys) hsrc (by omega) (by omega)
    (by rw [hby]; exact growslice_fits (by omega) (by omega))
  refine ⟨_, _, hrun, ⟨by rw [vs_length, List.length_append, hd.1, hr.1, Nat.mul_one], .inr ⟨w.heap.size, _, _, rfl, Nat.le_refl _, heap_alloc_new w.drew _, grownCap_ge w (n + m) n 5, grownCap_le_maxLen w (n + m) n 5 (by simp only [maxLen]; omega), ?_, ?_⟩⟩,
    ⟨rfl, rfl, rfl, by simp, fun k hk _ => Below.heap_alloc w.drew _ k hk⟩⟩
  · have hge := grownCap_ge w (n + m) n 5
    simp only [Array.size_append, List.size_toArray, size_zeroCells, List.length_append, vs_length, hd.1, hr.1]
    show n + m + (grownCap w (n + m) n 5 - (n + m)) * 1 = _
    omega
  · have hl : (vs xs ++ vs ys).length = (n + m) * 1 := by rw [List.length_append, vs_length, vs_length, hd.1, hr.1, Nat.mul_one]
    simp only [Array.toList_append]
    rw [← hl, vs_append]
    exact List.take_left

/-- The same, in a region that draws its order. -/
theorem step_append_by_grow {ops : Array Oper} {o : Oper} {a : Act} {K : Act → World → Prop} {R : Exit → Act → World → Prop} {E : Prop} (hgd : o.guard = none) (s x : Operand) (t : TypeId)
    (ho : o.op = .call { callee := .builtin .append, args := #[s, x], argTypes := #[t, t] })
    (i : TypeInfo) (ht : P.underlying t = some (.slice 5)) (hi : P.info? 5 = some i) (hz : i.zero = some (.int .u8 0))
    (hsize : i.size = 1) (hby : i.bytes = 1) (Q : Nat → Prop) (A : Option Addr) (n : Nat) (xs : List UInt8) (hs : a.eval s = .slice A n n) (hd : By w Q A n xs)
    (Q' : Nat → Prop) (A' : Option Addr) (m c : Nat) (ys : List UInt8) (hx : a.eval x = .slice A' m c) (hr : By w Q' A' m ys) (hm : 1 ≤ m) (hbytes : n + m ≤ 140737488355328)
    (h : ∀ v' w', w'.ownsRow w.heap.size 5 1 v' (n + m) (vs (xs ++ ys)) → w.grownBy w' none → K (a.put o.dst v') w') :
    if Region.wanted o (yielded ops a.tmps) = true then Oper.wp P o a w K R else E := by
  have hw : Region.wanted o (yielded ops a.tmps) = true := by simp [Region.wanted, hgd]
  rw [if_pos hw]
  obtain ⟨v', w', hrun, h2, h3⟩ := run_append_by_grow (P := P) w t o.type i ht hi hz hsize hby Q A n xs hd Q' A' m c ys hr hm hbytes
  unfold Oper.wp execOp
  simp only [ho, resolve, invoke, builtin, Sem.run_bind, Sem.run_pure, Result.andThen_ok, List.map_toArray, List.map_cons, List.map_nil, hs, hx, hrun]
  exact h v' w' h2 h3
end

/-- 'string(b)' of a slice that reads as bytes. -/
theorem run_string_by {P : Program} (w : World) (src dst e : TypeId) (hs : P.underlying src = some (.slice e)) (he : P.underlying e = some (.int .u8)) (hd : P.underlying dst = some .string)
    (Q : Nat → Prop) (A : Option Addr) (n c : Nat) (xs : List UInt8) (hr : By w Q A n xs) : (convert src dst (.slice A n c)).run P w = .ok (.string ⟨xs.toArray⟩) w := by
  rcases Nat.eq_zero_or_pos n with h0 | h0
  · subst h0
    obtain rfl : xs = [] := List.eq_nil_of_length_eq_zero hr.1
    rw [run_convert_bytes_string w src dst e A 0 c hs he hd]
    cases A <;> simp [Conv.bytesToString, loadCells, loadCellsFrom] <;> rfl
  · obtain ⟨g, o, e', _, hc⟩ := hr.2 h0
    subst e'
    have hl := hr.1
    rw [run_convert_bytes_arg (P := P) w src e hs he g o n c (xs.map fun b => (b.toNat : Int)) (by simpa using hl) (fun j hj => by
      have hj' : j < xs.length := by omega
      rw [hc j xs[j] (List.getElem?_eq_getElem hj')]
      simp [u8, List.getD, List.getElem?_eq_getElem hj']) dst hd]
    congr 2
    simp [strOfNums, Function.comp_def]

/-- The bytes of a number, the highest first. -/
def beB (v : Nat) : Nat → List UInt8
  | 0 => []
  | k + 1 => beB (v / 256) k ++ [UInt8.ofNat v]

theorem beB_length (v k : Nat) : (beB v k).length = k := by
  induction k generalizing v with
  | zero => rfl
  | succ k ih => simp [beB, ih]

/-- A call that hands back bytes in memory of its own, and turns nothing that was there. -/
def Made (w : World) (n : Nat) (xs : List UInt8) (e : Ending) (w' : World) : Prop :=
  ∃ v, e = .returned v ∧ w'.ownsRow w.heap.size 5 1 v n (vs xs) ∧ Below w.heap.size w w'

theorem Tryd.info_u8 : (Tryd.prog.info? 5).map (fun i => (i.zero, i.size, i.bytes)) = some (some (.int .u8 0), 1, 1) := by kernel_rfl

/-- May a number have k bytes? -/
def wid (k : Int) : Bool := k == 1 || k == 2 || k == 4 || k == 8

theorem wid_iff {k : Int} : wid k = true ↔ k = 1 ∨ k = 2 ∨ k = 4 ∨ k = 8 := by simp [wid, or_assoc]

set_option maxHeartbeats 400000 in
theorem isWidth_any (k : Int) (w : World) : Calls Tryd.prog 30 #[.int .i64 k] w fun e w' => e = .returned (.bool (wid k)) ∧ w = w' := by
  by_cases h1 : k = 1
  · subst h1
    go_enter Tryd.func30, Tryd.ntmps30
    go_wp2
    go_ret
    exact ⟨rfl, rfl⟩
  have e1 : (k == 1) = false := by simpa using h1
  by_cases h2 : k = 2
  · subst h2
    go_enter Tryd.func30, Tryd.ntmps30
    go_wp2
    go_ret
    exact ⟨rfl, rfl⟩
  have e2 : (k == 2) = false := by simpa using h2
  by_cases h4 : k = 4
  · subst h4
    go_enter Tryd.func30, Tryd.ntmps30
    go_wp2
    go_ret
    exact ⟨rfl, rfl⟩
  have e4 : (k == 4) = false := by simpa using h4
  have hw : wid k = (k == 8) := by simp [wid, e1, e2, e4]
  rw [hw]
  clear hw
  go_enter Tryd.func30, Tryd.ntmps30
  go_wp2
  go_ret
  exact ⟨rfl, rfl⟩

set_option maxHeartbeats 1000000 in
theorem clone_any (Q : Nat → Prop) (A : Option Addr) (n c : Nat) (xs : List UInt8) (w : World) (h : By w Q A n xs) (hn : n ≤ 140737488355328) :
    Calls Tryd.prog 13 #[.slice A n c] w (Made w n xs) := by
  have q22 : ∀ (w : World) (a : Option Addr) (n c n' c' : Nat), (binOp .eql 22 (.slice a n c) (.slice none n' c')).run Tryd.prog w = .ok (.bool a.isNone) w := fun w a n c n' c' => Lib.run_eql_slice_nil w _ _ a n c n' c' Tryd.underlying22
  obtain ⟨i0, hi, hz0, hz1, hz2⟩ := info_parts Tryd.info_u8
  rcases A with _ | ad
  · obtain rfl : n = 0 := by
      rcases Nat.eq_zero_or_pos n with h0 | h0
      · exact h0
      · obtain ⟨_, _, h, _⟩ := h.2 h0
        cases h
    obtain rfl : xs = [] := List.eq_nil_of_length_eq_zero h.1
    clear h
    go_enter Tryd.func13, Tryd.ntmps13
    go_wp2
    go_ret
    exact ⟨_, rfl, World.ownsRow_nil _ _ _ _, Below.refl _ _⟩
  · have H : Hid (By w Q (some ad) n xs) := h
    clear h
    go_enter Tryd.func13, Tryd.ntmps13
    go_wp2_with (at_builtin; refine wpList_append_by _ rfl _ _ 22 rfl w.heap.size i0 Tryd.underlying22 hi hz0 hz1 hz2 _ 0 [] rfl (World.ownsRow_made w #[] 0 (Nat.le_refl _) (Nat.zero_le _) rfl) Q (some ad) n c xs rfl (H.out.alloc _) ?b1 ?b2 ?_)
    case b1 => omega
    case b2 => simp
    intro v' w1 hown hgrow _
    go_wp2
    go_ret
    refine ⟨v', rfl, by simpa using hown, ?_⟩
    exact ((Below.refl _ w).alloc (Nat.le_refl _) _).grown hgrow (by simp) (by intro k hk; simp [Value.ownBlock] at hk; omega)

theorem beB_byte (v : Int) (h : 0 ≤ v) : u8 (UInt8.ofNat v.toNat) = .int .u8 (v % 256) := by
  unfold u8
  congr 1
  simp
  omega

theorem beB_1 (v : Int) (h0 : 0 ≤ v) (h1 : v < 18446744073709551616) : vs (beB v.toNat 1) = [.int .u8 (v % 256)] := by
  simp only [vs, beB, List.map_cons, List.map_nil, List.nil_append, u8, List.cons.injEq, Value.int.injEq, and_true, true_and]
  simp
  omega

theorem put_src1 (w : World) (v : Int) (E : vs (beB v.toNat 1) = [.int .u8 (v % 256)]) :
    By (w.alloc (.cells #[.int .u8 (v / 72057594037927936), .int .u8 (v / 281474976710656 % 256), .int .u8 (v / 1099511627776 % 256), .int .u8 (v / 4294967296 % 256), .int .u8 (v / 16777216 % 256), .int .u8 (v / 65536 % 256), .int .u8 (v / 256 % 256), .int .u8 (v % 256)] 74)).drew (fun _ => True) (some ⟨w.heap.size, 7, none⟩) 1 (beB v.toNat 1) := by
  refine ⟨beB_length _ _, fun _ => ⟨_, _, rfl, trivial, fun j u hu => ?_⟩⟩
  have h := vs_get (beB v.toNat 1) j
  rw [hu, E] at h
  have hj : j < 1 := by have := (List.getElem?_eq_some_iff.1 hu).1; rw [beB_length] at this; exact this
  show (w.alloc _).cell? _ = _
  rw [cell_of_row _ w.heap.size _ _ _ _ (heap_alloc_new w _)]
  match j, hj with
  | 0, _ => simpa using h

set_option maxHeartbeats 1000000 in
theorem put_1 (Q : Nat → Prop) (A : Option Addr) (n c : Nat) (xs : List UInt8) (v : Int) (hv0 : 0 ≤ v) (hv1 : v < 18446744073709551616) (w : World) (h : By w Q A n xs) (hn : n ≤ 1099511627776) (hnc : n ≤ c) :
    Calls Tryd.prog 25 #[.slice A n c, .int .u64 v, .int .i64 1] w (Made w (n + 1) (xs ++ beB v.toNat 1)) := by
  obtain ⟨i0, hi, hz0, hz1, hz2⟩ := info_parts Tryd.info_u8
  have hk : wid 1 = true := rfl
  have hwr : IntKind.i64.wrap 7 = 7 := by decide
  have H : Hid (By w Q A n xs) := h
  have E : Hid (vs (beB v.toNat 1) = [.int .u8 (v % 256)]) := beB_1 v hv0 hv1
  clear h
  go_enter Tryd.func25, Tryd.ntmps25
  go_wp2_with (go_at_call 30; refine (isWidth_any _ _).mono ?_; rintro e w' ⟨rfl, rfl⟩)
  go_rounds 9
  go_region_law (refine step_append_by_grow _ rfl (.tmp 31) (.tmp 34) 22 rfl i0 Tryd.underlying22 hi hz0 hz1 hz2 Q A n xs (by simp [Act.eval, Act.put]) ((H.out.alloc _).drew) (fun _ => True) (some ⟨w.heap.size, 7, none⟩) 1 1 (beB v.toNat 1) (by simp [Act.eval, Act.put]) (put_src1 w v E.out) (by omega) (by omega) ?_; intro v' w1 hown hgrow)
  go_wp2
  go_ret
  exact ⟨v', rfl, own_weak hown (by simp), ((Below.refl _ w).alloc (Nat.le_refl _) _).drew.grown hgrow (by simp) (fun k h => by cases h)⟩

theorem beB_2 (v : Int) (h0 : 0 ≤ v) (h1 : v < 18446744073709551616) : vs (beB v.toNat 2) = [.int .u8 (v / 256 % 256), .int .u8 (v % 256)] := by
  simp only [vs, beB, List.map_cons, List.map_nil, List.nil_append, List.cons_append, u8, List.cons.injEq, Value.int.injEq, and_true, true_and]
  simp
  omega

theorem put_src2 (w : World) (v : Int) (E : vs (beB v.toNat 2) = [.int .u8 (v / 256 % 256), .int .u8 (v % 256)]) :
    By (w.alloc (.cells #[.int .u8 (v / 72057594037927936), .int .u8 (v / 281474976710656 % 256), .int .u8 (v / 1099511627776 % 256), .int .u8 (v / 4294967296 % 256), .int .u8 (v / 16777216 % 256), .int .u8 (v / 65536 % 256), .int .u8 (v / 256 % 256), .int .u8 (v % 256)] 74)).drew (fun _ => True) (some ⟨w.heap.size, 6, none⟩) 2 (beB v.toNat 2) := by
  refine ⟨beB_length _ _, fun _ => ⟨_, _, rfl, trivial, fun j u hu => ?_⟩⟩
  have h := vs_get (beB v.toNat 2) j
  rw [hu, E] at h
  have hj : j < 2 := by have := (List.getElem?_eq_some_iff.1 hu).1; rw [beB_length] at this; exact this
  show (w.alloc _).cell? _ = _
  rw [cell_of_row _ w.heap.size _ _ _ _ (heap_alloc_new w _)]
  match j, hj with
  | 0, _ => simpa using h
  | 1, _ => simpa using h

set_option maxHeartbeats 1000000 in
theorem put_2 (Q : Nat → Prop) (A : Option Addr) (n c : Nat) (xs : List UInt8) (v : Int) (hv0 : 0 ≤ v) (hv1 : v < 18446744073709551616) (w : World) (h : By w Q A n xs) (hn : n ≤ 1099511627776) (hnc : n ≤ c) :
    Calls Tryd.prog 25 #[.slice A n c, .int .u64 v, .int .i64 2] w (Made w (n + 2) (xs ++ beB v.toNat 2)) := by
  obtain ⟨i0, hi, hz0, hz1, hz2⟩ := info_parts Tryd.info_u8
  have hk : wid 2 = true := rfl
  have hwr : IntKind.i64.wrap 6 = 6 := by decide
  have H : Hid (By w Q A n xs) := h
  have E : Hid (vs (beB v.toNat 2) = [.int .u8 (v / 256 % 256), .int .u8 (v % 256)]) := beB_2 v hv0 hv1
  clear h
  go_enter Tryd.func25, Tryd.ntmps25
  go_wp2_with (go_at_call 30; refine (isWidth_any _ _).mono ?_; rintro e w' ⟨rfl, rfl⟩)
  go_rounds 9
  go_region_law (refine step_append_by_grow _ rfl (.tmp 31) (.tmp 34) 22 rfl i0 Tryd.underlying22 hi hz0 hz1 hz2 Q A n xs (by simp [Act.eval, Act.put]) ((H.out.alloc _).drew) (fun _ => True) (some ⟨w.heap.size, 6, none⟩) 2 2 (beB v.toNat 2) (by simp [Act.eval, Act.put]) (put_src2 w v E.out) (by omega) (by omega) ?_; intro v' w1 hown hgrow)
  go_wp2
  go_ret
  exact ⟨v', rfl, own_weak hown (by simp), ((Below.refl _ w).alloc (Nat.le_refl _) _).drew.grown hgrow (by simp) (fun k h => by cases h)⟩

theorem beB_4 (v : Int) (h0 : 0 ≤ v) (h1 : v < 18446744073709551616) : vs (beB v.toNat 4) = [.int .u8 (v / 16777216 % 256), .int .u8 (v / 65536 % 256), .int .u8 (v / 256 % 256), .int .u8 (v % 256)] := by
  simp only [vs, beB, List.map_cons, List.map_nil, List.nil_append, List.cons_append, u8, List.cons.injEq, Value.int.injEq, and_true, true_and]
  simp
  omega

theorem put_src4 (w : World) (v : Int) (E : vs (beB v.toNat 4) = [.int .u8 (v / 16777216 % 256), .int .u8 (v / 65536 % 256), .int .u8 (v / 256 % 256), .int .u8 (v % 256)]) :
    By (w.alloc (.cells #[.int .u8 (v / 72057594037927936), .int .u8 (v / 281474976710656 % 256), .int .u8 (v / 1099511627776 % 256), .int .u8 (v / 4294967296 % 256), .int .u8 (v / 16777216 % 256), .int .u8 (v / 65536 % 256), .int .u8 (v / 256 % 256), .int .u8 (v % 256)] 74)).drew (fun _ => True) (some ⟨w.heap.size, 4, none⟩) 4 (beB v.toNat 4) := by
  refine ⟨beB_length _ _, fun _ => ⟨_, _, rfl, trivial, fun j u hu => ?_⟩⟩
  have h := vs_get (beB v.toNat 4) j
  rw [hu, E] at h
  have hj : j < 4 := by have := (List.getElem?_eq_some_iff.1 hu).1; rw [beB_length] at this; exact this
  show (w.alloc _).cell? _ = _
  rw [cell_of_row _ w.heap.size _ _ _ _ (heap_alloc_new w _)]
  match j, hj with
  | 0, _ => simpa using h
  | 1, _ => simpa using h
  | 2, _ => simpa using h
  | 3, _ => simpa using h

set_option maxHeartbeats 1000000 in
theorem put_4 (Q : Nat → Prop) (A : Option Addr) (n c : Nat) (xs : List UInt8) (v : Int) (hv0 : 0 ≤ v) (hv1 : v < 18446744073709551616) (w : World) (h : By w Q A n xs) (hn : n ≤ 1099511627776) (hnc : n ≤ c) :
    Calls Tryd.prog 25 #[.slice A n c, .int .u64 v, .int .i64 4] w (Made w (n + 4) (xs ++ beB v.toNat 4)) := by
  obtain ⟨i0, hi, hz0, hz1, hz2⟩ := info_parts Tryd.info_u8
  have hk : wid 4 = true := rfl
  have hwr : IntKind.i64.wrap 4 = 4 := by decide
  have H : Hid (By w Q A n xs) := h
  have E : Hid (vs (beB v.toNat 4) = [.int .u8 (v / 16777216 % 256), .int .u8 (v / 65536 % 256), .int .u8 (v / 256 % 256), .int .u8 (v % 256)]) := beB_4 v hv0 hv1
  clear h
  go_enter Tryd.func25, Tryd.ntmps25
  go_wp2_with (go_at_call 30; refine (isWidth_any _ _).mono ?_; rintro e w' ⟨rfl, rfl⟩)
  go_rounds 9
  go_region_law (refine step_append_by_grow _ rfl (.tmp 31) (.tmp 34) 22 rfl i0 Tryd.underlying22 hi hz0 hz1 hz2 Q A n xs (by simp [Act.eval, Act.put]) ((H.out.alloc _).drew) (fun _ => True) (some ⟨w.heap.size, 4, none⟩) 4 4 (beB v.toNat 4) (by simp [Act.eval, Act.put]) (put_src4 w v E.out) (by omega) (by omega) ?_; intro v' w1 hown hgrow)
  go_wp2
  go_ret
  exact ⟨v', rfl, own_weak hown (by simp), ((Below.refl _ w).alloc (Nat.le_refl _) _).drew.grown hgrow (by simp) (fun k h => by cases h)⟩

theorem beB_8 (v : Int) (h0 : 0 ≤ v) (h1 : v < 18446744073709551616) : vs (beB v.toNat 8) = [.int .u8 (v / 72057594037927936), .int .u8 (v / 281474976710656 % 256), .int .u8 (v / 1099511627776 % 256), .int .u8 (v / 4294967296 % 256), .int .u8 (v / 16777216 % 256), .int .u8 (v / 65536 % 256), .int .u8 (v / 256 % 256), .int .u8 (v % 256)] := by
  simp only [vs, beB, List.map_cons, List.map_nil, List.nil_append, List.cons_append, u8, List.cons.injEq, Value.int.injEq, and_true, true_and]
  simp
  omega

theorem put_src8 (w : World) (v : Int) (E : vs (beB v.toNat 8) = [.int .u8 (v / 72057594037927936), .int .u8 (v / 281474976710656 % 256), .int .u8 (v / 1099511627776 % 256), .int .u8 (v / 4294967296 % 256), .int .u8 (v / 16777216 % 256), .int .u8 (v / 65536 % 256), .int .u8 (v / 256 % 256), .int .u8 (v % 256)]) :
    By (w.alloc (.cells #[.int .u8 (v / 72057594037927936), .int .u8 (v / 281474976710656 % 256), .int .u8 (v / 1099511627776 % 256), .int .u8 (v / 4294967296 % 256), .int .u8 (v / 16777216 % 256), .int .u8 (v / 65536 % 256), .int .u8 (v / 256 % 256), .int .u8 (v % 256)] 74)).drew (fun _ => True) (some ⟨w.heap.size, 0, none⟩) 8 (beB v.toNat 8) := by
  refine ⟨beB_length _ _, fun _ => ⟨_, _, rfl, trivial, fun j u hu => ?_⟩⟩
  have h := vs_get (beB v.toNat 8) j
  rw [hu, E] at h
  have hj : j < 8 := by have := (List.getElem?_eq_some_iff.1 hu).1; rw [beB_length] at this; exact this
  show (w.alloc _).cell? _ = _
  rw [cell_of_row _ w.heap.size _ _ _ _ (heap_alloc_new w _)]
  match j, hj with
  | 0, _ => simpa using h
  | 1, _ => simpa using h
  | 2, _ => simpa using h
  | 3, _ => simpa using h
  | 4, _ => simpa using h
  | 5, _ => simpa using h
  | 6, _ => simpa using h
  | 7, _ => simpa using h

set_option maxHeartbeats 1000000 in
theorem put_8 (Q : Nat → Prop) (A : Option Addr) (n c : Nat) (xs : List UInt8) (v : Int) (hv0 : 0 ≤ v) (hv1 : v < 18446744073709551616) (w : World) (h : By w Q A n xs) (hn : n ≤ 1099511627776) (hnc : n ≤ c) :
    Calls Tryd.prog 25 #[.slice A n c, .int .u64 v, .int .i64 8] w (Made w (n + 8) (xs ++ beB v.toNat 8)) := by
  obtain ⟨i0, hi, hz0, hz1, hz2⟩ := info_parts Tryd.info_u8
  have hk : wid 8 = true := rfl
  have hwr : IntKind.i64.wrap 0 = 0 := by decide
  have H : Hid (By w Q A n xs) := h
  have E : Hid (vs (beB v.toNat 8) = [.int .u8 (v / 72057594037927936), .int .u8 (v / 281474976710656 % 256), .int .u8 (v / 1099511627776 % 256), .int .u8 (v / 4294967296 % 256), .int .u8 (v / 16777216 % 256), .int .u8 (v / 65536 % 256), .int .u8 (v / 256 % 256), .int .u8 (v % 256)]) := beB_8 v hv0 hv1
  clear h
  go_enter Tryd.func25, Tryd.ntmps25
  go_wp2_with (go_at_call 30; refine (isWidth_any _ _).mono ?_; rintro e w' ⟨rfl, rfl⟩)
  go_rounds 9
  go_region_law (refine step_append_by_grow _ rfl (.tmp 31) (.tmp 34) 22 rfl i0 Tryd.underlying22 hi hz0 hz1 hz2 Q A n xs (by simp [Act.eval, Act.put]) ((H.out.alloc _).drew) (fun _ => True) (some ⟨w.heap.size, 0, none⟩) 8 8 (beB v.toNat 8) (by simp [Act.eval, Act.put]) (put_src8 w v E.out) (by omega) (by omega) ?_; intro v' w1 hown hgrow)
  go_wp2
  go_ret
  exact ⟨v', rfl, own_weak hown (by simp), ((Below.refl _ w).alloc (Nat.le_refl _) _).drew.grown hgrow (by simp) (fun k h => by cases h)⟩

set_option maxHeartbeats 1000000 in
theorem put_no (Q : Nat → Prop) (A : Option Addr) (n c : Nat) (xs : List UInt8) (v k : Int) (hk : wid k = false) (w : World) (h : By w Q A n xs) (hn : n ≤ 1099511627776) :
    Calls Tryd.prog 25 #[.slice A n c, .int .u64 v, .int .i64 k] w (Made w n xs) := by
  have H : Hid (By w Q A n xs) := h
  clear h
  go_enter Tryd.func25, Tryd.ntmps25
  go_wp2_with (first | (go_at_call 30; refine (isWidth_any _ _).mono ?_; rintro e w' ⟨rfl, rfl⟩) | (go_at_call 13; refine (clone_any Q A n c xs _ H.out (by omega)).mono ?_; rintro e w' ⟨v, rfl, hown, hb⟩))
  go_ret
  exact ⟨_, rfl, hown, hb⟩

/-- PUT, OF WHATEVER BYTES, NUMBER, AND WIDTH. -/
def putB (xs : List UInt8) (v : Nat) (k : Int) : List UInt8 := if wid k then xs ++ beB v k.toNat else xs

def putN (n : Nat) (k : Int) : Nat := if wid k then n + k.toNat else n

theorem put_any (Q : Nat → Prop) (A : Option Addr) (n c : Nat) (xs : List UInt8) (v k : Int) (hv0 : 0 ≤ v) (hv1 : v < 18446744073709551616) (w : World) (h : By w Q A n xs) (hn : n ≤ 1099511627776) (hnc : n ≤ c) :
    Calls Tryd.prog 25 #[.slice A n c, .int .u64 v, .int .i64 k] w (Made w (putN n k) (putB xs v.toNat k)) := by
  unfold putN putB
  cases hk : wid k with
  | false => exact put_no Q A n c xs v k hk w h hn
  | true =>
    rcases wid_iff.1 hk with rfl | rfl | rfl | rfl
    · exact put_1 Q A n c xs v hv0 hv1 w h hn hnc
    · exact put_2 Q A n c xs v hv0 hv1 w h hn hnc
    · exact put_4 Q A n c xs v hv0 hv1 w h hn hnc
    · exact put_8 Q A n c xs v hv0 hv1 w h hn hnc

/-- Block g is just these cells, of type t, all of which may be written. -/
def Blk (w : World) (g : Nat) (t : TypeId) (cs : List Value) : Prop := w.heap[g]? = some (.cells cs.toArray t (0, 0))

section
variable {w w' : World} {g : Nat} {t : TypeId} {cs : List Value}
theorem Blk.lt (h : Blk w g t cs) : g < w.heap.size := (Array.getElem?_eq_some_iff.1 h).1
theorem Blk.cell (h : Blk w g t cs) (i : Nat) : w.cell? ⟨g, i, none⟩ = cs[i]? := by rw [cell_of_row w g i _ t (0, 0) h]; simp
theorem Blk.cellAt (h : Blk w g t cs) {i : Nat} {v : Value} (hv : cs[i]? = some v) : w.cell? ⟨g, i, none⟩ = some v := (h.cell i).trans hv
theorem Blk.frozen (h : Blk w g t cs) (i : Nat) : w.frozen? ⟨g, i, none⟩ = false := frozen_of_row w g i _ t h
theorem Blk.new (w : World) (t : TypeId) (cs : List Value) : Blk (w.alloc (.cells cs.toArray t)) w.heap.size t cs := heap_alloc_new w _
theorem Blk.fresh {A : Array Value} (hg : g = w.heap.size) (h : A = cs.toArray) : Blk (w.alloc (.cells A t)) g t cs := by
  subst hg; subst h
  exact Blk.new w t cs
theorem Blk.drew (h : Blk w g t cs) : Blk w.drew g t cs := h
theorem Blk.drewN (h : Blk w g t cs) (n : Nat) : Blk (w.drewN n) g t cs := h
theorem Blk.alloc (h : Blk w g t cs) (o : Obj) : Blk (w.alloc o) g t cs := (Below.heap_alloc w o g h.lt).trans h
theorem Blk.set_ (h : Blk w g t cs) (i : Nat) (u : Value) : Blk (w.setCell ⟨g, i, none⟩ u) g t (cs.set i u) := by
  unfold Blk at h ⊢
  simp [World.setCell, Array.getElem?_modify, h]
theorem Blk.far (h : Blk w g t cs) {p : Addr} (hp : g ≠ p.block) (u : Value) : Blk (w.setCell p u) g t cs := (Below.heap_setCell w p u g hp).trans h
theorem Blk.below {B : Nat} (h : Blk w g t cs) (hb : Below B w w') (hg : g < B) : Blk w' g t cs := (hb.block g hg).trans h
theorem Blk.through (h : Blk w g t cs) (hb : Below w.heap.size w w') : Blk w' g t cs := h.below hb h.lt
theorem Blk.grown {row : Option Nat} (h : Blk w g t cs) (hb : w.grownBy w' row) (hg : some g ≠ row) : Blk w' g t cs := (hb.block g h.lt hg).trans h
theorem Blk.row (h : Blk w g t cs) (cs' : List Value) : Blk (w.setRow g cs'.toArray) g t cs' := setRow_heap w g _ _ t _ h
theorem Blk.rowFar (h : Blk w g t cs) {g' : Nat} (hg : g ≠ g') (cs' : Array Value) : Blk (w.setRow g' cs') g t cs := (setRow_other w g' g cs' hg).trans h
theorem below_row {B : Nat} {v w : World} (hb : Below B v w) (g : Nat) (hg : B ≤ g) (cs : Array Value) : Below B v (w.setRow g cs) :=
  hb.trans ⟨rfl, rfl, rfl, by simp [World.setRow], fun k hk => setRow_other w g k cs (by omega)⟩
theorem below_drewN {B : Nat} {v w : World} (h : Below B v w) (n : Nat) : Below B v (w.drewN n) := ⟨h.os, h.tape, h.output, h.size, h.block⟩
theorem Blk.ne_ {g' : Nat} {t' : TypeId} {cs' : List Value} (h : Blk w g t cs) (h' : Blk w g' t' cs') (hne : t ≠ t') : g ≠ g' := by
  rintro rfl
  unfold Blk at h h'
  rw [h] at h'
  injection h' with h'
  injection h' with _ ht
  exact hne ht
end

theorem one_u8 {xs : List UInt8} : (vs xs).toArray.all (·.oneCell') = true :=
  Array.all_eq_true_iff_forall_mem.2 fun v hv => vs_one v (by simpa using hv)

/-- Cells that are written from the head on: so many new ones, then the old ones. -/
def swp (new old : List Value) (k : Nat) : List Value := new.take k ++ old.drop k

theorem swp_0 (new old : List Value) : swp new old 0 = old := by simp [swp]

theorem swp_all (new old : List Value) (k : Nat) (h1 : new.length = k) (h2 : old.length = k) : swp new old k = new := by
  unfold swp
  rw [List.take_of_length_le (by omega), List.drop_eq_nil_of_le (by omega), List.append_nil]

theorem swp_at (new old : List Value) (k : Nat) (hn : k < new.length) : (swp new old k)[k]? = old[k]? := by
  unfold swp
  rw [List.getElem?_append_right (by simp; omega), List.length_take, Nat.min_eq_left (by omega), Nat.sub_self, List.getElem?_drop]
  rfl

theorem swp_set (new old : List Value) (k : Nat) (v : Value) (hn : new[k]? = some v) (ho : k < old.length) : (swp new old k).set k v = swp new old (k + 1) := by
  have hk : k < new.length := (List.getElem?_eq_some_iff.1 hn).1
  have hv : new[k] = v := (List.getElem?_eq_some_iff.1 hn).2
  unfold swp
  rw [List.set_append_right _ _ (by rw [List.length_take]; exact Nat.min_le_left _ _), List.length_take, Nat.min_eq_left (by omega), Nat.sub_self, List.take_succ_eq_append_getElem hk, List.append_assoc]
  congr 1
  rw [List.drop_eq_getElem_cons ho, hv]
  rfl

theorem wpList_build_to {P : Program} {ops : Array Oper} {rest : List Oper} {o : Oper} {a : Act} {w : World} {Q : Exit → Act → World → Prop} (hg : o.guard = none) (t : TypeId) (parts : List (Nat × Operand)) (ho : o.op = .build t parts.toArray)
    (vals : List (Nat × Value)) (hv : (parts.map fun p => (p.1, a.eval p.2)) = vals) (v : Value) (hrun : (Instr.build t vals.toArray).run P w = .ok v w)
    (h : wpList P ops Q rest (a.put o.dst v) w) : wpList P ops Q (o :: rest) a w :=
  wpList_plain hg fun _ hK => by
    unfold Oper.wp execOp
    subst hv
    simp only [ho, Sem.run_bind, List.map_toArray, hrun, Result.andThen_ok]
    exact hK _ _ h

/-- 'arr[:h]' of an array behind a pointer. -/
theorem run_sliceArr_h {P : Program} (w : World) (t e : TypeId) (n : Nat) (a : Addr) (k : IntKind) (h : Int) (ht : P.underlying t = some (.array n e)) (hs : ((P.info? e).map (·.size)).isSome = true) (h0 : 0 ≤ h) (h1 : h ≤ n) :
    (Instr.sliceAt t (.pointer (some a)) none (some (.int k h)) none).run P w = .ok (.slice (some a) h.toNat n) w := by
  have eh : (h.toNat : Int) = h := Int.toNat_of_nonneg h0
  have ea : a.add 0 = a := by simp [Addr.add]
  cases hq : P.info? e with
  | none => simp [hq] at hs
  | some info => simp [Instr.sliceAt, Instr.sureAddr, Sem.run_bind, run_underlying ht, Instr.sliceBounds, run_sliceBound, sizeOf, typeInfo, hq, h0, h1, ea]

/-- 'arr[l:]' of an array behind a pointer, of one-cell elements. -/
theorem run_sliceArr_l {P : Program} (w : World) (t e : TypeId) (n g o : Nat) (k : IntKind) (l : Int) (ht : P.underlying t = some (.array n e)) (hs : (P.info? e).map (·.size) = some 1) (h0 : 0 ≤ l) (h1 : l < n) :
    (Instr.sliceAt t (.pointer (some ⟨g, o, none⟩)) (some (.int k l)) none none).run P w = .ok (.slice (some ⟨g, o + l.toNat, none⟩) (n - l.toNat) (n - l.toNat)) w := by
  have hne : ¬ n = l.toNat := by omega
  have h1' : l ≤ n := by omega
  have ea : (⟨g, o, none⟩ : Addr).add l.toNat = ⟨g, o + l.toNat, none⟩ := by unfold Addr.add; split <;> simp_all
  cases hq : P.info? e with
  | none => simp [hq] at hs
  | some info =>
    have hi : info.size = 1 := by simpa [hq] using hs
    simp [Instr.sliceAt, Instr.sureAddr, Sem.run_bind, run_underlying ht, Instr.sliceBounds, run_sliceBound, sizeOf, typeInfo, hq, hi, h0, h1', ea, hne]

/-- An index into an array by value, of one-cell elements. -/
theorem run_index_row {P : Program} (w : World) (t e : TypeId) (n : Nat) (cs : List Value) (k : IntKind) (i : Nat) (v : Value) (h : P.underlying t = some (.array n e))
    (he : (isAgg e).run P w = .ok false w) (hs : (P.info? e).map (·.size) = some 1) (hi : i < n) (hv : cs[i]? = some v) : (Instr.index t (.agg cs.toArray) (.int k i)).run P w = .ok v w := by
  cases hq : P.info? e with
  | none => simp [hq] at hs
  | some info =>
    have hs1 : info.size = 1 := by simpa [hq] using hs
    simp [Instr.index, asIntOf, Sem.run_bind, run_underlying h, sizeOf, typeInfo, hq, hs1, part, he, hi, hv]

theorem vs_getD (b : List UInt8) (j : Nat) (h : j < b.length) : (vs b)[j]? = some (.int .u8 ((b.getD j 0).toNat : Int)) := by
  rw [vs_get, List.getElem?_eq_getElem h]
  simp [u8, List.getD, h]

/- Frames: a block may turn, all others that were there stand. -/
theorem only_refl (w : World) (g : Nat) : w.grownBy w (some g) := World.grownBy.refl w _

theorem only_trans {a b c : World} {g : Nat} (h : a.grownBy b (some g)) (k : b.grownBy c (some g)) : a.grownBy c (some g) :=
  ⟨k.os.trans h.os, k.tape.trans h.tape, k.output.trans h.output, Nat.le_trans h.size k.size, fun i hi hne => (k.block i (Nat.lt_of_lt_of_le hi h.size) hne).trans (h.block i hi hne)⟩

theorem only_below {a b : World} {g : Nat} (h : Below a.heap.size a b) : a.grownBy b (some g) := ⟨h.os, h.tape, h.output, h.size, fun i hi _ => h.block i hi⟩

theorem only_set (w : World) (g i : Nat) (u : Value) : w.grownBy (w.setCell ⟨g, i, none⟩ u) (some g) :=
  ⟨rfl, rfl, rfl, by simp [World.setCell], fun k _ hk => Below.heap_setCell _ _ _ _ (fun e => hk (by rw [e]))⟩

theorem only_row (w : World) (g : Nat) (cs : Array Value) : w.grownBy (w.setRow g cs) (some g) :=
  ⟨rfl, rfl, rfl, by simp [World.setRow], fun k _ hk => setRow_other w g k cs (fun e => hk (by rw [e]))⟩

theorem only_drewN (w : World) (g n : Nat) : w.grownBy (w.drewN n) (some g) := ⟨rfl, rfl, rfl, Nat.le_refl _, fun _ _ _ => rfl⟩

theorem only_drew (w : World) (g : Nat) : w.grownBy w.drew (some g) := ⟨rfl, rfl, rfl, Nat.le_refl _, fun _ _ _ => rfl⟩

theorem By.only {w w' : World} {g n : Nat} {A : Option Addr} {xs : List UInt8} (h : By w (· ≠ g) A n xs) (ho : w.grownBy w' (some g)) : By w' (· ≠ g) A n xs :=
  (h.lt.keep fun k hk => ho.block k hk.2 (fun e => hk.1 (by injection e))).weak fun _ hk => hk.1

/-- Many cells set in a block: the block, and the others. -/
theorem only_cells (g : Nat) : ∀ (vs : List Value) (o : Nat) (w : World), w.grownBy (w.setCells g o vs) (some g)
  | [], _, w => only_refl w g
  | v :: r, o, w => only_trans (only_set w g o v) (only_cells g r (o + 1) (w.setCell ⟨g, o, none⟩ v))

theorem Blk.cells {t : TypeId} (g : Nat) : ∀ (vs : List Value) (pre old rest : List Value) (w : World), old.length = vs.length → Blk w g t (pre ++ (old ++ rest)) → Blk (w.setCells g pre.length vs) g t (pre ++ (vs ++ rest))
  | [], pre, old, rest, w, hl, h => by
    obtain rfl : old = [] := List.eq_nil_of_length_eq_zero hl
    exact h
  | v :: r, pre, [], rest, w, hl, h => by simp at hl
  | v :: r, pre, x :: old, rest, w, hl, h => by
    rw [World.setCells]
    have h1 := h.set_ pre.length v
    rw [List.set_append_right _ _ (Nat.le_refl _), Nat.sub_self] at h1
    have h2 : Blk (w.setCell ⟨g, pre.length, none⟩ v) g t ((pre ++ [v]) ++ (old ++ rest)) := by
      rw [List.append_assoc]
      exact h1
    have h3 := Blk.cells g r (pre ++ [v]) old rest _ (by simpa using hl) h2
    rw [List.length_append] at h3
    rw [List.append_assoc] at h3
    exact h3

/-- ranges of a block that is known whole -/
theorem Blk.range {w : World} {g : Nat} {t : TypeId} {pre cs post : List Value} (h : Blk w g t (pre ++ (cs ++ post))) : w.rangeAt g pre.length cs := fun j v hv => by
  have hj : j < cs.length := (List.getElem?_eq_some_iff.1 hv).1
  rw [h.cell, List.getElem?_append_right (by omega), Nat.add_sub_cancel_left, List.getElem?_append_left hj, hv]

theorem Blk.there {w : World} {g : Nat} {t : TypeId} {cs : List Value} (h : Blk w g t cs) (o n : Nat) (hn : o + n ≤ cs.length) : w.there g o n := fun j hj =>
  ⟨by rw [h.cell, List.getElem?_eq_getElem (by omega)]; rfl, h.frozen _⟩

theorem below_step {v W W' : World} (h : Below v.heap.size v W) (hb : Below W.heap.size W W') : Below v.heap.size v W' := h.trans (hb.mono h.size)

/-- copy into a block that is known whole, in a region that draws its order. -/
theorem step_copy_blk {P : Program} {ops : Array Oper} {o : Oper} {a : Act} {w : World} {K : Act → World → Prop} {Q : Exit → Act → World → Prop} {E : Prop} (hgd : o.guard = none) (d s : Operand) (dT sT : TypeId)
    (ho : o.op = .call { callee := .builtin .copy, args := #[d, s], argTypes := #[dT, sT] }) (elem : TypeId) (hu : P.underlying dT = some (.slice elem)) (hsz : (P.info? elem).map (·.size) = some 1)
    (g off dLen dCap : Nat) (sp : Option Addr) (sLen sCap : Nat) (hd : a.eval d = .slice (some ⟨g, off, none⟩) dLen dCap) (hs : a.eval s = .slice sp sLen sCap)
    (cur : List Value) (t : TypeId) (hg : Blk w g t cur) (cs : List Value) (kk : Nat) (hk : cs.length = kk) (hn : kk = Nat.min sLen dLen) (hpos : 0 < kk)
    (hsrc : ∃ ad, sp = some ad ∧ ∀ j v, cs[j]? = some v → w.cell? (ad.add j) = some v) (hfit : off + kk ≤ cur.length) (h1 : ∀ v ∈ cs, v.oneCell' = true)
    (h : ∀ w', Blk w' g t (splice cur off cs) → w.grownBy w' (some g) → K (a.put o.dst (.int .i64 (kk : Int))) w') :
    if Region.wanted o (yielded ops a.tmps) = true then Oper.wp P o a w K Q else E := by
  have hw : Region.wanted o (yielded ops a.tmps) = true := by simp [Region.wanted, hgd]
  rw [if_pos hw]
  obtain ⟨ad, rfl, hsrc⟩ := hsrc
  subst hk
  have hrun := run_copy_row (P := P) w dT sT o.type elem g off dLen dCap ad sLen sCap cur.toArray t cs hu hsz hg hn hsrc (by simpa using hfit) h1
  unfold Oper.wp
  simp [execOp, ho, resolve, invoke, builtin, hd, hs, hrun, Result.andThen]
  exact h _ (show _ = _ by simpa [splice] using setRow_heap w g _ _ t _ hg) (only_row w g _)

/-- A load, and a store, of many cells, in a region that draws its order. -/
theorem step_load_at {P : Program} {ops : Array Oper} {o : Oper} {a : Act} {w : World} {K : Act → World → Prop} {Q : Exit → Act → World → Prop} {E : Prop} (hgd : o.guard = none) (ty : TypeId) (x : Operand) (ho : o.op = .load ty x)
    (p : Value) (hx : a.eval x = p) (v : Value) (hrun : (Instr.loadAt ty p).run P w = .ok v w) (h : K (a.put o.dst v) w) : if Region.wanted o (yielded ops a.tmps) = true then Oper.wp P o a w K Q else E := by
  have hw : Region.wanted o (yielded ops a.tmps) = true := by simp [Region.wanted, hgd]
  rw [if_pos hw]
  unfold Oper.wp execOp
  simp only [ho, hx, Sem.run_bind, hrun, Result.andThen_ok]
  exact h

theorem step_store_at {P : Program} {ops : Array Oper} {o : Oper} {a : Act} {w : World} {K : Act → World → Prop} {Q : Exit → Act → World → Prop} {E : Prop} (hgd : o.guard = none) (ty : TypeId) (x y : Operand) (ho : o.op = .store ty x y)
    (p v : Value) (hx : a.eval x = p) (hy : a.eval y = v) (w' : World) (hrun : (Instr.storeAt ty p v).run P w = .ok () w') (h : K (a.put o.dst undef) w') : if Region.wanted o (yielded ops a.tmps) = true then Oper.wp P o a w K Q else E := by
  have hw : Region.wanted o (yielded ops a.tmps) = true := by simp [Region.wanted, hgd]
  rw [if_pos hw]
  unfold Oper.wp execOp
  simp only [ho, hx, hy, Sem.run_bind, hrun, Result.andThen_ok]
  exact h

/-- A whole row, loaded. -/
theorem Blk.loadAt {P : Program} {w : World} {g : Nat} {t : TypeId} {cs : List Value} (h : Blk w g t cs) (ty : TypeId) (d : TypeDesc) (hu : P.underlying ty = some d)
    (hd : (match d with | .struct _ | .array _ _ => true | _ => false) = true) (hi : (P.info? ty).map (·.size) = some cs.length) : (Instr.loadAt ty (.pointer (some ⟨g, 0, none⟩))).run P w = .ok (.agg cs.toArray) w := by
  simp only [Instr.loadAt, Instr.sureAddr, Sem.run_bind, Sem.run_pure, Result.andThen_ok, run_loadVar_row w g t ty cs.toArray (0, 0) d h hu hd (by simpa using hi)]

/-- '[]T{}', and append onto a row of the call's own, in a region that draws its order (guarded or not). -/
theorem step_build_empty {P : Program} {ops : Array Oper} {o : Oper} {a : Act} {w : World} {K : Act → World → Prop} {Q : Exit → Act → World → Prop} {E : Prop} (hw : Region.wanted o (yielded ops a.tmps) = true) (t : TypeId) (ho : o.op = .buildSlice t 0 #[])
    (v : Value) (w' : World) (hrun : (Instr.buildSlice t 0 #[]).run P w = .ok v w') (h : K (a.put o.dst v) w') : if Region.wanted o (yielded ops a.tmps) = true then Oper.wp P o a w K Q else E := by
  rw [if_pos hw]
  unfold Oper.wp execOp
  simp only [ho, Sem.run_bind, List.map_toArray, List.map_nil, hrun, Result.andThen_ok]
  exact h

theorem step_append_by {P : Program} {ops : Array Oper} {o : Oper} {a : Act} {w : World} {K : Act → World → Prop} {R : Exit → Act → World → Prop} {E : Prop} (hw : Region.wanted o (yielded ops a.tmps) = true) (s x : Operand) (t : TypeId)
    (ho : o.op = .call { callee := .builtin .append, args := #[s, x], argTypes := #[t, t] })
    (base : Nat) (i : TypeInfo) (ht : P.underlying t = some (.slice 5)) (hi : P.info? 5 = some i) (hz : i.zero = some (.int .u8 0))
    (hsize : i.size = 1) (hby : i.bytes = 1) (v : Value) (n : Nat) (ys : List UInt8) (hs : a.eval s = v) (hown : w.ownsRow base 5 1 v n (vs ys))
    (Q : Nat → Prop) (A : Option Addr) (m c : Nat) (xs : List UInt8) (hx : a.eval x = .slice A m c) (hr : By w Q A m xs) (hbytes : n + m ≤ 140737488355328) (hbase : base ≤ w.heap.size) (N : Nat) (hN : n + m = N) (zs : List UInt8) (hzs : ys ++ xs = zs)
    (h : ∀ A' c' w', w'.ownsRow base 5 1 (.slice A' N c') N (vs zs) → N ≤ c' → c' ≤ maxLen → Below base w w' → K (a.put o.dst (.slice A' N c')) w') :
    if Region.wanted o (yielded ops a.tmps) = true then Oper.wp P o a w K R else E := by
  rw [if_pos hw]
  obtain ⟨v', w', hrun, h2, h3, h4⟩ := run_append_by (P := P) w base t o.type i ht hi hz hsize hby v n (vs ys) hown Q A m c xs hr hbytes hbase
  rw [vs_append] at h2
  subst hN; subst hzs
  obtain ⟨A', c', rfl, hc1, hc2, _⟩ := own_form h2
  unfold Oper.wp execOp
  simp only [ho, resolve, invoke, builtin, Sem.run_bind, Sem.run_pure, Result.andThen_ok, List.map_toArray, List.map_cons, List.map_nil, hs, hx, hrun]
  exact h A' c' w' h2 hc1 hc2 ((Below.refl _ w).grown h3 hbase (fun k hk => (hown.lt k hk).1))

/-- A store of a whole row, the world behind it a letter. -/
theorem wpList_store_blk {P : Program} {ops : Array Oper} {rest : List Oper} {o : Oper} {a : Act} {w : World} {Q : Exit → Act → World → Prop} (hgd : o.guard = none) (ty : TypeId) (x y : Operand) (ho : o.op = .store ty x y)
    (g : Nat) (cells : List Value) (hx : a.eval x = .pointer (some ⟨g, 0, none⟩)) (hy : a.eval y = .agg cells.toArray) (t : TypeId) (old : List Value) (hg : Blk w g t old) (hi : (P.info? ty).map (·.size) = some cells.length)
    (hold : old.length = cells.length) (h1 : cells.toArray.all (·.oneCell') = true)
    (h : ∀ w', Blk w' g t cells → w.grownBy w' (some g) → wpList P ops Q rest (a.put o.dst undef) w') : wpList P ops Q (o :: rest) a w :=
  wpList_store_row hgd ty x y ho g cells.toArray hx hy t old.toArray hg (by simpa using hi) (by simpa using hold) h1 (h _ (hg.row cells) (only_row w g _))

/-- A load of a whole row. -/
theorem wpList_load_blk {P : Program} {ops : Array Oper} {rest : List Oper} {o : Oper} {a : Act} {w : World} {Q : Exit → Act → World → Prop} (hgd : o.guard = none) (ty : TypeId) (x : Operand) (ho : o.op = .load ty x)
    (g : Nat) (hx : a.eval x = .pointer (some ⟨g, 0, none⟩)) (t : TypeId) (cells : List Value) (d : TypeDesc) (hg : Blk w g t cells)
    (hu : P.underlying ty = some d) (hd : (match d with | .struct _ | .array _ _ => true | _ => false) = true) (hi : (P.info? ty).map (·.size) = some cells.length)
    (h : wpList P ops Q rest (a.put o.dst (.agg cells.toArray)) w) : wpList P ops Q (o :: rest) a w :=
  wpList_load_row hgd ty x ho g hx t cells.toArray (0, 0) d hg hu hd (by simpa using hi) h

/-- What holds under a condition on the world holds under a stronger one that is kept. -/
theorem wpAnyH_weaken {P : Program} {md : Region.Mode} {ops : Array Oper} {Q : Exit → Act → World → Prop} {S S' : World → Prop} (h : ∀ w, S' w → S w) :
    ∀ (fuel : Nat) (listed : Array Bool) (a : Act) (w : World), wpAnyH P md ops Q S' fuel listed a w → wpAnyH P md ops Q S fuel listed a w
  | 0, _, _, _, hh => hh
  | fuel + 1, _, _, _, hh => ⟨hh.1, fun i hi => wpOp_mono (fun a w hk => ⟨h w hk.1, wpAnyH_weaken h fuel _ a w hk.2⟩) (hh.2 i hi)⟩

theorem yields_load_at {P : Program} {ops : Array Oper} {S : World → Prop} {op : Oper} {a : Act} (hw : Region.wanted op (yielded ops a.tmps) = true) (ty : TypeId) (x : Operand) (ho : op.op = .load ty x)
    (p : Value) (hx : a.eval x = p) (v : Value) (hS : ∀ w, S w → (Instr.loadAt ty p).run P w = .ok v w) : YieldsIf P ops S op v a :=
  .inl ⟨hw, fun w hw' => by
    unfold execOp
    simp only [ho, hx, Sem.run_bind, hS w hw', Result.andThen_ok]
    rfl⟩

/-- 'b[k:]', whatever the capacity. -/
def cutA (A : Option Addr) (c k : Nat) : Option Addr := if c = k then A else A.map (·.add k)

theorem run_cut {P : Program} (w : World) (t e : TypeId) (A : Option Addr) (n c : Nat) (kd : IntKind) (k : Nat) (ht : P.underlying t = some (.slice e)) (hs : (P.info? e).map (·.size) = some 1) (hk : k ≤ n) :
    (Instr.slice t (.slice A n c) (some (.int kd (k : Int))) none none).run P w = .ok (.slice (cutA A c k) (n - k) (c - k)) w := by
  cases hq : P.info? e with
  | none => simp [hq] at hs
  | some info =>
    have hi : info.size = 1 := by simpa [hq] using hs
    simp [Instr.slice, Sem.run_bind, run_underlying ht, Instr.sliceBounds, run_sliceBound, sizeOf, typeInfo, hq, hi, hk, cutA]

def zero32 : List UInt8 := List.replicate 32 0

theorem By.fresh {w : World} {A : Array Value} {e : TypeId} {fr : Nat × Nat} (xs : List UInt8) (h : A = (vs xs).toArray) : By (w.alloc (.cells A e fr)) (fun _ => True) (some ⟨w.heap.size, 0, none⟩) xs.length xs :=
  ⟨rfl, fun _ => ⟨_, 0, rfl, trivial, fun j u hu => by
    subst h
    rw [Nat.zero_add, cell_of_row _ w.heap.size _ _ _ _ (heap_alloc_new w _), List.getElem?_toArray, vs_get, hu]
    rfl⟩⟩

theorem run_eqItems_bytes {P : Program} (d : Nat) (e : TypeId) (w : World) (he : P.underlying e = some (.int .u8)) (xs ys : List UInt8) :
    ∀ (m k : Nat), k + m = xs.length → xs.length = ys.length → (Op.eqItems (d + 1) e 1 (vs xs).toArray (vs ys).toArray (List.range' k m)).run P w = .ok (xs.drop k == ys.drop k) w
  | 0, k, h, hl => by
    rw [List.drop_eq_nil_of_le (by omega), List.drop_eq_nil_of_le (by omega)]
    rfl
  | m + 1, k, h, hl => by
    have hk : k < xs.length := by omega
    have hk2 : k < ys.length := by omega
    have hag : (isAgg e).run P w = .ok false w := by simp [isAgg, Sem.run_bind, run_underlying he]
    have hp : ∀ zs : List UInt8, (hz : k < zs.length) → (part e (vs zs).toArray (k * 1)).run P w = .ok (u8 zs[k]) w := fun zs hz => by
      have hv : (vs zs)[k]? = some (u8 zs[k]) := by rw [vs_get, List.getElem?_eq_getElem hz]; rfl
      simp [part, Sem.run_bind, hag, hv]
    have ih := run_eqItems_bytes d e w he xs ys m (k + 1) (by omega) hl
    rw [List.range'_succ]
    simp only [Op.eqItems, Sem.run_bind, hp xs hk, hp ys hk2, Result.andThen_ok]
    unfold u8
    rw [run_equalIn_int w d e .u8 .u8 _ _ he, List.drop_eq_getElem_cons hk, List.drop_eq_getElem_cons hk2]
    simp only [Result.andThen_ok, List.cons_beq_cons]
    by_cases hx : xs[k] = ys[k]
    · simp [hx, ih]
    · have hne : ((xs[k].toNat : Int) == (ys[k].toNat : Int)) = false := by
        simp only [beq_eq_false_iff_ne, ne_eq]
        intro h
        exact hx (UInt8.toNat_inj.1 (by omega))
      simp [hne, hx]

/-- WHETHER TWO ARRAYS OF BYTES ARE THE SAME. -/
theorem run_eql_bytes {P : Program} (w : World) (t e : TypeId) (n : Nat) (ht : P.underlying t = some (.array n e)) (he : P.underlying e = some (.int .u8)) (hs : (P.info? e).isSome = true) (hc : P.cellsOf e = 1) (xs ys : List UInt8) (hx : xs.length = n) (hy : ys.length = n) :
    (binOp .eql t (.agg (vs xs).toArray) (.agg (vs ys).toArray)).run P w = .ok (.bool (xs == ys)) w := by
  obtain ⟨i, hi⟩ := Option.isSome_iff_exists.1 hs
  rw [run_eql_struct, show (10000 : Nat) = 9998 + 1 + 1 from rfl, run_equalIn_array w (9998 + 1) _ _ ht hi, hc, List.range_eq_range', run_eqItems_bytes 9998 e w he xs ys n 0 (by omega) (by omega)]
  rfl

/-- A block that holds bytes reads as them. -/
theorem By.of_blk {w : World} {g : Nat} {t : TypeId} {xs : List UInt8} (h : Blk w g t (vs xs)) {Q : Nat → Prop} (hQ : Q g) : By w Q (some ⟨g, 0, none⟩) xs.length xs :=
  ⟨rfl, fun _ => ⟨g, 0, rfl, hQ, fun j u hu => by
    rw [Nat.zero_add, h.cell, vs_get, hu]
    rfl⟩⟩

theorem By.of_blk_n {w : World} {g n : Nat} {t : TypeId} {xs : List UInt8} (h : Blk w g t (vs xs)) (hn : xs.length = n) {Q : Nat → Prop} (hQ : Q g) : By w Q (some ⟨g, 0, none⟩) n xs := by
  subst hn
  exact By.of_blk h hQ

/-- what copy takes from it -/
theorem By.srcAll {w : World} {Q : Nat → Prop} {A : Option Addr} {n : Nat} {xs : List UInt8} (h : By w Q A n xs) (hpos : 0 < (vs xs).length) : ∃ ad, A = some ad ∧ ∀ j v, (vs xs)[j]? = some v → w.cell? (ad.add j) = some v := by
  rw [vs_length, h.1] at hpos
  obtain ⟨g, o, e, _, hc⟩ := h.2 hpos
  refine ⟨_, e, fun j v hv => ?_⟩
  rw [vs_get] at hv
  obtain ⟨x, hx, rfl⟩ := Option.map_eq_some_iff.1 hv
  have ea : (⟨g, o, none⟩ : Addr).add j = ⟨g, o + j, none⟩ := by unfold Addr.add; split <;> simp_all
  rw [ea]
  exact hc j x hx

/-- A store of a whole row, the world behind it a letter, at a step of a region that draws. -/
theorem step_store_blk {P : Program} {ops : Array Oper} {o : Oper} {a : Act} {w : World} {K : Act → World → Prop} {Q : Exit → Act → World → Prop} {E : Prop} (hgd : o.guard = none) (ty : TypeId) (x y : Operand) (ho : o.op = .store ty x y)
    (g : Nat) (cells : List Value) (hx : a.eval x = .pointer (some ⟨g, 0, none⟩)) (hy : a.eval y = .agg cells.toArray) (t : TypeId) (old : List Value) (hg : Blk w g t old) (hi : (P.info? ty).map (·.size) = some cells.length)
    (hold : old.length = cells.length) (h1 : cells.toArray.all (·.oneCell') = true)
    (h : ∀ w', Blk w' g t cells → w.grownBy w' (some g) → K (a.put o.dst undef) w') : if Region.wanted o (yielded ops a.tmps) = true then Oper.wp P o a w K Q else E := by
  have hw : Region.wanted o (yielded ops a.tmps) = true := by simp [Region.wanted, hgd]
  rw [if_pos hw]
  exact wp_store_row ty x y ho g cells.toArray hx hy t old.toArray hg (by simpa using hi) (by simpa using hold) h1 (h _ (hg.row cells) (only_row w g _))

/-- one byte, in a block of its own -/
theorem By.one8 {w : World} {Q : Nat → Prop} {b : UInt8} (t : TypeId) (hQ : Q w.heap.size) : By (w.alloc (.cells #[.int .u8 (b.toNat : Int)] t)) Q (some ⟨w.heap.size, 0, none⟩) 1 [b] := by
  refine ⟨rfl, fun _ => ⟨_, _, rfl, hQ, fun j u hu => ?_⟩⟩
  match j, hu with
  | 0, hu =>
    simp at hu
    subst hu
    rw [cell_of_row _ w.heap.size _ _ _ _ (heap_alloc_new w _)]
    rfl

/-- A load of a whole row, guarded. -/
theorem wpList_load_blk_g {P : Program} {ops : Array Oper} {rest : List Oper} {o : Oper} {a : Act} {w : World} {Q : Exit → Act → World → Prop} (ty : TypeId) (x : Operand) (ho : o.op = .load ty x) (hw : Region.wanted o (yielded ops a.tmps) = true)
    (g : Nat) (hx : a.eval x = .pointer (some ⟨g, 0, none⟩)) (t : TypeId) (cells : List Value) (d : TypeDesc) (hg : Blk w g t cells)
    (hu : P.underlying ty = some d) (hd : (match d with | .struct _ | .array _ _ => true | _ => false) = true) (hi : (P.info? ty).map (·.size) = some cells.length)
    (h : wpList P ops Q rest (a.put o.dst (.agg cells.toArray)) w) : wpList P ops Q (o :: rest) a w := by
  rw [wpList, if_pos hw]
  exact .inl (wp_load_row ty x ho g hx t cells.toArray (0, 0) d hg hu hd (by simpa using hi) h)

/-- A conversion, taken first in a region that draws. -/
theorem yields_conv {P : Program} {ops : Array Oper} {S : World → Prop} {op : Oper} {a : Act} (hw : Region.wanted op (yielded ops a.tmps) = true) (src dst : TypeId) (x : Operand) (ho : op.op = .convert src dst x)
    (p : Value) (hx : a.eval x = p) (v : Value) (hS : ∀ w, S w → (convert src dst p).run P w = .ok v w) : YieldsIf P ops S op v a :=
  .inl ⟨hw, fun w hw' => by
    unfold execOp
    simp only [ho, hx, Sem.run_bind, hS w hw', Result.andThen_ok]
    rfl⟩

theorem By.rowBy {w : World} {g n : Nat} {A : Option Addr} {xs : List UInt8} {b : Nat} {cs : Array Value} (h : By w (fun k => k < g) A n xs) (hb : ∀ k, k < g → k ≠ b) : By (w.setRow b cs) (fun k => k < g) A n xs :=
  h.keep fun k hk => setRow_other w b k cs (hb k hk)

/-- A lookup, taken first in a region that draws. -/
theorem yields_lookup {P : Program} {ops : Array Oper} {S : World → Prop} {op : Oper} {a : Act} (hw : Region.wanted op (yielded ops a.tmps) = true) (t : TypeId) (m x : Operand) (ho : op.op = .lookup t m x true)
    (vm vx : Value) (hm : a.eval m = vm) (hx : a.eval x = vx) (v : Value) (hS : ∀ w, S w → (Instr.lookup t vm vx true).run P w = .ok v w) : YieldsIf P ops S op v a :=
  .inl ⟨hw, fun w hw' => by
    unfold execOp
    simp only [ho, hm, hx, Sem.run_bind, hS w hw', Result.andThen_ok]
    rfl⟩

/-- A new variable, at a step of a region that draws. -/
theorem step_alloc {P : Program} {ops : Array Oper} {o : Oper} {a : Act} {w : World} {K : Act → World → Prop} {Q : Exit → Act → World → Prop} {E : Prop} (hw : Region.wanted o (yielded ops a.tmps) = true) (t : TypeId) (ho : o.op = .alloc t)
    (v : Value) (w' : World) (hrun : (Instr.alloc t true (.tuple #[])).run P w = .ok v w') (h : K (a.put o.dst v) w') : if Region.wanted o (yielded ops a.tmps) = true then Oper.wp P o a w K Q else E := by
  rw [if_pos hw]
  unfold Oper.wp execOp
  simp only [ho, Sem.run_bind, hrun, Result.andThen_ok]
  exact h

theorem below_new {w w' : World} {o : Obj} (ho : (w.alloc o).grownBy w' (some w.heap.size)) : Below w.heap.size w w' :=
  ((Below.refl _ w).alloc (Nat.le_refl _) o).grown ho (by simp) (fun k hk => Option.some.inj hk ▸ Nat.le_refl _)

end Go.Proofs.YtnncfhkgcaoomaaDoor
