/-
  VoD VoG RqT VoH VoB VoC ChM
-/
import Derived.Test.YtheecifgbkdecaaSN11
import Derived.Test.YtheecifgbkdecaaSN5
import Derived.Test.YtheecifgbkdecaaSN7
import Derived.Test.YtheecifgbkdecaaSN9
namespace Go.Proofs.Ytheecifgbkdecaa
open Go.RowKit

theorem ret_bo {b c : Bool} (h : b = c) : Ending.returned (.bool b) = Ending.returned (.bool c) := by rw [h]

set_option maxHeartbeats 1000000 in
theorem rview_any (v : Int) (w : World) : Calls Try.prog 64 #[.int .i64 v] w fun e w' => e = .returned (.bool (isW v)) ∧ w' = w := by
 unfold isW
 by_cases h1 : 0 ≤ v
 ·have d1 : decide (0 ≤ v) = true := by simpa using h1
  go_enter Try.func64, Try.ntmps64
  go_wp2
  go_ret
  exact ⟨ret_bo (by simp [h1]), rfl⟩
 ·have d1 : decide (0 ≤ v) = false := by simpa using h1
  go_enter Try.func64, Try.ntmps64
  go_wp2
  go_ret
  exact ⟨ret_bo (by simp), rfl⟩

set_option maxHeartbeats 1000000 in
theorem rseq_any (v : Int) (w : World) : Calls Try.prog 100 #[.int .i64 v] w fun e w' => e = .returned (.bool (isW v)) ∧ w' = w := by
 unfold isW
 by_cases h1 : 0 ≤ v
 ·have d1 : decide (0 ≤ v) = true := by simpa using h1
  go_enter Try.func100, Try.ntmps100
  go_wp2
  go_ret
  exact ⟨ret_bo (by simp [h1]), rfl⟩
 ·have d1 : decide (0 ≤ v) = false := by simpa using h1
  go_enter Try.func100, Try.ntmps100
  go_wp2
  go_ret
  exact ⟨ret_bo (by simp), rfl⟩

end Go.Proofs.Ytheecifgbkdecaa

namespace Go.Proofs.Ytheecifgbkdecaa
open Go.RowKit

set_option maxHeartbeats 16000000 in
set_option maxRecDepth 100000 in
theorem rdig17_any {Q : Nat → Prop} (xs d : List UInt8) (A : Option Addr) (n c : Nat) (w : World) (h : By w Q A n xs) (hd : d.length = 32) (hL : xs.length ≤ 1000000000000) :
  Calls Try.prog 42 #[.slice A n c, .agg (vs d).toArray] w (Byt w (xs ++ d)) := by
 obtain ⟨i0, hi, hz0, hz1, hz2⟩ := info_parts Try.info_u8
 obtain ⟨w1, hw1⟩ : ∃ w1, w.alloc (.cells (vs d).toArray 40) = w1 := ⟨_, rfl⟩
 have HX1 : Hid (Below w.heap.size w w1) := Lib.hid (hw1 ▸ below1_ w _)
 have HB1 : Hid (Blk w1 w.heap.size 40 (vs d)) := Lib.hid (hw1 ▸ Blk.fresh rfl rfl)
 have HY1 : Hid (By w1 Q A n xs) := Lib.hid (h.through HX1.out)
 have HL : Hid (n ≤ 1000000000000) := Lib.hid (by rw [← h.len]; exact hL)
 have HD := Lib.hid hd
 have HIdx : Hid (∀ (W : World) (i : Nat) (x : UInt8), i < 32 → d[i]? = some x → (Instr.index 40 (.agg (vs d).toArray) (.int .i64 (i : Int))).run Try.prog W = .ok (.int .u8 (x.toNat : Int)) W) := Lib.hid (fun W i x h1 h2 => run_index_row W 40 5 32 (vs d) .i64 i (u8 x) Try.underlying40 (by kernel_rfl) (by kernel_rfl) h1 (by rw [vs_get, h2]; rfl))
 clear h hL hd
 go_enter Try.func42, Try.ntmps42
 go_wp2_with (first
  | (at_builtin; refine wpList_append_by _ rfl (.tmp 8) (.tmp 9) 28 rfl w1.heap.size i0 Try.underlying28 hi hz0 hz1 hz2 (.slice (some ⟨w1.heap.size, 0, none⟩) 0 0) 0 [] rfl (World.ownsRow_made w1 #[] 0 (Nat.le_refl _) (Nat.zero_le _) rfl) Q A n c xs rfl (HY1.out.alloc _) (by have := HL.out; omega) (by simp) ?_; intro v6 w6 hown6 hgrow6 _; have HX6 : Hid (Below w1.heap.size w1 w6) := Lib.hid (((Below.refl _ w1).alloc (Nat.le_refl _) (.cells #[] 5)).grown hgrow6 (below1_ w1 _).size (fun k hk => by simp [Value.ownBlock] at hk; omega)); have HO6 : Hid (w6.ownsRow w1.heap.size 5 1 v6 xs.length (vs xs)) := Lib.hid (by rw [Nat.zero_add, List.nil_append, ← HY1.out.len] at hown6; exact hown6); clear hown6 hgrow6)
  | (refine wpList_load_blk rfl 40 (.tmp 3) rfl w.heap.size rfl 40 (vs d) _ (HB1.out.through HX6.out) Try.underlying40 rfl (by rw [vs_length, HD.out]; kernel_rfl) ?_))
 go_loopw [5, 12] (fun bv kv wr => ∃ (p : Nat) (ys : List UInt8) (v' : Value), p ≤ 32 ∧ kv = .int .i64 (p : Int) ∧ v' = bv ∧ ys ++ d.drop p = xs ++ d ∧ wr.ownsRow w1.heap.size 5 1 v' ys.length (vs ys) ∧ Below w1.heap.size w1 wr) (fun _ kv _ => 32 - (intOf kv).toNat)
 case atStart => exact ⟨0, xs, v6, by omega, rfl, rfl, by simp, HO6.out, HX6.out⟩
 case round =>
  obtain ⟨p, ys, v', hp, rfl, rfl, hpq, hown, hx⟩ := hrel
  have HO := Lib.hid hown
  have HX := Lib.hid hx
  have HPQ := Lib.hid hpq
  clear hown hx hpq
  by_cases hltm : p < 32
  ·have hml : p < d.length := by rw [HD.out]; exact hltm
   have hget := List.getElem?_eq_getElem hml
   have hdm := List.drop_eq_getElem_cons hml
   generalize d[p] = x at hget hdm
   have hidx := fun W => HIdx.out W p x hltm hget
   have HPQ4 : Hid ((ys ++ [x]) ++ d.drop (p + 1) = xs ++ d) := Lib.hid (by rw [← HPQ.out, hdm]; simp)
   have HBD : Hid (ys.length + 1 ≤ 140737488355328) := Lib.hid (by have h9 := congrArg List.length HPQ4.out; simp only [List.length_append, List.length_cons, List.length_nil] at h9; have := HL.out; have := HY1.out.len; have := HD.out; omega)
   clear hget hdm hml
   go_wp2_with (first
    | (at_builtin; refine wpList_append_by _ rfl (.tmp 15) (.tmp 17) 28 rfl w1.heap.size i0 Try.underlying28 hi hz0 hz1 hz2 v' ys.length (vs ys) rfl (HO.out.alloc _) (fun _ => True) (some ⟨wr.heap.size, 0, none⟩) 1 1 [x] rfl (By.one8 _ trivial) HBD.out (Nat.le_trans HX.out.size (below1_ wr _).size) ?_; intro v9 w9 hown9 hgrow9 _; have HN9 : Hid (w9.ownsRow w1.heap.size 5 1 v9 (ys ++ [x]).length (vs (ys ++ [x]))) := Lib.hid (by rw [List.length_append, ← vs_append]; exact hown9); have HX9 : Hid (Below w1.heap.size w1 w9) := Lib.hid ((HX.out.alloc HX.out.size _).grown hgrow9 (Nat.le_trans HX.out.size (below1_ wr _).size) (fun g hg => (HO.out.lt g hg).1)); clear hown9 hgrow9))
   go_roundw
   case rel => exact ⟨p + 1, ys ++ [x], v9, by omega, by go_num, rfl, HPQ4.out, HN9.out, HX9.out⟩
   case measure => simp [intOf]; omega
  ·have hm32 : p = 32 := by omega
   subst hm32
   have HPQ4 : Hid (ys = xs ++ d) := Lib.hid (by
    have e32 : d.drop 32 = [] := List.drop_of_length_le (by rw [HD.out]; exact Nat.le_refl _)
    rw [← HPQ.out, e32, List.append_nil])
   obtain ⟨A7, c7, rfl, hn7, hm7, _⟩ := own_form HO.out
   go_wp2
   go_ret
   rw [← HPQ4.out]
   exact ⟨A7, _, c7, rfl, (By.of_own HO.out).weak fun _ _ => trivial, hn7, hm7, below_step HX1.out HX.out⟩

end Go.Proofs.Ytheecifgbkdecaa

namespace Go.Proofs.Ytheecifgbkdecaa
open Go.RowKit

section
variable {Q : Nat → Prop} {g : Nat} {st : Option (List UInt8)} {w : World}
set_option maxHeartbeats 1000000 in
theorem fixed_at (g : Nat) (xs : List UInt8) (er k : Int) (hx : xs.length ≤ 1099511627776) (w : World) (h : RS Q w g tR xs er) :
  Calls Try.prog 95 #[.pointer (some ⟨g, 0, none⟩), .int .i64 k] w (Gave Q w g tR (takeY xs er k) (takeX xs er k) (takeE xs er k)) := by
 have hcon := take_any g xs er k w h
 have hl2 := Nat.le_trans (takeY_le xs er k) hx
 clear h
 go_enter Try.func95, Try.ntmps95
 go_wp2_with (first
  | (go_at_call 94; refine hcon.mono ?_; rintro e w1 ⟨B, m, c, rfl, hmc, hy, hr, ho⟩; have HY := Lib.hid hy; have HR := Lib.hid hr; have HO := Lib.hid ho; clear hy hr ho)
  | (go_at_call 89; refine (clone_any _ B m c _ _ HY.out (by have := HY.out.len; omega)).mono ?_; rintro e w2 ⟨v2, rfl, hown, hb⟩))
 go_ret
 exact Gave.of_made HO.out HR.out hown hb
theorem fixed_rs (h : Rs Q w g tR st) (k : Nat) : Calls Try.prog 95 #[.pointer (some ⟨g, 0, none⟩), .int .i64 k] w fun e w' => ∃ B m c, e = .returned (.slice B m c) ∧ By w' (fun _ => True) B m (tval k st) ∧ Rs Q w' g tR (nnext k st) ∧ w.grownBy w' (some g) := by
 obtain ⟨xs, er, h, hs, hl⟩ := h
 obtain ⟨h1, h2⟩ := take_st hs k
 rw [← h1]
 exact (fixed_at g xs er k hl w h).mono fun e w' ⟨B, m, c, he, hm, hy, hr, hg⟩ => ⟨B, m, c, he, hy, ⟨_, _, hr, h2, Nat.le_trans (takeX_le _ _ _) hl⟩, hg⟩
end
theorem only_new_ {a b c : World} {g h : Nat} (hab : a.grownBy b (some g)) (hbc : b.grownBy c (some h)) (hh : a.heap.size ≤ h) : a.grownBy c (some g) :=
 ⟨hbc.os.trans hab.os, hbc.tape.trans hab.tape, hbc.output.trans hab.output, Nat.le_trans hab.size hbc.size, fun i hi hne => (hbc.block i (Nat.lt_of_lt_of_le hi hab.size) (fun e => by have := Option.some.inj e; omega)).trans (hab.block i hi hne)⟩
theorem tval_32 (st : Option (List UInt8)) : (tval 32 st).length = 32 ∨ tval 32 st = [] := by
 cases st with
 | none => exact .inr rfl
 | some xs =>
  rw [tval_some]
  split
  ·exact .inl (by rw [List.length_take]; omega)
  ·exact .inr rfl
theorem tagOf_len (l : List UInt8) : (tagOf l).length = 32 := by
 unfold tagOf
 split
 ·assumption
 ·simp
theorem tagOf_nil : tagOf [] = List.replicate 32 0 := rfl
theorem tagOf_32 {l : List UInt8} (h : l.length = 32) : tagOf l = l := by unfold tagOf; rw [if_pos h]
/-- copy of nothing, in a region that draws -/
theorem step_copy_none {P : Program} {ops : Array Oper} {o : Oper} {a : Act} {w : World} {K : Act → World → Prop} {Q : Exit → Act → World → Prop} {E : Prop} (hgd : o.guard = none) (d s : Operand) (dT sT : TypeId)
  (ho : o.op = .call { callee := .builtin .copy, args := #[d, s], argTypes := #[dT, sT] }) (elem : TypeId) (hu : P.underlying dT = some (.slice elem)) (hsz : (P.info? elem).map (·.size) = some 1)
  (da : Option Addr) (dLen dCap : Nat) (sp : Option Addr) (sLen sCap : Nat) (hd : a.eval d = .slice da dLen dCap) (hs : a.eval s = .slice sp sLen sCap) (hn : Nat.min sLen dLen = 0)
  (h : K (a.put o.dst (.int .i64 0)) w) :
  if Region.wanted o (yielded ops a.tmps) = true then Oper.wp P o a w K Q else E := by
 have hw : Region.wanted o (yielded ops a.tmps) = true := by simp [Region.wanted, hgd]
 rw [if_pos hw]
 have hrun := run_copy_none (P := P) w dT sT o.type elem da sp dLen dCap sLen sCap hu hsz hn
 unfold Oper.wp
 simp [execOp, ho, resolve, invoke, builtin, hd, hs, hrun, Result.andThen]
 exact h
theorem by_src {w : World} {A : Option Addr} {m : Nat} {xs : List UInt8} (h : By w (fun _ => True) A m xs) (hl : xs.length = 32) : ∃ ad, A = some ad ∧ ∀ j v, (vs xs)[j]? = some v → w.cell? (ad.add j) = some v := by
 obtain ⟨g, o, e, _, hc⟩ := h.2 (by have := h.1; omega)
 refine ⟨_, e, fun j v hj => ?_⟩
 rw [vs_get] at hj
 obtain ⟨x, hx, rfl⟩ := Option.map_eq_some_iff.1 hj
 have ea : (⟨g, o, none⟩ : Addr).add j = ⟨g, o + j, none⟩ := by unfold Addr.add; split <;> simp_all
 rw [ea]
 exact hc j x hx
theorem grown_drew {w w' : World} {r : Option Nat} (h : w.grownBy w' r) : w.grownBy w'.drew r := ⟨h.os, h.tape, h.output, h.size, fun i hi hne => h.block i hi hne⟩
end Go.Proofs.Ytheecifgbkdecaa

namespace Go.Proofs.Ytheecifgbkdecaa
open Go.RowKit

theorem below2_ (w : World) (A B : Obj) : Below w.heap.size w ((w.alloc A).alloc B) := (below1_ w A).alloc (below1_ w A).size B
theorem only_own_ {a b c : World} {g : Nat} {row : Option Nat} (hab : a.grownBy b (some g)) (hbc : b.grownBy c row) (hh : ∀ h, row = some h → a.heap.size ≤ h) : a.grownBy c (some g) :=
 ⟨hbc.os.trans hab.os, hbc.tape.trans hab.tape, hbc.output.trans hab.output, Nat.le_trans hab.size hbc.size, fun i hi hne => (hbc.block i (Nat.lt_of_lt_of_le hi hab.size) (fun e => by have := hh i e.symm; omega)).trans (hab.block i hi hne)⟩
end Go.Proofs.Ytheecifgbkdecaa

namespace Go.Proofs.Ytheecifgbkdecaa
open Go.RowKit

def Vo.cells (v : Vo) : List Value := .int .i64 v.vw :: .int .i64 v.sq :: vs v.dg
def Vu.cells (v : Vu) : List Value := .int .i64 v.cl :: .int .i64 v.sp :: (vs v.dg ++ [.int .u32 (v.ms : Int)])
def Re.cells (v : Re) : List Value := [.int .i64 v.vw, .int .i64 v.cl, .int .i64 v.sp, .int .i64 v.rs]
theorem Try.agg_int (w : World) : (isAgg 3).run Try.prog w = .ok false w := by kernel_rfl
theorem Try.agg_i64 (w : World) : (isAgg 2).run Try.prog w = .ok false w := by kernel_rfl
theorem Try.agg_es (w : World) : (isAgg 53).run Try.prog w = .ok false w := by kernel_rfl
/-- one cell, kept -/
structure CellK (w : World) (p : Addr) (v : Value) : Prop where
 lt : p.block < w.heap.size
 eq : w.cell? p = some v
theorem CellK.through {w w' : World} {p : Addr} {v : Value} (h : CellK w p v) (hb : Below w.heap.size w w') : CellK w' p v := ⟨Nat.lt_of_lt_of_le h.lt hb.size, (hb.cell (p := p) h.lt).trans h.eq⟩

end Go.Proofs.Ytheecifgbkdecaa

namespace Go.Proofs.Ytheecifgbkdecaa
open Go.RowKit

theorem vs_lit (l : List UInt8) (h : l.length = 32) : ∃ x0 x1 x2 x3 x4 x5 x6 x7 x8 x9 x10 x11 x12 x13 x14 x15 x16 x17 x18 x19 x20 x21 x22 x23 x24 x25 x26 x27 x28 x29 x30 x31 : UInt8, l = [x0, x1, x2, x3, x4, x5, x6, x7, x8, x9, x10, x11, x12, x13, x14, x15, x16, x17, x18, x19, x20, x21, x22, x23, x24, x25, x26, x27, x28, x29, x30, x31] := by
 match l, h with
 | [x0, x1, x2, x3, x4, x5, x6, x7, x8, x9, x10, x11, x12, x13, x14, x15, x16, x17, x18, x19, x20, x21, x22, x23, x24, x25, x26, x27, x28, x29, x30, x31], _ => exact ⟨x0, x1, x2, x3, x4, x5, x6, x7, x8, x9, x10, x11, x12, x13, x14, x15, x16, x17, x18, x19, x20, x21, x22, x23, x24, x25, x26, x27, x28, x29, x30, x31, rfl⟩
theorem Vo.cells_len (v : Vo) (h : v.dg.length = 32) : (Vo.cells v).length = 34 := by simp [Vo.cells, vs_length, h]
theorem Vu.cells_len (v : Vu) (h : v.dg.length = 32) : (Vu.cells v).length = 35 := by simp [Vu.cells, vs_length, h]
theorem Vo.one (v : Vo) : (Vo.cells v).toArray.all (·.oneCell') = true := Array.all_eq_true_iff_forall_mem.2 (fun u hu => by
 simp only [Vo.cells, List.mem_toArray, List.mem_cons] at hu
 rcases hu with rfl | rfl | hu
 ·rfl
 ·rfl
 ·exact vs_one u hu)
theorem Vu.one (v : Vu) : (Vu.cells v).toArray.all (·.oneCell') = true := Array.all_eq_true_iff_forall_mem.2 (fun u hu => by
 simp only [Vu.cells, List.mem_toArray, List.mem_cons, List.mem_append, List.not_mem_nil, or_false] at hu
 rcases hu with rfl | rfl | hu | rfl
 ·rfl
 ·rfl
 ·exact vs_one u hu
 ·rfl)
theorem Vu.last (v : Vu) (h : (Vu.cells v).length = 35) : (Vu.cells v)[34]? = some (.int .u32 (v.ms : Int)) := by
 have h2 : (vs v.dg).length = 32 := by simpa [Vu.cells] using h
 unfold Vu.cells
 rw [List.getElem?_cons_succ, List.getElem?_cons_succ, List.getElem?_append_right (by omega), h2]
 rfl
theorem Re.one (v : Re) : (Re.cells v).toArray.all (·.oneCell') = true := by simp [Re.cells, Value.oneCell']
end Go.Proofs.Ytheecifgbkdecaa

namespace Go.Proofs.Ytheecifgbkdecaa
open Go.RowKit

def Po.cells (p : Po) : List Value := .int .i64 p.sq :: vs p.dg
theorem Po.cells_len (p : Po) (h : p.dg.length = 32) : p.cells.length = 33 := by simp [Po.cells, vs_length, h]
theorem Try.el_po : El Try.prog 22 52 33 40 (.agg (Po.cells ⟨0, List.replicate 32 0⟩).toArray) :=
 ⟨Try.underlying22, by kernel_rfl, rfl, by omega, by omega, by omega⟩
theorem Try.ix_po (W : World) (g o n c j : Nat) (hj : j < n) : (Instr.indexAt 22 (.slice (some ⟨g, o, none⟩) n c) (.int .i64 (j : Int))).run Try.prog W = .ok (.pointer (some ⟨g, o + j * 33, none⟩)) W := Try.el_po.index (by kernel_rfl) W g o n c j hj
theorem Try.el_pf : El Try.prog 23 55 3 40 (.agg #[.int .i64 0, .int .i64 0, .slice none 0 0]) :=
 ⟨Try.underlying23, by kernel_rfl, rfl, by omega, by omega, by omega⟩
theorem Try.ix_pf (W : World) (g o n c j : Nat) (hj : j < n) : (Instr.indexAt 23 (.slice (some ⟨g, o, none⟩) n c) (.int .i64 (j : Int))).run Try.prog W = .ok (.pointer (some ⟨g, o + j * 3, none⟩)) W := Try.el_pf.index (by kernel_rfl) W g o n c j hj
def PosIn (w : World) (A : Option Addr) (k : Nat) (l : List Po) : Prop := Sl w 33 A k (l.map Po.cells) ∧ ∀ p ∈ l, p.dg.length = 32
def pfC (p : Pf) (s : Pl) : List Value := [.int .i64 p.sq, .int .i64 p.vw, .slice s.1 s.2.1 s.2.2]
def pfR : List Pf → List Pl → List (List Value) := List.zipWith pfC
def AllP (w : World) : List Pf → List Pl → Prop
 | [], [] => True
 | p :: ps, s :: ss => (EysIn w s.1 s.2.1 p.es ∧ s.2.1 ≤ s.2.2 ∧ s.2.2 ≤ maxLen) ∧ AllP w ps ss
 | [], _ :: _ => False
 | _ :: _, [] => False
def PfsIn (w : World) (A : Option Addr) (k : Nat) (ps : List Pf) : Prop := ∃ ss, Sl w 3 A k (pfR ps ss) ∧ AllP w ps ss
theorem pfR_len {ps : List Pf} {ss : List Pl} (h : ps.length = ss.length) : (pfR ps ss).length = ps.length := by
 unfold pfR
 rw [List.length_zipWith, h, Nat.min_self]
theorem pfR_get {ps : List Pf} {ss : List Pl} {i : Nat} {p : Pf} {s : Pl} (hp : ps[i]? = some p) (hs : ss[i]? = some s) : (pfR ps ss)[i]? = some (pfC p s) := by
 unfold pfR
 rw [List.getElem?_zipWith, hp, hs]
theorem pfR_snoc {ps : List Pf} {ss : List Pl} (h : ps.length = ss.length) (p : Pf) (s : Pl) : pfR (ps ++ [p]) (ss ++ [s]) = pfR ps ss ++ [pfC p s] := by
 unfold pfR
 rw [List.zipWith_append h]
 rfl
section
variable {w w' : World} {A : Option Addr} {k : Nat}
theorem PosIn.through {l : List Po} (h : PosIn w A k l) (hb : Below w.heap.size w w') : PosIn w' A k l := ⟨h.1.through hb, h.2⟩
theorem PosIn.len {l : List Po} (h : PosIn w A k l) : l.length = k := by simpa using h.1.len
theorem PosIn.none_ : PosIn w none 0 [] := ⟨Sl.none_, fun _ h => nomatch h⟩
theorem PosIn.at {l : List Po} (h : PosIn w A k l) {i : Nat} (hi : i < k) : ∃ g o p, A = some ⟨g, o, none⟩ ∧ l[i]? = some p ∧ p ∈ l ∧ l.drop i = p :: l.drop (i + 1) ∧ p.dg.length = 32 ∧ w.rangeAt g (o + i * 33) p.cells := by
 obtain ⟨g, o, cs, e, h1, _, _, h4⟩ := h.1.at hi
 have hl : i < l.length := by rw [h.len]; exact hi
 rw [List.getElem?_map, List.getElem?_eq_getElem hl] at h1
 simp only [Option.map_some, Option.some.injEq] at h1
 subst h1
 exact ⟨g, o, l[i], e, List.getElem?_eq_getElem hl, List.getElem_mem hl, List.drop_eq_getElem_cons hl, h.2 _ (List.getElem_mem hl), h4⟩
theorem AllP.mono : ∀ {ps : List Pf} {ss : List Pl}, AllP w ps ss → (∀ (s : Pl) es, EysIn w s.1 s.2.1 es → EysIn w' s.1 s.2.1 es) → AllP w' ps ss
 | [], [], _, _ => trivial
 | _ :: _, _ :: _, h, hm => ⟨⟨hm _ _ h.1.1, h.1.2⟩, AllP.mono h.2 hm⟩
 | [], _ :: _, h, _ => h.elim
 | _ :: _, [], h, _ => h.elim
theorem AllP.len : ∀ {ps : List Pf} {ss : List Pl}, AllP w ps ss → ps.length = ss.length
 | [], [], _ => rfl
 | _ :: _, _ :: _, h => by simp [AllP.len h.2]
 | [], _ :: _, h => h.elim
 | _ :: _, [], h => h.elim
theorem AllP.at : ∀ {ps : List Pf} {ss : List Pl} {i : Nat} {p : Pf}, AllP w ps ss → ps[i]? = some p → ∃ s, ss[i]? = some s ∧ EysIn w s.1 s.2.1 p.es ∧ s.2.1 ≤ s.2.2 ∧ s.2.2 ≤ maxLen
 | [], _, _, _, _, h => by simp at h
 | _ :: _, [], _, _, h, _ => h.elim
 | x :: _, s :: _, 0, p, h, he => by
  simp at he
  subst he
  exact ⟨s, rfl, h.1⟩
 | _ :: _, _ :: _, i + 1, p, h, he => by
  obtain ⟨s, hs, ht⟩ := AllP.at h.2 (by simpa using he)
  exact ⟨s, by simpa using hs, ht⟩
theorem AllP.snoc : ∀ {ps : List Pf} {ss : List Pl} {p : Pf} {s : Pl}, AllP w ps ss → EysIn w s.1 s.2.1 p.es ∧ s.2.1 ≤ s.2.2 ∧ s.2.2 ≤ maxLen → AllP w (ps ++ [p]) (ss ++ [s])
 | [], [], _, _, _, h => ⟨h, trivial⟩
 | _ :: _, _ :: _, _, _, h, h' => ⟨h.1, AllP.snoc h.2 h'⟩
 | [], _ :: _, _, _, h, _ => h.elim
 | _ :: _, [], _, _, h, _ => h.elim
theorem PfsIn.none_ : PfsIn w none 0 [] := ⟨[], Sl.none_, trivial⟩
theorem PfsIn.through {ps : List Pf} (h : PfsIn w A k ps) (hb : Below w.heap.size w w') : PfsIn w' A k ps := by
 obtain ⟨ss, h1, h2⟩ := h
 exact ⟨ss, h1.through hb, h2.mono fun _ _ h => h.through hb⟩
theorem PfsIn.len {ps : List Pf} (h : PfsIn w A k ps) : ps.length = k := by
 obtain ⟨ss, h1, h2⟩ := h
 rw [← pfR_len h2.len]
 exact h1.len
theorem PfsIn.at {ps : List Pf} (h : PfsIn w A k ps) {i : Nat} (hi : i < k) : ∃ g o p B m c, A = some ⟨g, o, none⟩ ∧ ps[i]? = some p ∧ p ∈ ps ∧ ps.drop i = p :: ps.drop (i + 1) ∧ w.rangeAt g (o + i * 3) [.int .i64 p.sq, .int .i64 p.vw, .slice B m c] ∧ EysIn w B m p.es ∧ m ≤ c ∧ c ≤ maxLen := by
 have hl : i < ps.length := by rw [h.len]; exact hi
 obtain ⟨ss, h1, h2⟩ := h
 obtain ⟨g, o, cs, e, h3, _, _, h4⟩ := h1.at hi
 obtain ⟨s, hs, ht⟩ := h2.at (List.getElem?_eq_getElem hl)
 rw [pfR_get (List.getElem?_eq_getElem hl) hs] at h3
 injection h3 with h3
 subst h3
 exact ⟨g, o, ps[i], s.1, s.2.1, s.2.2, e, List.getElem?_eq_getElem hl, List.getElem_mem hl, List.drop_eq_getElem_cons hl, h4, ht⟩
/-- the slices' caps that a change is handed with -/
structure Caps where
 c1 : Nat
 c2 : Nat
 c3 : Nat
/-- a change's cells, and that it is read there -/
def Ch.cells (c : Ch) (P Q R : Pl) : List Value := [.int .i64 c.vw, .int .i64 c.lw, .slice P.1 P.2.1 P.2.2, .slice Q.1 Q.2.1 Q.2.2, .slice R.1 R.2.1 R.2.2]
def ChIn (w : World) (P Q R : Pl) (c : Ch) : Prop := (PosIn w P.1 P.2.1 c.po ∧ P.2.1 ≤ P.2.2 ∧ P.2.2 ≤ maxLen) ∧ (PfsIn w Q.1 Q.2.1 c.pp ∧ Q.2.1 ≤ Q.2.2 ∧ Q.2.2 ≤ maxLen) ∧ (PfsIn w R.1 R.2.1 c.pd ∧ R.2.1 ≤ R.2.2 ∧ R.2.2 ≤ maxLen)
theorem ChIn.through {P Q R : Pl} {c : Ch} (h : ChIn w P Q R c) (hb : Below w.heap.size w w') : ChIn w' P Q R c := ⟨⟨h.1.1.through hb, h.1.2⟩, ⟨h.2.1.1.through hb, h.2.1.2⟩, ⟨h.2.2.1.through hb, h.2.2.2⟩⟩
end
/-- how much is what a row of proofs tells -/
def Pf.Low (p : Pf) : Prop := p.es.length ≤ 1000 ∧ ∀ y ∈ p.es, y.co.lt.length ≤ 1000 ∧ y.co.tx.length ≤ 1000

end Go.Proofs.Ytheecifgbkdecaa
