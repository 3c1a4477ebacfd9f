/-
  RqT VoH VoB VoC ChM
-/
import Derived.Test.YtheecifgbkdecaaSM8
import Derived.Test.YtheecifgbkdecaaSM11
import Derived.Test.YtheecifgbkdecaaSM6
import Derived.Test.YtheecifgbkdecaaSM12
namespace Go.Proofs.Ytheecifgbkdecaa
open Go.RowKit

section
variable {Q : Nat → Prop} {g : Nat} {st : Option (List UInt8)} {w : World}
set_option maxHeartbeats 1000000 in
theorem fixed_at (g : Nat) (xs : List UInt8) (er k : Int) (hx : xs.length ≤ 1099511627776) (w : World) (h : RS Q w g tR xs er) :
  Calls Try.prog 95 #[.pointer (some ⟨g, 0, none⟩), .int .i64 k] w (Gave Q w g tR (takeY xs er k) (takeX xs er k) (takeE xs er k)) := by
 have hcon := take_any g xs er k w h
 have hl2 := Nat.le_trans (takeY_le xs er k) hx
 clear h
 go_enter Try.func95, Try.ntmps95
 go_wp2_with (first
  | (go_at_call 94; refine hcon.mono ?_; rintro e w1 ⟨B, m, c, rfl, hmc, hy, hr, ho⟩; have HY := Lib.hid hy; have HR := Lib.hid hr; have HO := Lib.hid ho; clear hy hr ho)
  | (go_at_call 89; refine (clone_any _ B m c _ _ HY.out (by have := HY.out.len; omega)).mono ?_; rintro e w2 ⟨v2, rfl, hown, hb⟩))
 go_ret
 exact Gave.of_made HO.out HR.out hown hb
theorem fixed_rs (h : Rs Q w g tR st) (k : Nat) : Calls Try.prog 95 #[.pointer (some ⟨g, 0, none⟩), .int .i64 k] w fun e w' => ∃ B m c, e = .returned (.slice B m c) ∧ By w' (fun _ => True) B m (tval k st) ∧ Rs Q w' g tR (nnext k st) ∧ w.grownBy w' (some g) := by
 obtain ⟨xs, er, h, hs, hl⟩ := h
 obtain ⟨h1, h2⟩ := take_st hs k
 rw [← h1]
 exact (fixed_at g xs er k hl w h).mono fun e w' ⟨B, m, c, he, hm, hy, hr, hg⟩ => ⟨B, m, c, he, hy, ⟨_, _, hr, h2, Nat.le_trans (takeX_le _ _ _) hl⟩, hg⟩
end
theorem only_new_ {a b c : World} {g h : Nat} (hab : a.grownBy b (some g)) (hbc : b.grownBy c (some h)) (hh : a.heap.size ≤ h) : a.grownBy c (some g) :=
 ⟨hbc.os.trans hab.os, hbc.tape.trans hab.tape, hbc.output.trans hab.output, Nat.le_trans hab.size hbc.size, fun i hi hne => (hbc.block i (Nat.lt_of_lt_of_le hi hab.size) (fun e => by have := Option.some.inj e; omega)).trans (hab.block i hi hne)⟩
theorem tval_32 (st : Option (List UInt8)) : (tval 32 st).length = 32 ∨ tval 32 st = [] := by
 cases st with
 | none => exact .inr rfl
 | some xs =>
  rw [tval_some]
  split
  ·exact .inl (by rw [List.length_take]; omega)
  ·exact .inr rfl
theorem tagOf_len (l : List UInt8) : (tagOf l).length = 32 := by
 unfold tagOf
 split
 ·assumption
 ·simp
theorem tagOf_nil : tagOf [] = List.replicate 32 0 := rfl
theorem tagOf_32 {l : List UInt8} (h : l.length = 32) : tagOf l = l := by unfold tagOf; rw [if_pos h]
/-- copy of nothing, in a region that draws -/
theorem step_copy_none {P : Program} {ops : Array Oper} {o : Oper} {a : Act} {w : World} {K : Act → World → Prop} {Q : Exit → Act → World → Prop} {E : Prop} (hgd : o.guard = none) (d s : Operand) (dT sT : TypeId)
  (ho : o.op = .call { callee := .builtin .copy, args := #[d, s], argTypes := #[dT, sT] }) (elem : TypeId) (hu : P.underlying dT = some (.slice elem)) (hsz : (P.info? elem).map (·.size) = some 1)
  (da : Option Addr) (dLen dCap : Nat) (sp : Option Addr) (sLen sCap : Nat) (hd : a.eval d = .slice da dLen dCap) (hs : a.eval s = .slice sp sLen sCap) (hn : Nat.min sLen dLen = 0)
  (h : K (a.put o.dst (.int .i64 0)) w) :
  if Region.wanted o (yielded ops a.tmps) = true then Oper.wp P o a w K Q else E := by
 have hw : Region.wanted o (yielded ops a.tmps) = true := by simp [Region.wanted, hgd]
 rw [if_pos hw]
 have hrun := run_copy_none (P := P) w dT sT o.type elem da sp dLen dCap sLen sCap hu hsz hn
 unfold Oper.wp
 simp [execOp, ho, resolve, invoke, builtin, hd, hs, hrun, Result.andThen]
 exact h
theorem by_src {w : World} {A : Option Addr} {m : Nat} {xs : List UInt8} (h : By w (fun _ => True) A m xs) (hl : xs.length = 32) : ∃ ad, A = some ad ∧ ∀ j v, (vs xs)[j]? = some v → w.cell? (ad.add j) = some v := by
 obtain ⟨g, o, e, _, hc⟩ := h.2 (by have := h.1; omega)
 refine ⟨_, e, fun j v hj => ?_⟩
 rw [vs_get] at hj
 obtain ⟨x, hx, rfl⟩ := Option.map_eq_some_iff.1 hj
 have ea : (⟨g, o, none⟩ : Addr).add j = ⟨g, o + j, none⟩ := by unfold Addr.add; split <;> simp_all
 rw [ea]
 exact hc j x hx
theorem grown_drew {w w' : World} {r : Option Nat} (h : w.grownBy w' r) : w.grownBy w'.drew r := ⟨h.os, h.tape, h.output, h.size, fun i hi hne => h.block i hi hne⟩
end Go.Proofs.Ytheecifgbkdecaa

namespace Go.Proofs.Ytheecifgbkdecaa
open Go.RowKit

theorem below2_ (w : World) (A B : Obj) : Below w.heap.size w ((w.alloc A).alloc B) := (below1_ w A).alloc (below1_ w A).size B
theorem only_own_ {a b c : World} {g : Nat} {row : Option Nat} (hab : a.grownBy b (some g)) (hbc : b.grownBy c row) (hh : ∀ h, row = some h → a.heap.size ≤ h) : a.grownBy c (some g) :=
 ⟨hbc.os.trans hab.os, hbc.tape.trans hab.tape, hbc.output.trans hab.output, Nat.le_trans hab.size hbc.size, fun i hi hne => (hbc.block i (Nat.lt_of_lt_of_le hi hab.size) (fun e => by have := hh i e.symm; omega)).trans (hab.block i hi hne)⟩
theorem put_next {ys : List UInt8} {i : Nat} (h : i < ys.length) (h32 : i < 32) : (vs (ys.take i ++ List.replicate (32 - i) 0)).set i (u8 ys[i]) = vs (ys.take (i + 1) ++ List.replicate (32 - (i + 1)) 0) := by
 have e : List.replicate (32 - i) (0 : UInt8) = 0 :: List.replicate (32 - (i + 1)) 0 := by
  rw [← List.replicate_succ]; congr 1; omega
 have hl : (ys.take i).length = i := by rw [List.length_take]; omega
 have e2 : ys.take i ++ ys[i] :: List.replicate (32 - (i + 1)) 0 = ys.take (i + 1) ++ List.replicate (32 - (i + 1)) 0 := by
  rw [List.take_add_one, List.getElem?_eq_getElem h, List.append_assoc]
  rfl
 unfold vs
 rw [← List.map_set, List.set_append_right _ _ (by omega), hl, Nat.sub_self, e, List.set_cons_zero, e2]
theorem copied (st : Option (List UInt8)) {m : Nat} (h : (tval 32 st).length = m) : (tval 32 st).take m ++ List.replicate (32 - m) 0 = tagOf (tval 32 st) := by
 rcases tval_32 st with h9 | h9
 ·rw [tagOf_32 h9, ← h, List.take_length, h9]
  simp
 ·rw [h9] at h ⊢
  subst h
  rfl

set_option maxHeartbeats 16000000 in
set_option maxRecDepth 100000 in
theorem rrdig17_any {Q : Nat → Prop} (g : Nat) (st : Option (List UInt8)) (w : World) (h : Rs Q w g tQ st) (hQ : ∀ b, Q b → b < w.heap.size) :
  Calls Try.prog 57 #[.pointer (some ⟨g, 0, none⟩)] w fun e w' => e = .returned (.agg (vs (tagOf (tval 32 st))).toArray) ∧ Rs Q w' g tQ (nnext 32 st) ∧ w.grownBy w' (some g) := by
 have HLT := Lib.hid h.lt
 have HQ := Lib.hid hQ
 have HR2 := Lib.hid ((h.alloc (.cells #[.int .u8 0, .int .u8 0, .int .u8 0, .int .u8 0, .int .u8 0, .int .u8 0, .int .u8 0, .int .u8 0, .int .u8 0, .int .u8 0, .int .u8 0, .int .u8 0, .int .u8 0, .int .u8 0, .int .u8 0, .int .u8 0, .int .u8 0, .int .u8 0, .int .u8 0, .int .u8 0, .int .u8 0, .int .u8 0, .int .u8 0, .int .u8 0, .int .u8 0, .int .u8 0, .int .u8 0, .int .u8 0, .int .u8 0, .int .u8 0, .int .u8 0, .int .u8 0] 40)).alloc (.cells #[.int .u8 0, .int .u8 0, .int .u8 0, .int .u8 0, .int .u8 0, .int .u8 0, .int .u8 0, .int .u8 0, .int .u8 0, .int .u8 0, .int .u8 0, .int .u8 0, .int .u8 0, .int .u8 0, .int .u8 0, .int .u8 0, .int .u8 0, .int .u8 0, .int .u8 0, .int .u8 0, .int .u8 0, .int .u8 0, .int .u8 0, .int .u8 0, .int .u8 0, .int .u8 0, .int .u8 0, .int .u8 0, .int .u8 0, .int .u8 0, .int .u8 0, .int .u8 0] 40))
 have HC2 : Hid (Blk ((w.alloc (.cells #[.int .u8 0, .int .u8 0, .int .u8 0, .int .u8 0, .int .u8 0, .int .u8 0, .int .u8 0, .int .u8 0, .int .u8 0, .int .u8 0, .int .u8 0, .int .u8 0, .int .u8 0, .int .u8 0, .int .u8 0, .int .u8 0, .int .u8 0, .int .u8 0, .int .u8 0, .int .u8 0, .int .u8 0, .int .u8 0, .int .u8 0, .int .u8 0, .int .u8 0, .int .u8 0, .int .u8 0, .int .u8 0, .int .u8 0, .int .u8 0, .int .u8 0, .int .u8 0] 40)).alloc (.cells #[.int .u8 0, .int .u8 0, .int .u8 0, .int .u8 0, .int .u8 0, .int .u8 0, .int .u8 0, .int .u8 0, .int .u8 0, .int .u8 0, .int .u8 0, .int .u8 0, .int .u8 0, .int .u8 0, .int .u8 0, .int .u8 0, .int .u8 0, .int .u8 0, .int .u8 0, .int .u8 0, .int .u8 0, .int .u8 0, .int .u8 0, .int .u8 0, .int .u8 0, .int .u8 0, .int .u8 0, .int .u8 0, .int .u8 0, .int .u8 0, .int .u8 0, .int .u8 0] 40)) w.heap.size 40 (vs (List.replicate 32 0))) := Lib.hid ((Blk.fresh rfl rfl).alloc _)
 have HT2 : Hid (Blk ((w.alloc (.cells #[.int .u8 0, .int .u8 0, .int .u8 0, .int .u8 0, .int .u8 0, .int .u8 0, .int .u8 0, .int .u8 0, .int .u8 0, .int .u8 0, .int .u8 0, .int .u8 0, .int .u8 0, .int .u8 0, .int .u8 0, .int .u8 0, .int .u8 0, .int .u8 0, .int .u8 0, .int .u8 0, .int .u8 0, .int .u8 0, .int .u8 0, .int .u8 0, .int .u8 0, .int .u8 0, .int .u8 0, .int .u8 0, .int .u8 0, .int .u8 0, .int .u8 0, .int .u8 0] 40)).alloc (.cells #[.int .u8 0, .int .u8 0, .int .u8 0, .int .u8 0, .int .u8 0, .int .u8 0, .int .u8 0, .int .u8 0, .int .u8 0, .int .u8 0, .int .u8 0, .int .u8 0, .int .u8 0, .int .u8 0, .int .u8 0, .int .u8 0, .int .u8 0, .int .u8 0, .int .u8 0, .int .u8 0, .int .u8 0, .int .u8 0, .int .u8 0, .int .u8 0, .int .u8 0, .int .u8 0, .int .u8 0, .int .u8 0, .int .u8 0, .int .u8 0, .int .u8 0, .int .u8 0] 40)) (w.heap.size + 1) 40 (vs (List.replicate 32 0))) := Lib.hid (Blk.fresh (by simp) rfl)
 have HFx : Hid (∀ (W : World), Rs Q W g tQ st → Calls Try.prog 97 #[.pointer (some ⟨g, 0, none⟩), .int .i64 32] W fun e w' => ∃ B m c, e = .returned (.slice B m c) ∧ By w' (fun b => W.heap.size ≤ b) B m (tval 32 st) ∧ Rs Q w' g tQ (nnext 32 st) ∧ W.grownBy w' (some g)) := Lib.hid (fun W hR => rfixed_rsF hR 32)
 clear h hQ
 go_enter Try.func57, Try.ntmps57
 go_wp2_with (first
  | (go_at_call 97; (refine (HFx.out _ HR2.out).mono ?_); rintro e wd ⟨Bf, mf, cf, rfl, hyf, hrf, hgf⟩; have HRd := Lib.hid hrf; have HYd := Lib.hid hyf; have HTd : Hid (Blk wd (w.heap.size + 1) 40 (vs (List.replicate 32 0))) := Lib.hid (HT2.out.grown hgf (fun e => by have := Option.some.inj e; have := HLT.out; omega)); have HCd : Hid (Blk wd w.heap.size 40 (vs (List.replicate 32 0))) := Lib.hid (HC2.out.grown hgf (fun e => by have := Option.some.inj e; have := HLT.out; omega)); have HGd : Hid (w.grownBy wd (some g)) := Lib.hid (only_trans (only_below (below2_ w _ _)) hgf); have HSd : Hid (w.heap.size + 2 ≤ wd.heap.size) := Lib.hid (by have := hgf.size; simpa using this); clear hyf hrf hgf))
 go_loopw [9] (fun iv wr => ∃ i : Nat, i ≤ mf ∧ iv = .int .i64 (i : Int) ∧ Blk wr (w.heap.size + 1) 40 (vs ((tval 32 st).take i ++ List.replicate (32 - i) 0)) ∧ wd.grownBy wr (some (w.heap.size + 1))) (fun iv _ => mf - (intOf iv).toNat)
 case atStart => exact ⟨0, Nat.zero_le _, rfl, HTd.out, only_refl _ _⟩
 case round =>
  obtain ⟨i, hi, rfl, hb3, hg3⟩ := hrel
  have H3 := Lib.hid hb3
  have HG3 := Lib.hid hg3
  have hml : (tval 32 st).length = mf := HYd.out.len
  have h32 : mf ≤ 32 := by rcases tval_32 st with h9 | h9 <;> rw [h9] at hml <;> (try simp at hml) <;> omega
  have hy3 : By wr (fun b => ((w.alloc (.cells #[.int .u8 0, .int .u8 0, .int .u8 0, .int .u8 0, .int .u8 0, .int .u8 0, .int .u8 0, .int .u8 0, .int .u8 0, .int .u8 0, .int .u8 0, .int .u8 0, .int .u8 0, .int .u8 0, .int .u8 0, .int .u8 0, .int .u8 0, .int .u8 0, .int .u8 0, .int .u8 0, .int .u8 0, .int .u8 0, .int .u8 0, .int .u8 0, .int .u8 0, .int .u8 0, .int .u8 0, .int .u8 0, .int .u8 0, .int .u8 0, .int .u8 0, .int .u8 0] 40)).alloc (.cells #[.int .u8 0, .int .u8 0, .int .u8 0, .int .u8 0, .int .u8 0, .int .u8 0, .int .u8 0, .int .u8 0, .int .u8 0, .int .u8 0, .int .u8 0, .int .u8 0, .int .u8 0, .int .u8 0, .int .u8 0, .int .u8 0, .int .u8 0, .int .u8 0, .int .u8 0, .int .u8 0, .int .u8 0, .int .u8 0, .int .u8 0, .int .u8 0, .int .u8 0, .int .u8 0, .int .u8 0, .int .u8 0, .int .u8 0, .int .u8 0, .int .u8 0, .int .u8 0] 40)).heap.size ≤ b) Bf mf (tval 32 st) := (HYd.out.lt.keep fun b hb => hg3.block b hb.2 (fun e => by have := Option.some.inj e; have h7 : w.heap.size + 2 ≤ b := (by simpa using hb.1); omega)).weak fun _ h => h.1
  clear hb3 hg3
  by_cases hli : i < mf
  ·have hil : i < (tval 32 st).length := by omega
   have hi32 : i < 32 := by omega
   obtain ⟨gb, ob, rfl, hc3⟩ := hy3.cell i hil
   unfold _root_.Go.Proofs.Ytheecifgbkdecaa.u8 at hc3
   have HPN := Lib.hid (put_next hil hi32)
   clear hy3 hml
   go_wp2_with (first
    | (refine wpList_store_cell rfl 5 (.tmp 16) (.tmp 15) rfl (w.heap.size + 1) i (by simp [Act.eval]) (_root_.Go.Proofs.Ytheecifgbkdecaa.u8 (tval 32 st)[i]) (by simp [Act.eval, _root_.Go.Proofs.Ytheecifgbkdecaa.u8]) rfl rfl (fun w => by kernel_rfl) 40 (vs ((tval 32 st).take i ++ List.replicate (32 - i) 0)) H3.out (by rw [vs_length]; simp; omega) ?_; intro w8 hb8 hg8; have H8 := Lib.hid hb8; have HG8 := Lib.hid (only_trans HG3.out hg8); clear hb8 hg8))
   go_roundw
   case rel => exact ⟨i + 1, by omega, by go_num, (by have h9 := H8.out; rw [HPN.out] at h9; exact h9), HG8.out⟩
   case measure => simp [intOf]; omega
  ·have hie : i = mf := by omega
   subst hie
   obtain ⟨tg, htg⟩ : ∃ tg, tagOf (tval 32 st) = tg := ⟨_, rfl⟩
   have htl : tg.length = 32 := by rw [← htg]; exact tagOf_len _
   have HTL := Lib.hid htl
   have HT3 : Hid (Blk wr (w.heap.size + 1) 40 (vs tg)) := Lib.hid (by rw [← htg, ← copied st hml]; exact H3.out)
   have HC3 : Hid (Blk wr w.heap.size 40 (vs (List.replicate 32 0))) := Lib.hid (HCd.out.grown HG3.out (fun e => by have := Option.some.inj e; omega))
   have HRw := Lib.hid (HRd.out.other HG3.out (fun b hb => ⟨fun e => by have := Option.some.inj hb; have := HLT.out; omega, fun h9 => by have := Option.some.inj hb; have := HQ.out b h9; omega⟩))
   have HGw : Hid (w.grownBy wr (some g)) := Lib.hid (only_own_ HGd.out HG3.out (fun h e => by have := Option.some.inj e; omega))
   have HTG := Lib.hid htg
   clear htg htl hy3 hml h32
   go_wp2_with (first
    | (refine wpList_load_blk rfl 40 (.tmp 3) rfl (w.heap.size + 1) rfl 40 (vs tg) _ HT3.out Try.underlying40 rfl (by rw [vs_length, HTL.out]; kernel_rfl) ?_)
    | (refine wpList_store_blk rfl 40 (.tmp 2) (.tmp 18) rfl w.heap.size (vs tg) rfl rfl 40 (vs (List.replicate 32 0)) HC3.out (by rw [vs_length, HTL.out]; kernel_rfl) (by rw [vs_length, vs_length, HTL.out]; rfl) (Array.all_eq_true_iff_forall_mem.2 (fun u hu => vs_one u (by simpa using hu))) ?_; intro wy hby hgy; have HBy := Lib.hid hby; have HGy := Lib.hid hgy; clear hby hgy))
   (try simp only [Exit.inBlock, Exit.then])
   refine bodyPost_ret (v := .agg (vs tg).toArray) (results_cell_row rfl _ _ w.heap.size 40 _ (0, 0) _ rfl HBy.out Try.underlying40 rfl ?r1) rfl ⟨by rw [HTG.out], HRw.out.other HGy.out (fun b hb => ⟨fun e => by have := Option.some.inj hb; have := HLT.out; omega, fun h9 => by have := Option.some.inj hb; have := HQ.out b h9; omega⟩), only_own_ HGw.out HGy.out (fun h e => by have := Option.some.inj e; omega)⟩
   rw [List.size_toArray, vs_length, HTL.out]
   kernel_rfl

end Go.Proofs.Ytheecifgbkdecaa

namespace Go.Proofs.Ytheecifgbkdecaa
open Go.RowKit

def Vo.cells (v : Vo) : List Value := .int .i64 v.vw :: .int .i64 v.sq :: vs v.dg
def Vu.cells (v : Vu) : List Value := .int .i64 v.cl :: .int .i64 v.sp :: (vs v.dg ++ [.int .u32 (v.ms : Int)])
def Re.cells (v : Re) : List Value := [.int .i64 v.vw, .int .i64 v.cl, .int .i64 v.sp, .int .i64 v.rs]
theorem Try.agg_int (w : World) : (isAgg 3).run Try.prog w = .ok false w := by kernel_rfl
theorem Try.agg_i64 (w : World) : (isAgg 2).run Try.prog w = .ok false w := by kernel_rfl
theorem Try.agg_es (w : World) : (isAgg 53).run Try.prog w = .ok false w := by kernel_rfl
/-- one cell, kept -/
structure CellK (w : World) (p : Addr) (v : Value) : Prop where
 lt : p.block < w.heap.size
 eq : w.cell? p = some v
theorem CellK.through {w w' : World} {p : Addr} {v : Value} (h : CellK w p v) (hb : Below w.heap.size w w') : CellK w' p v := ⟨Nat.lt_of_lt_of_le h.lt hb.size, (hb.cell (p := p) h.lt).trans h.eq⟩

end Go.Proofs.Ytheecifgbkdecaa

namespace Go.Proofs.Ytheecifgbkdecaa
open Go.RowKit

theorem vs_lit (l : List UInt8) (h : l.length = 32) : ∃ x0 x1 x2 x3 x4 x5 x6 x7 x8 x9 x10 x11 x12 x13 x14 x15 x16 x17 x18 x19 x20 x21 x22 x23 x24 x25 x26 x27 x28 x29 x30 x31 : UInt8, l = [x0, x1, x2, x3, x4, x5, x6, x7, x8, x9, x10, x11, x12, x13, x14, x15, x16, x17, x18, x19, x20, x21, x22, x23, x24, x25, x26, x27, x28, x29, x30, x31] := by
 match l, h with
 | [x0, x1, x2, x3, x4, x5, x6, x7, x8, x9, x10, x11, x12, x13, x14, x15, x16, x17, x18, x19, x20, x21, x22, x23, x24, x25, x26, x27, x28, x29, x30, x31], _ => exact ⟨x0, x1, x2, x3, x4, x5, x6, x7, x8, x9, x10, x11, x12, x13, x14, x15, x16, x17, x18, x19, x20, x21, x22, x23, x24, x25, x26, x27, x28, x29, x30, x31, rfl⟩
theorem Vo.cells_len (v : Vo) (h : v.dg.length = 32) : (Vo.cells v).length = 34 := by simp [Vo.cells, vs_length, h]
theorem Vu.cells_len (v : Vu) (h : v.dg.length = 32) : (Vu.cells v).length = 35 := by simp [Vu.cells, vs_length, h]
theorem Vo.one (v : Vo) : (Vo.cells v).toArray.all (·.oneCell') = true := Array.all_eq_true_iff_forall_mem.2 (fun u hu => by
 simp only [Vo.cells, List.mem_toArray, List.mem_cons] at hu
 rcases hu with rfl | rfl | hu
 ·rfl
 ·rfl
 ·exact vs_one u hu)
theorem Vu.one (v : Vu) : (Vu.cells v).toArray.all (·.oneCell') = true := Array.all_eq_true_iff_forall_mem.2 (fun u hu => by
 simp only [Vu.cells, List.mem_toArray, List.mem_cons, List.mem_append, List.not_mem_nil, or_false] at hu
 rcases hu with rfl | rfl | hu | rfl
 ·rfl
 ·rfl
 ·exact vs_one u hu
 ·rfl)
theorem Vu.last (v : Vu) (h : (Vu.cells v).length = 35) : (Vu.cells v)[34]? = some (.int .u32 (v.ms : Int)) := by
 have h2 : (vs v.dg).length = 32 := by simpa [Vu.cells] using h
 unfold Vu.cells
 rw [List.getElem?_cons_succ, List.getElem?_cons_succ, List.getElem?_append_right (by omega), h2]
 rfl
theorem Re.one (v : Re) : (Re.cells v).toArray.all (·.oneCell') = true := by simp [Re.cells, Value.oneCell']
end Go.Proofs.Ytheecifgbkdecaa

namespace Go.Proofs.Ytheecifgbkdecaa
open Go.RowKit

def Po.cells (p : Po) : List Value := .int .i64 p.sq :: vs p.dg
theorem Po.cells_len (p : Po) (h : p.dg.length = 32) : p.cells.length = 33 := by simp [Po.cells, vs_length, h]
theorem Try.el_po : El Try.prog 22 52 33 40 (.agg (Po.cells ⟨0, List.replicate 32 0⟩).toArray) :=
 ⟨Try.underlying22, by kernel_rfl, rfl, by omega, by omega, by omega⟩
theorem Try.ix_po (W : World) (g o n c j : Nat) (hj : j < n) : (Instr.indexAt 22 (.slice (some ⟨g, o, none⟩) n c) (.int .i64 (j : Int))).run Try.prog W = .ok (.pointer (some ⟨g, o + j * 33, none⟩)) W := Try.el_po.index (by kernel_rfl) W g o n c j hj
theorem Try.el_pf : El Try.prog 23 55 3 40 (.agg #[.int .i64 0, .int .i64 0, .slice none 0 0]) :=
 ⟨Try.underlying23, by kernel_rfl, rfl, by omega, by omega, by omega⟩
theorem Try.ix_pf (W : World) (g o n c j : Nat) (hj : j < n) : (Instr.indexAt 23 (.slice (some ⟨g, o, none⟩) n c) (.int .i64 (j : Int))).run Try.prog W = .ok (.pointer (some ⟨g, o + j * 3, none⟩)) W := Try.el_pf.index (by kernel_rfl) W g o n c j hj
def PosIn (w : World) (A : Option Addr) (k : Nat) (l : List Po) : Prop := Sl w 33 A k (l.map Po.cells) ∧ ∀ p ∈ l, p.dg.length = 32
def pfC (p : Pf) (s : Pl) : List Value := [.int .i64 p.sq, .int .i64 p.vw, .slice s.1 s.2.1 s.2.2]
def pfR : List Pf → List Pl → List (List Value) := List.zipWith pfC
def AllP (w : World) : List Pf → List Pl → Prop
 | [], [] => True
 | p :: ps, s :: ss => (EysIn w s.1 s.2.1 p.es ∧ s.2.1 ≤ s.2.2 ∧ s.2.2 ≤ maxLen) ∧ AllP w ps ss
 | [], _ :: _ => False
 | _ :: _, [] => False
def PfsIn (w : World) (A : Option Addr) (k : Nat) (ps : List Pf) : Prop := ∃ ss, Sl w 3 A k (pfR ps ss) ∧ AllP w ps ss
theorem pfR_len {ps : List Pf} {ss : List Pl} (h : ps.length = ss.length) : (pfR ps ss).length = ps.length := by
 unfold pfR
 rw [List.length_zipWith, h, Nat.min_self]
theorem pfR_get {ps : List Pf} {ss : List Pl} {i : Nat} {p : Pf} {s : Pl} (hp : ps[i]? = some p) (hs : ss[i]? = some s) : (pfR ps ss)[i]? = some (pfC p s) := by
 unfold pfR
 rw [List.getElem?_zipWith, hp, hs]
theorem pfR_snoc {ps : List Pf} {ss : List Pl} (h : ps.length = ss.length) (p : Pf) (s : Pl) : pfR (ps ++ [p]) (ss ++ [s]) = pfR ps ss ++ [pfC p s] := by
 unfold pfR
 rw [List.zipWith_append h]
 rfl
section
variable {w w' : World} {A : Option Addr} {k : Nat}
theorem PosIn.through {l : List Po} (h : PosIn w A k l) (hb : Below w.heap.size w w') : PosIn w' A k l := ⟨h.1.through hb, h.2⟩
theorem PosIn.len {l : List Po} (h : PosIn w A k l) : l.length = k := by simpa using h.1.len
theorem PosIn.none_ : PosIn w none 0 [] := ⟨Sl.none_, fun _ h => nomatch h⟩
theorem PosIn.at {l : List Po} (h : PosIn w A k l) {i : Nat} (hi : i < k) : ∃ g o p, A = some ⟨g, o, none⟩ ∧ l[i]? = some p ∧ p ∈ l ∧ l.drop i = p :: l.drop (i + 1) ∧ p.dg.length = 32 ∧ w.rangeAt g (o + i * 33) p.cells := by
 obtain ⟨g, o, cs, e, h1, _, _, h4⟩ := h.1.at hi
 have hl : i < l.length := by rw [h.len]; exact hi
 rw [List.getElem?_map, List.getElem?_eq_getElem hl] at h1
 simp only [Option.map_some, Option.some.injEq] at h1
 subst h1
 exact ⟨g, o, l[i], e, List.getElem?_eq_getElem hl, List.getElem_mem hl, List.drop_eq_getElem_cons hl, h.2 _ (List.getElem_mem hl), h4⟩
theorem AllP.mono : ∀ {ps : List Pf} {ss : List Pl}, AllP w ps ss → (∀ (s : Pl) es, EysIn w s.1 s.2.1 es → EysIn w' s.1 s.2.1 es) → AllP w' ps ss
 | [], [], _, _ => trivial
 | _ :: _, _ :: _, h, hm => ⟨⟨hm _ _ h.1.1, h.1.2⟩, AllP.mono h.2 hm⟩
 | [], _ :: _, h, _ => h.elim
 | _ :: _, [], h, _ => h.elim
theorem AllP.len : ∀ {ps : List Pf} {ss : List Pl}, AllP w ps ss → ps.length = ss.length
 | [], [], _ => rfl
 | _ :: _, _ :: _, h => by simp [AllP.len h.2]
 | [], _ :: _, h => h.elim
 | _ :: _, [], h => h.elim
theorem AllP.at : ∀ {ps : List Pf} {ss : List Pl} {i : Nat} {p : Pf}, AllP w ps ss → ps[i]? = some p → ∃ s, ss[i]? = some s ∧ EysIn w s.1 s.2.1 p.es ∧ s.2.1 ≤ s.2.2 ∧ s.2.2 ≤ maxLen
 | [], _, _, _, _, h => by simp at h
 | _ :: _, [], _, _, h, _ => h.elim
 | x :: _, s :: _, 0, p, h, he => by
  simp at he
  subst he
  exact ⟨s, rfl, h.1⟩
 | _ :: _, _ :: _, i + 1, p, h, he => by
  obtain ⟨s, hs, ht⟩ := AllP.at h.2 (by simpa using he)
  exact ⟨s, by simpa using hs, ht⟩
theorem AllP.snoc : ∀ {ps : List Pf} {ss : List Pl} {p : Pf} {s : Pl}, AllP w ps ss → EysIn w s.1 s.2.1 p.es ∧ s.2.1 ≤ s.2.2 ∧ s.2.2 ≤ maxLen → AllP w (ps ++ [p]) (ss ++ [s])
 | [], [], _, _, _, h => ⟨h, trivial⟩
 | _ :: _, _ :: _, _, _, h, h' => ⟨h.1, AllP.snoc h.2 h'⟩
 | [], _ :: _, _, _, h, _ => h.elim
 | _ :: _, [], _, _, h, _ => h.elim
theorem PfsIn.none_ : PfsIn w none 0 [] := ⟨[], Sl.none_, trivial⟩
theorem PfsIn.through {ps : List Pf} (h : PfsIn w A k ps) (hb : Below w.heap.size w w') : PfsIn w' A k ps := by
 obtain ⟨ss, h1, h2⟩ := h
 exact ⟨ss, h1.through hb, h2.mono fun _ _ h => h.through hb⟩
theorem PfsIn.len {ps : List Pf} (h : PfsIn w A k ps) : ps.length = k := by
 obtain ⟨ss, h1, h2⟩ := h
 rw [← pfR_len h2.len]
 exact h1.len
theorem PfsIn.at {ps : List Pf} (h : PfsIn w A k ps) {i : Nat} (hi : i < k) : ∃ g o p B m c, A = some ⟨g, o, none⟩ ∧ ps[i]? = some p ∧ p ∈ ps ∧ ps.drop i = p :: ps.drop (i + 1) ∧ w.rangeAt g (o + i * 3) [.int .i64 p.sq, .int .i64 p.vw, .slice B m c] ∧ EysIn w B m p.es ∧ m ≤ c ∧ c ≤ maxLen := by
 have hl : i < ps.length := by rw [h.len]; exact hi
 obtain ⟨ss, h1, h2⟩ := h
 obtain ⟨g, o, cs, e, h3, _, _, h4⟩ := h1.at hi
 obtain ⟨s, hs, ht⟩ := h2.at (List.getElem?_eq_getElem hl)
 rw [pfR_get (List.getElem?_eq_getElem hl) hs] at h3
 injection h3 with h3
 subst h3
 exact ⟨g, o, ps[i], s.1, s.2.1, s.2.2, e, List.getElem?_eq_getElem hl, List.getElem_mem hl, List.drop_eq_getElem_cons hl, h4, ht⟩
/-- the slices' caps that a change is handed with -/
structure Caps where
 c1 : Nat
 c2 : Nat
 c3 : Nat
/-- a change's cells, and that it is read there -/
def Ch.cells (c : Ch) (P Q R : Pl) : List Value := [.int .i64 c.vw, .int .i64 c.lw, .slice P.1 P.2.1 P.2.2, .slice Q.1 Q.2.1 Q.2.2, .slice R.1 R.2.1 R.2.2]
def ChIn (w : World) (P Q R : Pl) (c : Ch) : Prop := (PosIn w P.1 P.2.1 c.po ∧ P.2.1 ≤ P.2.2 ∧ P.2.2 ≤ maxLen) ∧ (PfsIn w Q.1 Q.2.1 c.pp ∧ Q.2.1 ≤ Q.2.2 ∧ Q.2.2 ≤ maxLen) ∧ (PfsIn w R.1 R.2.1 c.pd ∧ R.2.1 ≤ R.2.2 ∧ R.2.2 ≤ maxLen)
theorem ChIn.through {P Q R : Pl} {c : Ch} (h : ChIn w P Q R c) (hb : Below w.heap.size w w') : ChIn w' P Q R c := ⟨⟨h.1.1.through hb, h.1.2⟩, ⟨h.2.1.1.through hb, h.2.1.2⟩, ⟨h.2.2.1.through hb, h.2.2.2⟩⟩
end
/-- how much is what a row of proofs tells -/
def Pf.Low (p : Pf) : Prop := p.es.length ≤ 1000 ∧ ∀ y ∈ p.es, y.co.lt.length ≤ 1000 ∧ y.co.tx.length ≤ 1000

end Go.Proofs.Ytheecifgbkdecaa
