/-
  RqT VoH
-/
import Derived.Test.YtheecifgbkdecaaSR10
import Derived.Test.YtheecifgbkdecaaSR14
import Derived.Test.YtheecifgbkdecaaSR8
import Derived.Test.YtheecifgbkdecaaSR15
namespace Go.Proofs.Ytheecifgbkdecaa
open Go.RowKit

section
variable {Q : Nat → Prop} {g : Nat} {st : Option (List UInt8)} {w : World}
set_option maxHeartbeats 1000000 in
theorem fixed_at (g : Nat) (xs : List UInt8) (er k : Int) (hx : xs.length ≤ 1099511627776) (w : World) (h : RS Q w g tR xs er) :
    Calls Try.prog 95 #[.pointer (some ⟨g, 0, none⟩), .int .i64 k] w (Gave Q w g tR (takeY xs er k) (takeX xs er k) (takeE xs er k)) := by
  have hcon := take_any g xs er k w h
  have hl2 := Nat.le_trans (takeY_le xs er k) hx
  clear h
  go_enter Try.func95, Try.ntmps95
  go_wp2_with (first
    | (go_at_call 94; refine hcon.mono ?_; rintro e w1 ⟨B, m, c, rfl, hmc, hy, hr, ho⟩; have HY := Lib.hid hy; have HR := Lib.hid hr; have HO := Lib.hid ho; clear hy hr ho)
    | (go_at_call 89; refine (clone_any _ B m c _ _ HY.out (by have := HY.out.len; omega)).mono ?_; rintro e w2 ⟨v2, rfl, hown, hb⟩))
  go_ret
  exact Gave.of_made HO.out HR.out hown hb
theorem fixed_rs (h : Rs Q w g tR st) (k : Nat) : Calls Try.prog 95 #[.pointer (some ⟨g, 0, none⟩), .int .i64 k] w fun e w' => ∃ B m c, e = .returned (.slice B m c) ∧ By w' (fun _ => True) B m (tval k st) ∧ Rs Q w' g tR (nnext k st) ∧ w.grownBy w' (some g) := by
  obtain ⟨xs, er, h, hs, hl⟩ := h
  obtain ⟨h1, h2⟩ := take_st hs k
  rw [← h1]
  exact (fixed_at g xs er k hl w h).mono fun e w' ⟨B, m, c, he, hm, hy, hr, hg⟩ => ⟨B, m, c, he, hy, ⟨_, _, hr, h2, Nat.le_trans (takeX_le _ _ _) hl⟩, hg⟩
end
theorem only_new_ {a b c : World} {g h : Nat} (hab : a.grownBy b (some g)) (hbc : b.grownBy c (some h)) (hh : a.heap.size ≤ h) : a.grownBy c (some g) :=
  ⟨hbc.os.trans hab.os, hbc.tape.trans hab.tape, hbc.output.trans hab.output, Nat.le_trans hab.size hbc.size, fun i hi hne => (hbc.block i (Nat.lt_of_lt_of_le hi hab.size) (fun e => by have := Option.some.inj e; omega)).trans (hab.block i hi hne)⟩
theorem tval_32 (st : Option (List UInt8)) : (tval 32 st).length = 32 ∨ tval 32 st = [] := by
  cases st with
  | none => exact .inr rfl
  | some xs =>
    rw [tval_some]
    split
    · exact .inl (by rw [List.length_take]; omega)
    · exact .inr rfl
theorem tagOf_len (l : List UInt8) : (tagOf l).length = 32 := by
  unfold tagOf
  split
  · assumption
  · simp
theorem tagOf_nil : tagOf [] = List.replicate 32 0 := rfl
theorem tagOf_32 {l : List UInt8} (h : l.length = 32) : tagOf l = l := by unfold tagOf; rw [if_pos h]
/-- copy of nothing, in a region that draws -/
theorem step_copy_none {P : Program} {ops : Array Oper} {o : Oper} {a : Act} {w : World} {K : Act → World → Prop} {Q : Exit → Act → World → Prop} {E : Prop} (hgd : o.guard = none) (d s : Operand) (dT sT : TypeId)
    (ho : o.op = .call { callee := .builtin .copy, args := #[d, s], argTypes := #[dT, sT] }) (elem : TypeId) (hu : P.underlying dT = some (.slice elem)) (hsz : (P.info? elem).map (·.size) = some 1)
    (da : Option Addr) (dLen dCap : Nat) (sp : Option Addr) (sLen sCap : Nat) (hd : a.eval d = .slice da dLen dCap) (hs : a.eval s = .slice sp sLen sCap) (hn : Nat.min sLen dLen = 0)
    (h : K (a.put o.dst (.int .i64 0)) w) :
    if Region.wanted o (yielded ops a.tmps) = true then Oper.wp P o a w K Q else E := by
  have hw : Region.wanted o (yielded ops a.tmps) = true := by simp [Region.wanted, hgd]
  rw [if_pos hw]
  have hrun := run_copy_none (P := P) w dT sT o.type elem da sp dLen dCap sLen sCap hu hsz hn
  unfold Oper.wp
  simp [execOp, ho, resolve, invoke, builtin, hd, hs, hrun, Result.andThen]
  exact h
theorem by_src {w : World} {A : Option Addr} {m : Nat} {xs : List UInt8} (h : By w (fun _ => True) A m xs) (hl : xs.length = 32) : ∃ ad, A = some ad ∧ ∀ j v, (vs xs)[j]? = some v → w.cell? (ad.add j) = some v := by
  obtain ⟨g, o, e, _, hc⟩ := h.2 (by have := h.1; omega)
  refine ⟨_, e, fun j v hj => ?_⟩
  rw [vs_get] at hj
  obtain ⟨x, hx, rfl⟩ := Option.map_eq_some_iff.1 hj
  have ea : (⟨g, o, none⟩ : Addr).add j = ⟨g, o + j, none⟩ := by unfold Addr.add; split <;> simp_all
  rw [ea]
  exact hc j x hx
theorem grown_drew {w w' : World} {r : Option Nat} (h : w.grownBy w' r) : w.grownBy w'.drew r := ⟨h.os, h.tape, h.output, h.size, fun i hi hne => h.block i hi hne⟩
end Go.Proofs.Ytheecifgbkdecaa

namespace Go.Proofs.Ytheecifgbkdecaa
open Go.RowKit

theorem below2_ (w : World) (A B : Obj) : Below w.heap.size w ((w.alloc A).alloc B) := (below1_ w A).alloc (below1_ w A).size B
theorem only_own_ {a b c : World} {g : Nat} {row : Option Nat} (hab : a.grownBy b (some g)) (hbc : b.grownBy c row) (hh : ∀ h, row = some h → a.heap.size ≤ h) : a.grownBy c (some g) :=
  ⟨hbc.os.trans hab.os, hbc.tape.trans hab.tape, hbc.output.trans hab.output, Nat.le_trans hab.size hbc.size, fun i hi hne => (hbc.block i (Nat.lt_of_lt_of_le hi hab.size) (fun e => by have := hh i e.symm; omega)).trans (hab.block i hi hne)⟩
theorem put_next {ys : List UInt8} {i : Nat} (h : i < ys.length) (h32 : i < 32) : (vs (ys.take i ++ List.replicate (32 - i) 0)).set i (u8 ys[i]) = vs (ys.take (i + 1) ++ List.replicate (32 - (i + 1)) 0) := by
  have e : List.replicate (32 - i) (0 : UInt8) = 0 :: List.replicate (32 - (i + 1)) 0 := by
    rw [← List.replicate_succ]; congr 1; omega
  have hl : (ys.take i).length = i := by rw [List.length_take]; omega
  have e2 : ys.take i ++ ys[i] :: List.replicate (32 - (i + 1)) 0 = ys.take (i + 1) ++ List.replicate (32 - (i + 1)) 0 := by
    rw [List.take_add_one, List.getElem?_eq_getElem h, List.append_assoc]
    rfl
  unfold vs
  rw [← List.map_set, List.set_append_right _ _ (by omega), hl, Nat.sub_self, e, List.set_cons_zero, e2]
theorem copied (st : Option (List UInt8)) {m : Nat} (h : (tval 32 st).length = m) : (tval 32 st).take m ++ List.replicate (32 - m) 0 = tagOf (tval 32 st) := by
  rcases tval_32 st with h9 | h9
  · rw [tagOf_32 h9, ← h, List.take_length, h9]
    simp
  · rw [h9] at h ⊢
    subst h
    rfl

set_option maxHeartbeats 16000000 in
set_option maxRecDepth 100000 in
theorem rrdig17_any {Q : Nat → Prop} (g : Nat) (st : Option (List UInt8)) (w : World) (h : Rs Q w g tQ st) (hQ : ∀ b, Q b → b < w.heap.size) :
    Calls Try.prog 57 #[.pointer (some ⟨g, 0, none⟩)] w fun e w' => e = .returned (.agg (vs (tagOf (tval 32 st))).toArray) ∧ Rs Q w' g tQ (nnext 32 st) ∧ w.grownBy w' (some g) := by
  have HLT := Lib.hid h.lt
  have HQ := Lib.hid hQ
  have HR2 := Lib.hid ((h.alloc (.cells #[.int .u8 0, .int .u8 0, .int .u8 0, .int .u8 0, .int .u8 0, .int .u8 0, .int .u8 0, .int .u8 0, .int .u8 0, .int .u8 0, .int .u8 0, .int .u8 0, .int .u8 0, .int .u8 0, .int .u8 0, .int .u8 0, .int .u8 0, .int .u8 0, .int .u8 0, .int .u8 0, .int .u8 0, .int .u8 0, .int .u8 0, .int .u8 0, .int .u8 0, .int .u8 0, .int .u8 0, .int .u8 0, .int .u8 0, .int .u8 0, .int .u8 0, .int .u8 0] 40)).alloc (.cells #[.int .u8 0, .int .u8 0, .int .u8 0, .int .u8 0, .int .u8 0, .int .u8 0, .int .u8 0, .int .u8 0, .int .u8 0, .int .u8 0, .int .u8 0, .int .u8 0, .int .u8 0, .int .u8 0, .int .u8 0, .int .u8 0, .int .u8 0, .int .u8 0, .int .u8 0, .int .u8 0, .int .u8 0, .int .u8 0, .int .u8 0, .int .u8 0, .int .u8 0, .int .u8 0, .int .u8 0, .int .u8 0, .int .u8 0, .int .u8 0, .int .u8 0, .int .u8 0] 40))
  have HC2 : Hid (Blk ((w.alloc (.cells #[.int .u8 0, .int .u8 0, .int .u8 0, .int .u8 0, .int .u8 0, .int .u8 0, .int .u8 0, .int .u8 0, .int .u8 0, .int .u8 0, .int .u8 0, .int .u8 0, .int .u8 0, .int .u8 0, .int .u8 0, .int .u8 0, .int .u8 0, .int .u8 0, .int .u8 0, .int .u8 0, .int .u8 0, .int .u8 0, .int .u8 0, .int .u8 0, .int .u8 0, .int .u8 0, .int .u8 0, .int .u8 0, .int .u8 0, .int .u8 0, .int .u8 0, .int .u8 0] 40)).alloc (.cells #[.int .u8 0, .int .u8 0, .int .u8 0, .int .u8 0, .int .u8 0, .int .u8 0, .int .u8 0, .int .u8 0, .int .u8 0, .int .u8 0, .int .u8 0, .int .u8 0, .int .u8 0, .int .u8 0, .int .u8 0, .int .u8 0, .int .u8 0, .int .u8 0, .int .u8 0, .int .u8 0, .int .u8 0, .int .u8 0, .int .u8 0, .int .u8 0, .int .u8 0, .int .u8 0, .int .u8 0, .int .u8 0, .int .u8 0, .int .u8 0, .int .u8 0, .int .u8 0] 40)) w.heap.size 40 (vs (List.replicate 32 0))) := Lib.hid ((Blk.fresh rfl rfl).alloc _)
  have HT2 : Hid (Blk ((w.alloc (.cells #[.int .u8 0, .int .u8 0, .int .u8 0, .int .u8 0, .int .u8 0, .int .u8 0, .int .u8 0, .int .u8 0, .int .u8 0, .int .u8 0, .int .u8 0, .int .u8 0, .int .u8 0, .int .u8 0, .int .u8 0, .int .u8 0, .int .u8 0, .int .u8 0, .int .u8 0, .int .u8 0, .int .u8 0, .int .u8 0, .int .u8 0, .int .u8 0, .int .u8 0, .int .u8 0, .int .u8 0, .int .u8 0, .int .u8 0, .int .u8 0, .int .u8 0, .int .u8 0] 40)).alloc (.cells #[.int .u8 0, .int .u8 0, .int .u8 0, .int .u8 0, .int .u8 0, .int .u8 0, .int .u8 0, .int .u8 0, .int .u8 0, .int .u8 0, .int .u8 0, .int .u8 0, .int .u8 0, .int .u8 0, .int .u8 0, .int .u8 0, .int .u8 0, .int .u8 0, .int .u8 0, .int .u8 0, .int .u8 0, .int .u8 0, .int .u8 0, .int .u8 0, .int .u8 0, .int .u8 0, .int .u8 0, .int .u8 0, .int .u8 0, .int .u8 0, .int .u8 0, .int .u8 0] 40)) (w.heap.size + 1) 40 (vs (List.replicate 32 0))) := Lib.hid (Blk.fresh (by simp) rfl)
  have HFx : Hid (∀ (W : World), Rs Q W g tQ st → Calls Try.prog 97 #[.pointer (some ⟨g, 0, none⟩), .int .i64 32] W fun e w' => ∃ B m c, e = .returned (.slice B m c) ∧ By w' (fun b => W.heap.size ≤ b) B m (tval 32 st) ∧ Rs Q w' g tQ (nnext 32 st) ∧ W.grownBy w' (some g)) := Lib.hid (fun W hR => rfixed_rsF hR 32)
  clear h hQ
  go_enter Try.func57, Try.ntmps57
  go_wp2_with (first
    | (go_at_call 97; (refine (HFx.out _ HR2.out).mono ?_); rintro e wd ⟨Bf, mf, cf, rfl, hyf, hrf, hgf⟩; have HRd := Lib.hid hrf; have HYd := Lib.hid hyf; have HTd : Hid (Blk wd (w.heap.size + 1) 40 (vs (List.replicate 32 0))) := Lib.hid (HT2.out.grown hgf (fun e => by have := Option.some.inj e; have := HLT.out; omega)); have HCd : Hid (Blk wd w.heap.size 40 (vs (List.replicate 32 0))) := Lib.hid (HC2.out.grown hgf (fun e => by have := Option.some.inj e; have := HLT.out; omega)); have HGd : Hid (w.grownBy wd (some g)) := Lib.hid (only_trans (only_below (below2_ w _ _)) hgf); have HSd : Hid (w.heap.size + 2 ≤ wd.heap.size) := Lib.hid (by have := hgf.size; simpa using this); clear hyf hrf hgf))
  go_loopw [9] (fun iv wr => ∃ i : Nat, i ≤ mf ∧ iv = .int .i64 (i : Int) ∧ Blk wr (w.heap.size + 1) 40 (vs ((tval 32 st).take i ++ List.replicate (32 - i) 0)) ∧ wd.grownBy wr (some (w.heap.size + 1))) (fun iv _ => mf - (intOf iv).toNat)
  case atStart => exact ⟨0, Nat.zero_le _, rfl, HTd.out, only_refl _ _⟩
  case round =>
    obtain ⟨i, hi, rfl, hb3, hg3⟩ := hrel
    have H3 := Lib.hid hb3
    have HG3 := Lib.hid hg3
    have hml : (tval 32 st).length = mf := HYd.out.len
    have h32 : mf ≤ 32 := by rcases tval_32 st with h9 | h9 <;> rw [h9] at hml <;> (try simp at hml) <;> omega
    have hy3 : By wr (fun b => ((w.alloc (.cells #[.int .u8 0, .int .u8 0, .int .u8 0, .int .u8 0, .int .u8 0, .int .u8 0, .int .u8 0, .int .u8 0, .int .u8 0, .int .u8 0, .int .u8 0, .int .u8 0, .int .u8 0, .int .u8 0, .int .u8 0, .int .u8 0, .int .u8 0, .int .u8 0, .int .u8 0, .int .u8 0, .int .u8 0, .int .u8 0, .int .u8 0, .int .u8 0, .int .u8 0, .int .u8 0, .int .u8 0, .int .u8 0, .int .u8 0, .int .u8 0, .int .u8 0, .int .u8 0] 40)).alloc (.cells #[.int .u8 0, .int .u8 0, .int .u8 0, .int .u8 0, .int .u8 0, .int .u8 0, .int .u8 0, .int .u8 0, .int .u8 0, .int .u8 0, .int .u8 0, .int .u8 0, .int .u8 0, .int .u8 0, .int .u8 0, .int .u8 0, .int .u8 0, .int .u8 0, .int .u8 0, .int .u8 0, .int .u8 0, .int .u8 0, .int .u8 0, .int .u8 0, .int .u8 0, .int .u8 0, .int .u8 0, .int .u8 0, .int .u8 0, .int .u8 0, .int .u8 0, .int .u8 0] 40)).heap.size ≤ b) Bf mf (tval 32 st) := (HYd.out.lt.keep fun b hb => hg3.block b hb.2 (fun e => by have := Option.some.inj e; have h7 : w.heap.size + 2 ≤ b := (by simpa using hb.1); omega)).weak fun _ h => h.1
    clear hb3 hg3
    by_cases hli : i < mf
    · have hil : i < (tval 32 st).length := by omega
      have hi32 : i < 32 := by omega
      obtain ⟨gb, ob, rfl, hc3⟩ := hy3.cell i hil
      unfold _root_.Go.Proofs.Ytheecifgbkdecaa.u8 at hc3
      have HPN := Lib.hid (put_next hil hi32)
      clear hy3 hml
      go_wp2_with (first
        | (refine wpList_store_cell rfl 5 (.tmp 16) (.tmp 15) rfl (w.heap.size + 1) i (by simp [Act.eval]) (_root_.Go.Proofs.Ytheecifgbkdecaa.u8 (tval 32 st)[i]) (by simp [Act.eval, _root_.Go.Proofs.Ytheecifgbkdecaa.u8]) rfl rfl (fun w => by kernel_rfl) 40 (vs ((tval 32 st).take i ++ List.replicate (32 - i) 0)) H3.out (by rw [vs_length]; simp; omega) ?_; intro w8 hb8 hg8; have H8 := Lib.hid hb8; have HG8 := Lib.hid (only_trans HG3.out hg8); clear hb8 hg8))
      go_roundw
      case rel => exact ⟨i + 1, by omega, by go_num, (by have h9 := H8.out; rw [HPN.out] at h9; exact h9), HG8.out⟩
      case measure => simp [intOf]; omega
    · have hie : i = mf := by omega
      subst hie
      obtain ⟨tg, htg⟩ : ∃ tg, tagOf (tval 32 st) = tg := ⟨_, rfl⟩
      have htl : tg.length = 32 := by rw [← htg]; exact tagOf_len _
      have HTL := Lib.hid htl
      have HT3 : Hid (Blk wr (w.heap.size + 1) 40 (vs tg)) := Lib.hid (by rw [← htg, ← copied st hml]; exact H3.out)
      have HC3 : Hid (Blk wr w.heap.size 40 (vs (List.replicate 32 0))) := Lib.hid (HCd.out.grown HG3.out (fun e => by have := Option.some.inj e; omega))
      have HRw := Lib.hid (HRd.out.other HG3.out (fun b hb => ⟨fun e => by have := Option.some.inj hb; have := HLT.out; omega, fun h9 => by have := Option.some.inj hb; have := HQ.out b h9; omega⟩))
      have HGw : Hid (w.grownBy wr (some g)) := Lib.hid (only_own_ HGd.out HG3.out (fun h e => by have := Option.some.inj e; omega))
      have HTG := Lib.hid htg
      clear htg htl hy3 hml h32
      go_wp2_with (first
        | (refine wpList_load_blk rfl 40 (.tmp 3) rfl (w.heap.size + 1) rfl 40 (vs tg) _ HT3.out Try.underlying40 rfl (by rw [vs_length, HTL.out]; kernel_rfl) ?_)
        | (refine wpList_store_blk rfl 40 (.tmp 2) (.tmp 18) rfl w.heap.size (vs tg) rfl rfl 40 (vs (List.replicate 32 0)) HC3.out (by rw [vs_length, HTL.out]; kernel_rfl) (by rw [vs_length, vs_length, HTL.out]; rfl) (Array.all_eq_true_iff_forall_mem.2 (fun u hu => vs_one u (by simpa using hu))) ?_; intro wy hby hgy; have HBy := Lib.hid hby; have HGy := Lib.hid hgy; clear hby hgy))
      (try simp only [Exit.inBlock, Exit.then])
      refine bodyPost_ret (v := .agg (vs tg).toArray) (results_cell_row rfl _ _ w.heap.size 40 _ (0, 0) _ rfl HBy.out Try.underlying40 rfl ?r1) rfl ⟨by rw [HTG.out], HRw.out.other HGy.out (fun b hb => ⟨fun e => by have := Option.some.inj hb; have := HLT.out; omega, fun h9 => by have := Option.some.inj hb; have := HQ.out b h9; omega⟩), only_own_ HGw.out HGy.out (fun h e => by have := Option.some.inj e; omega)⟩
      rw [List.size_toArray, vs_length, HTL.out]
      kernel_rfl

end Go.Proofs.Ytheecifgbkdecaa
