/-
  ChY
-/
import Derived.Deep.CutBlock
import Derived.Test.YtheecifgbkdecaaSM19
import Derived.Test.YtheecifgbkdecaaSM21
import Derived.Test.YtheecifgbkdecaaSMT
namespace Go.Proofs.Ytheecifgbkdecaa
open Go.RowKit

theorem docR_lt (m L : Nat) : ∀ (k : Nat) (b : Bool) (out : List Ey) (st : Option (List UInt8)), (∀ y ∈ out, y.co.lt.length ≤ L ∧ y.co.tx.length ≤ L) → stL st ≤ L → ∀ y ∈ (docR m k b out st).1, y.co.lt.length ≤ L ∧ y.co.tx.length ≤ L
 | 0, b, out, st, h, _ => h
 | k + 1, b, out, none, h, _ => h
 | k + 1, b, out, some xs, h, hl => by
  rw [docR_some]
  have hr : (rval m (some xs)).length ≤ L := Nat.le_trans (rval_stL _ _) hl
  refine docR_lt m L k _ _ _ (fun y hy => ?_) (Nat.le_trans (nnext_stL _ _) (Nat.le_trans (rnext_stL _ _) hl))
  rcases List.mem_append.1 hy with hy | hy
  ·exact h y hy
  ·rw [List.mem_singleton.1 hy]
   have l1 : stL (nnext 1 (nnext 8 (nnext 1 (some (rval m (some xs)))))) ≤ L := Nat.le_trans (nnext_stL _ _) (Nat.le_trans (nnext_stL _ _) (Nat.le_trans (nnext_stL _ _) hr))
   exact ⟨Nat.le_trans (rval_stL _ _) l1, Nat.le_trans (rval_stL _ _) (Nat.le_trans (nnext_stL _ _) (Nat.le_trans (nnext_stL _ _) (Nat.le_trans (rnext_stL _ _) l1)))⟩

theorem one5c (a b : Int) (A : Option Addr) (n c : Nat) (B : Option Addr) (m d : Nat) (C : Option Addr) (k e : Nat) : ([.int .i64 a, .int .i64 b, .slice A n c, .slice B m d, .slice C k e] : List Value).toArray.all (·.oneCell') = true := by simp [Value.oneCell']
theorem Try.build_ch0 (w : World) : (Instr.build 25 #[]).run Try.prog w = .ok (.agg #[.int .i64 0, .int .i64 0, .slice none 0 0, .slice none 0 0, .slice none 0 0]) w := by kernel_rfl
theorem Try.build_ch2 (a b : Int) (w : World) : (Instr.build 25 #[(0, .int .i64 a), (1, .int .i64 b)]).run Try.prog w = .ok (.agg #[.int .i64 a, .int .i64 b, .slice none 0 0, .slice none 0 0, .slice none 0 0]) w := by kernel_rfl
theorem Try.build_po (a : Int) (d : List UInt8) (hd : d.length = 32) (w : World) : (Instr.build 52 #[(0, .int .i64 a), (1, .agg (vs d).toArray)]).run Try.prog w = .ok (.agg (Po.cells ⟨a, d⟩).toArray) w := by
 obtain ⟨x0, x1, x2, x3, x4, x5, x6, x7, x8, x9, x10, x11, x12, x13, x14, x15, x16, x17, x18, x19, x20, x21, x22, x23, x24, x25, x26, x27, x28, x29, x30, x31, rfl⟩ := vs_lit d hd
 kernel_rfl
theorem Try.agg_pos18 (w : World) : (isAgg 22).run Try.prog w = .ok false w := by kernel_rfl
theorem ChIn.no_ (w : World) : ChIn w (none, 0, 0) (none, 0, 0) (none, 0, 0) Ch.no := ⟨⟨PosIn.none_, Nat.le_refl _, by simp [maxLen]⟩, ⟨PfsIn.none_, Nat.le_refl _, by simp [maxLen]⟩, ⟨PfsIn.none_, Nat.le_refl _, by simp [maxLen]⟩⟩
/-- a call's own row of points -/
def OPo (w : World) (B : Nat) (v : Value) (ps : List Po) : Prop := Os w B 52 33 v (ps.map Po.cells) ∧ ∀ p ∈ ps, p.dg.length = 32
section
variable {w w' : World} {B : Nat} {v : Value} {ps : List Po}
theorem OPo.through (h : OPo w B v ps) (hb : Below w.heap.size w w') : OPo w' B v ps := ⟨h.1.through hb, h.2⟩
theorem OPo.off {g : Nat} (h : OPo w B v ps) (hg : w.grownBy w' (some g)) (hl : g < B) : OPo w' B v ps := ⟨h.1.far hg hl, h.2⟩
theorem OPo.nil (w : World) (B : Nat) : OPo w B (.slice none 0 0) [] := ⟨Os.nil _ _ _ _, fun _ h => nomatch h⟩
theorem OPo.weak {B' : Nat} (h : OPo w B v ps) (hB : B' ≤ B) : OPo w B' v ps := ⟨h.1.weak hB, h.2⟩
theorem OPo.out (h : OPo w B v ps) : ∃ A c, v = .slice A ps.length c ∧ ps.length ≤ c ∧ c ≤ maxLen ∧ PosIn w A ps.length ps := by
 obtain ⟨A, c, e, hn, hm, hs⟩ := h.1.out
 rw [List.length_map] at e hn hs
 exact ⟨A, c, e, hn, hm, hs, h.2⟩
end
/-- what holds while the points are read -/
structure PtS (w : World) (gC : Nat) (v1 v2 : Int) (V : Pl) (po : List Po) (s : Option (List UInt8)) (W : World) : Prop where
 r : Rs (fun b => b < w.heap.size) W (w.heap.size + 1) tQ s
 x : Below w.heap.size w W
 z : Blk W w.heap.size 25 [.int .i64 0, .int .i64 0, .slice none 0 0, .slice none 0 0, .slice none 0 0]
 b : Blk W gC 25 [.int .i64 v1, .int .i64 v2, .slice V.1 V.2.1 V.2.2, .slice none 0 0, .slice none 0 0]
 g : w.heap.size + 2 ≤ gC
 o : OPo W (gC + 1) (.slice V.1 V.2.1 V.2.2) po
section
variable {w W W' : World} {gC : Nat} {v1 v2 : Int} {V : Pl} {po : List Po} {s s' : Option (List UInt8)}
theorem PtS.read (h : PtS w gC v1 v2 V po s W) (hr : Rs (fun b => b < w.heap.size) W' (w.heap.size + 1) tQ s') (hg : W.grownBy W' (some (w.heap.size + 1))) : PtS w gC v1 v2 V po s' W' :=
 ⟨hr, h.x.grown hg h.x.size (fun k hk => by have := Option.some.inj hk; omega), h.z.grown hg (by simp), h.b.grown hg (fun e => by have := Option.some.inj e; have := h.g; omega), h.g, h.o.off hg (by have := h.g; omega)⟩
theorem PtS.below (h : PtS w gC v1 v2 V po s W) (hb : Below W.heap.size W W') : PtS w gC v1 v2 V po s W' :=
 ⟨h.r.below hb, below_step h.x hb, h.z.through hb, h.b.through hb, h.g, h.o.through hb⟩
theorem PtS.drew (h : PtS w gC v1 v2 V po s W) : PtS w gC v1 v2 V po s W.drew := ⟨h.r.drew, h.x.drew, h.z.drew, h.b.drew, h.g, h.o.1.drew, h.o.2⟩
end
theorem AllB.weak {w : World} {B B' : Nat} (hB : B' ≤ B) : ∀ {ps : List Pf} {ss : List Pl}, AllB w B ps ss → AllB w B' ps ss
 | [], [], _ => trivial
 | _ :: _, _ :: _, h => ⟨h.1.weak_ hB, AllB.weak hB h.2⟩
 | [], _ :: _, h => h.elim
 | _ :: _, [], h => h.elim
theorem OPf.weak {w : World} {B B' : Nat} {v : Value} {ps : List Pf} (h : OPf w B v ps) (hB : B' ≤ B) : OPf w B' v ps := by
 obtain ⟨ss, h1, h2⟩ := h
 exact ⟨ss, h1.weak hB, h2.weak hB⟩
/-- a change in memory that a call has made from B on -/
def ChOwn (w : World) (B : Nat) (P Q R : Pl) (C : Ch) : Prop := OPo w B (.slice P.1 P.2.1 P.2.2) C.po ∧ OPf w B (.slice Q.1 Q.2.1 Q.2.2) C.pp ∧ OPf w B (.slice R.1 R.2.1 R.2.2) C.pd
theorem ChOwn.no_ (w : World) (B : Nat) : ChOwn w B (none, 0, 0) (none, 0, 0) (none, 0, 0) Ch.no := ⟨OPo.nil _ _, OPf.nil _ _, OPf.nil _ _⟩
def ChOutO (w : World) (C : Ch) (er : Int) (e : Ending) (w' : World) : Prop := ∃ P Q R : Pl, e = .returned (.tuple #[.agg (Ch.cells C P Q R).toArray, .int .i64 er]) ∧ ChOwn w' w.heap.size P Q R C ∧ Below w.heap.size w w'
/-- what holds behind the readings -/
structure FnS (w : World) (gC : Nat) (X : List Value) (V Vp Vq : Pl) (po : List Po) (pp pd : List Pf) (s : Option (List UInt8)) (W : World) : Prop where
 r : Rs (fun b => b < w.heap.size) W (w.heap.size + 1) tQ s
 x : Below w.heap.size w W
 z : Blk W w.heap.size 25 [.int .i64 0, .int .i64 0, .slice none 0 0, .slice none 0 0, .slice none 0 0]
 b : Blk W gC 25 X
 g : w.heap.size + 2 ≤ gC
 o : OPo W (gC + 1) (.slice V.1 V.2.1 V.2.2) po
 p : OPf W (gC + 1) (.slice Vp.1 Vp.2.1 Vp.2.2) pp
 q : OPf W (gC + 1) (.slice Vq.1 Vq.2.1 Vq.2.2) pd
section
variable {w W W' : World} {gC : Nat} {X X' : List Value} {V Vp Vq : Pl} {po : List Po} {pp pd : List Pf} {s : Option (List UInt8)}
theorem FnS.turn (h : FnS w gC X V Vp Vq po pp pd s W) (hb : Blk W' gC 25 X') (hg : W.grownBy W' (some gC)) : FnS w gC X' V Vp Vq po pp pd s W' :=
 ⟨h.r.other hg (fun b hb => by have := Option.some.inj hb; have := h.g; exact ⟨fun e => by omega, fun h9 => by omega⟩), h.x.grown hg h.x.size (fun b hb => by have := Option.some.inj hb; have := h.g; omega), h.z.grown hg (fun e => by have := Option.some.inj e; have := h.g; omega), hb, h.g, h.o.off hg (by omega), h.p.off hg (by omega), h.q.off hg (by omega)⟩
theorem FnS.below (h : FnS w gC X V Vp Vq po pp pd s W) (hb : Below W.heap.size W W') : FnS w gC X V Vp Vq po pp pd s W' :=
 ⟨h.r.below hb, below_step h.x hb, h.z.through hb, h.b.through hb, h.g, h.o.through hb, h.p.through hb, h.q.through hb⟩
theorem chin_of {v1 v2 : Int} {B : Nat} (h1 : OPo W B (.slice V.1 V.2.1 V.2.2) po) (h2 : OPf W B (.slice Vp.1 Vp.2.1 Vp.2.2) pp) (h3 : OPf W B (.slice Vq.1 Vq.2.1 Vq.2.2) pd) : ChIn W V Vp Vq ⟨v1, v2, po, pp, pd⟩ := by
 obtain ⟨A, c, e, a1, a2, a3⟩ := h1.out
 obtain ⟨A', c', e', b1, b2, b3⟩ := h2.out
 obtain ⟨A'', c'', e'', c1, c2, c3⟩ := h3.out
 injection e with x1 x2 x3
 injection e' with y1 y2 y3
 injection e'' with z1 z2 z3
 unfold ChIn
 simp only
 rw [x1, x2, x3, y1, y2, y3, z1, z2, z3]
 exact ⟨⟨a3, a1, a2⟩, ⟨b3, b1, b2⟩, ⟨c3, c1, c2⟩⟩
theorem FnS.chin {v1 v2 : Int} (h : FnS w gC X V Vp Vq po pp pd s W) : ChIn W V Vp Vq ⟨v1, v2, po, pp, pd⟩ := chin_of h.o h.p h.q
end
theorem rdMany_stL {α : Type} {rd : Option (List UInt8) → α × Option (List UInt8)} (hrd : ∀ st, stL (rd st).2 ≤ stL st) : ∀ (n : Nat) (st : Option (List UInt8)), stL (rdMany rd n st).2 ≤ stL st
 | 0, _ => Nat.le_refl _
 | _ + 1, none => by rw [rdMany_none]; exact Nat.le_refl _
 | n + 1, some xs => by
  rw [rdMany_some]
  exact Nat.le_trans (rdMany_stL hrd n _) (hrd _)
theorem rdPf_stL (st : Option (List UInt8)) : stL (rdPf st).2 ≤ stL st := Nat.le_trans (rnext_stL _ _) (Nat.le_trans (nnext_stL _ _) (nnext_stL _ _))
theorem rdPo_stL (st : Option (List UInt8)) : stL (rdPo st).2 ≤ stL st := Nat.le_trans (nnext_stL _ _) (nnext_stL _ _)
/-- what is read of a row of proofs isn't longer than what there was -/
theorem rdPfs_lt {L most : Nat} {st : Option (List UInt8)} (h : stL st ≤ L) : ∀ p ∈ (rdPfs most st).1.map (·.1), ∀ y ∈ p.es, y.co.lt.length ≤ L := by
 have h1 : stL (cnext most st) ≤ L := Nat.le_trans (cnext_stL _ _) h
 unfold rdPfs
 generalize cval most st = k
 generalize cnext most st = s at h1
 have hq : ∀ (n : Nat) (s : Option (List UInt8)), stL s ≤ L → ∀ q ∈ (rdMany rdPf n s).1, ∀ y ∈ q.1.es, y.co.lt.length ≤ L := fun n => by
  induction n with
  | zero => intro s _ q hq; cases hq
  | succ n ih =>
   intro s hs q hq
   cases s with
   | none => rw [rdMany_none] at hq; cases hq
   | some xs =>
    rw [rdMany_some] at hq
    rcases List.mem_cons.1 hq with rfl | hq
    ·intro y hy
     have hr : (rval 1048576 (nnext 8 (nnext 8 (some xs)))).length ≤ L := Nat.le_trans (rval_stL _ _) (Nat.le_trans (nnext_stL _ _) (Nat.le_trans (nnext_stL _ _) hs))
     exact (docR_lt 1048576 L _ _ _ _ (fun y h => by cases h) (Nat.le_trans (nnext_stL _ _) (by simp only [stL]; exact hr)) y hy).1
    ·exact ih _ (Nat.le_trans (rdPf_stL _) hs) q hq
 intro p hp
 obtain ⟨q, h2, rfl⟩ := List.mem_map.1 hp
 exact hq k s h1 q h2

set_option maxHeartbeats 64000000 in
set_option maxRecDepth 100000 in
theorem rparse18_own (xs : List UInt8) (N : Int) (A : Option Addr) (n c : Nat) (w : World) (h : By w (fun _ => True) A n xs) (hnc : n ≤ c) (hc : c ≤ maxLen) (hn : n ≤ 1000000) :
  Calls Try.prog 16 #[.slice A n c, .int .i64 N] w (ChOutO w (parseCh xs N).1 (parseCh xs N).2) := by
 have hb0 := Try.build_ch0
 have HZ0 : Hid (Blk (w.alloc (.cells #[.int .i64 0, .int .i64 0, .slice none 0 0, .slice none 0 0, .slice none 0 0] 25)) w.heap.size 25 [.int .i64 0, .int .i64 0, .slice none 0 0, .slice none 0 0, .slice none 0 0]) := Lib.hid (Blk.fresh rfl rfl)
 have HX0 : Hid (Below w.heap.size w (w.alloc (.cells #[.int .i64 0, .int .i64 0, .slice none 0 0, .slice none 0 0, .slice none 0 0] 25))) := Lib.hid (below1_ w _)
 obtain ⟨P, hPP⟩ : ∃ P, parseCh xs N = P := ⟨_, rfl⟩
 rw [hPP]
 by_cases b1 : N < 1
 ·have d1 : decide (N < 1) = true := by simpa using b1
  have hP : P = (Ch.no, 1) := by rw [← hPP]; unfold parseCh; rw [if_pos (by simp [badN, b1])]
  subst hP
  clear hPP h b1 hnc hc hn
  go_enter Try.func16, Try.ntmps16
  go_wp2_with (first
   | go_big_skip
   | (refine wpList_store_blk rfl 25 (.tmp 4) (.tmp 19) rfl w.heap.size [.int .i64 0, .int .i64 0, .slice none 0 0, .slice none 0 0, .slice none 0 0] rfl rfl 25 [.int .i64 0, .int .i64 0, .slice none 0 0, .slice none 0 0, .slice none 0 0] HZ0.out (by kernel_rfl) rfl (one5c _ _ _ _ _ _ _ _ _ _ _) ?_; intro wy hby hgy; have HBy := Lib.hid hby; have HXy : Hid (Below w.heap.size w wy) := Lib.hid (HX0.out.grown hgy HX0.out.size (fun k hk => by have := Option.some.inj hk; omega)); clear hby hgy))
  (try simp only [Exit.inBlock, Exit.then]); refine bodyPost_ret (results_cell_row_tmp1 rfl _ _ w.heap.size 25 _ (0, 0) _ rfl HBy.out Try.underlying25 rfl (by kernel_rfl)) rfl ?_
  exact ⟨(none, 0, 0), (none, 0, 0), (none, 0, 0), rfl, ChOwn.no_ _ _, HXy.out⟩
 have d1 : decide (N < 1) = false := by simpa using b1
 by_cases b2 : 7 < N
 ·have d2 : decide (7 < N) = true := by simpa using b2
  have hP : P = (Ch.no, 1) := by rw [← hPP]; unfold parseCh; rw [if_pos (by simp [badN, b2])]
  subst hP
  clear hPP h b1 b2 hnc hc hn
  go_enter Try.func16, Try.ntmps16
  go_wp2_with (first
   | go_big_skip
   | (refine wpList_store_blk rfl 25 (.tmp 4) (.tmp 19) rfl w.heap.size [.int .i64 0, .int .i64 0, .slice none 0 0, .slice none 0 0, .slice none 0 0] rfl rfl 25 [.int .i64 0, .int .i64 0, .slice none 0 0, .slice none 0 0, .slice none 0 0] HZ0.out (by kernel_rfl) rfl (one5c _ _ _ _ _ _ _ _ _ _ _) ?_; intro wy hby hgy; have HBy := Lib.hid hby; have HXy : Hid (Below w.heap.size w wy) := Lib.hid (HX0.out.grown hgy HX0.out.size (fun k hk => by have := Option.some.inj hk; omega)); clear hby hgy))
  (try simp only [Exit.inBlock, Exit.then]); refine bodyPost_ret (results_cell_row_tmp1 rfl _ _ w.heap.size 25 _ (0, 0) _ rfl HBy.out Try.underlying25 rfl (by kernel_rfl)) rfl ?_
  exact ⟨(none, 0, 0), (none, 0, 0), (none, 0, 0), rfl, ChOwn.no_ _ _, HXy.out⟩
 have d2 : decide (7 < N) = false := by simpa using b2
 have hbn : badN N = false := by simp [badN]; omega
 have hPf : P = finCh (rdCh (some xs)) N := by rw [← hPP]; unfold parseCh; rw [hbn, if_neg (by simp)]
 have hxl : stL (some xs) ≤ 1000000 := by simp only [stL]; rw [h.len]; exact hn
 have HR2 : Hid (Rs (fun b => b < w.heap.size) ((w.alloc (.cells #[.int .i64 0, .int .i64 0, .slice none 0 0, .slice none 0 0, .slice none 0 0] 25)).alloc (.cells #[.slice A n c, .int .i64 0] 88)) (w.heap.size + 1) tQ (some xs)) := Lib.hid (by
  have h1 := rs_built (Q := (fun b => b < w.heap.size)) (((h.lt.weak fun _ h => h.2).alloc (.cells #[.int .i64 0, .int .i64 0, .slice none 0 0, .slice none 0 0, .slice none 0 0] 25))) hnc hc (by omega)
  simpa using h1)
 have HX2 : Hid (Below w.heap.size w ((w.alloc (.cells #[.int .i64 0, .int .i64 0, .slice none 0 0, .slice none 0 0, .slice none 0 0] 25)).alloc (.cells #[.slice A n c, .int .i64 0] 88))) := Lib.hid (below2_ w _ _)
 have HZ2 : Hid (Blk ((w.alloc (.cells #[.int .i64 0, .int .i64 0, .slice none 0 0, .slice none 0 0, .slice none 0 0] 25)).alloc (.cells #[.slice A n c, .int .i64 0] 88)) w.heap.size 25 [.int .i64 0, .int .i64 0, .slice none 0 0, .slice none 0 0, .slice none 0 0]) := Lib.hid ((Blk.fresh rfl rfl).alloc _)
 have HS2 : Hid (w.heap.size + 2 ≤ ((w.alloc (.cells #[.int .i64 0, .int .i64 0, .slice none 0 0, .slice none 0 0, .slice none 0 0] 25)).alloc (.cells #[.slice A n c, .int .i64 0] 88)).heap.size) := Lib.hid (by simp)
 have hbr : ∀ (W : World), (Instr.build 88 #[(0, .slice A n c)]).run Try.prog W = .ok (.agg #[.slice A n c, .int .i64 0]) W := fun W => by kernel_rfl
 have hbc := Try.build_ch2
 have HK1 : Hid (∀ W : World, Rs (fun b => b < w.heap.size) W (w.heap.size + 1) tQ (some xs) → Calls Try.prog 55 #[.pointer (some ⟨w.heap.size + 1, 0, none⟩), .int .i64 8] W fun e w' => e = .returned (.int .u64 (nval 8 (some xs))) ∧ Rs (fun b => b < w.heap.size) w' (w.heap.size + 1) tQ (nnext 8 (some xs)) ∧ W.grownBy w' (some (w.heap.size + 1))) := Lib.hid (fun W h9 => rnumber_rs h9 8 rfl)
 have HK2 : Hid (∀ W : World, Rs (fun b => b < w.heap.size) W (w.heap.size + 1) tQ (nnext 8 (some xs)) → Calls Try.prog 55 #[.pointer (some ⟨w.heap.size + 1, 0, none⟩), .int .i64 8] W fun e w' => e = .returned (.int .u64 (nval 8 (nnext 8 (some xs)))) ∧ Rs (fun b => b < w.heap.size) w' (w.heap.size + 1) tQ (nnext 8 (nnext 8 (some xs))) ∧ W.grownBy w' (some (w.heap.size + 1))) := Lib.hid (fun W h9 => rnumber_rs h9 8 rfl)
 have hc1 := fun (W : World) => conv_i64 70 2 Try.underlying70 Try.underlying2 (nval 8 (some xs)) (by have := nval_lt 8 (some xs); omega) W
 have hc2 := fun (W : World) => conv_i64 70 2 Try.underlying70 Try.underlying2 (nval 8 (nnext 8 (some xs))) (by have := nval_lt 8 (nnext 8 (some xs)); omega) W
 have hl2 : stL (nnext 8 (nnext 8 (some xs))) ≤ 1000000 := Nat.le_trans (nnext_stL _ _) (Nat.le_trans (nnext_stL _ _) hxl)
 unfold rdCh at hPf
 generalize sx 8 (nval 8 (some xs)) = v1 at hPf hc1
 generalize nval 8 (some xs) = k1 at HK1 hc1
 generalize sx 8 (nval 8 (nnext 8 (some xs))) = v2 at hPf hc2
 generalize nval 8 (nnext 8 (some xs)) = k2 at HK2 hc2
 generalize nnext 8 (nnext 8 (some xs)) = s2 at hPf HK2 hl2
 generalize nnext 8 (some xs) = s1 at HK1 HK2
 have HCn : Hid (∀ (gC : Nat) (V : Pl) (po : List Po) (W : World), PtS w gC v1 v2 V po s2 W → Calls Try.prog 56 #[.pointer (some ⟨w.heap.size + 1, 0, none⟩), .int .i64 4] W fun e w' => e = .returned (.int .i64 (cval 4 s2)) ∧ PtS w gC v1 v2 V po (cnext 4 s2) w') := Lib.hid (fun gC V po W h9 => (rcount_rs h9.r 4).mono fun e w' ⟨q1, q2, q3⟩ => ⟨q1, h9.read q2 q3⟩)
 obtain ⟨L, hL⟩ : ∃ L, rdMany rdPo (cval 4 s2) (cnext 4 s2) = L := ⟨_, rfl⟩
 have hLs : stL L.2 ≤ 1000000 := by rw [← hL]; exact Nat.le_trans (rdMany_stL rdPo_stL _ _) (Nat.le_trans (cnext_stL _ _) hl2)
 have hL3 : rdPos s2 = L := hL
 rw [hL3] at hPf
 have hck := cval_le_ 4 s2
 have hcl := Nat.le_trans (cnext_stL 4 s2) hl2
 generalize cval 4 s2 = k4 at HCn hL hck
 generalize cnext 4 s2 = s4 at HCn hL hcl
 have HPf := Lib.hid hPf
 have HLs := Lib.hid hLs
 have HLL := Lib.hid hL
 have HCK := Lib.hid hck
 have HCL := Lib.hid hcl
 clear hPP h b1 b2 hnc hc hn hbn hPf hxl hl2 hL hLs hL3 hck hcl
 go_enter Try.func16, Try.ntmps16
 go_upto_block 0 with (first
  | go_big_skip
  | (go_at_call 55; (with_reducible refine (HK1.out _ HR2.out).mono ?_); rintro e w3 ⟨rfl, hr3, hg3⟩; have HR3 := Lib.hid hr3; have HX3 : Hid (Below w.heap.size w w3) := Lib.hid (HX2.out.grown hg3 HX2.out.size (fun k hk => by have := Option.some.inj hk; omega)); have HZ3 := Lib.hid (HZ2.out.grown hg3 (by simp)); have HS3 : Hid (w.heap.size + 2 ≤ w3.heap.size) := Lib.hid (Nat.le_trans HS2.out hg3.size); clear hr3 hg3)
  | (go_at_call 55; (with_reducible refine (HK2.out _ HR3.out).mono ?_); rintro e w4 ⟨rfl, hr4, hg4⟩; have HR4 := Lib.hid hr4; have HX4 : Hid (Below w.heap.size w w4) := Lib.hid (HX3.out.grown hg4 HX3.out.size (fun k hk => by have := Option.some.inj hk; omega)); have HZ4 := Lib.hid (HZ3.out.grown hg4 (by simp)); have HS4 : Hid (w.heap.size + 2 ≤ w4.heap.size) := Lib.hid (Nat.le_trans HS3.out hg4.size); clear hr4 hg4)
  | (refine wpList_store_blk rfl 25 (.tmp 7) (.tmp 29) rfl w4.heap.size [.int .i64 v1, .int .i64 v2, .slice none 0 0, .slice none 0 0, .slice none 0 0] rfl rfl 25 [.int .i64 0, .int .i64 0, .slice none 0 0, .slice none 0 0, .slice none 0 0] (Blk.fresh rfl rfl) (by kernel_rfl) rfl (one5c _ _ _ _ _ _ _ _ _ _ _) ?_; intro wb hbb hgb; have HPb : Hid (PtS w w4.heap.size v1 v2 (none, 0, 0) [] s2 wb) := Lib.hid ⟨HR4.out.below (below_new hgb), below_step HX4.out (below_new hgb), HZ4.out.through (below_new hgb), hbb, HS4.out, OPo.nil _ _⟩; clear hbb hgb)
  | (go_at_call 56; (with_reducible refine (HCn.out _ _ _ _ HPb.out).mono ?_); rintro e w6 ⟨rfl, hp6⟩; have HP6 := Lib.hid hp6; clear hp6))
 obtain ⟨gC, hgC⟩ : ∃ gC, w4.heap.size = gC := ⟨_, rfl⟩
 rw [hgC] at HP6 ⊢
 clear hgC hc1 hc2
 go_cut [8] from 32 to 53 (fun _ wx => ∃ (pre : List Po) (V : Pl) (s : Option (List UInt8)), L = (pre, s) ∧ PtS w gC v1 v2 V pre s wx)
 case first =>
  go_wp2_with fail
  go_loopw [8] (fun iv wr => ∃ (r : Nat) (pre : List Po) (V : Pl) (s : Option (List UInt8)), r + pre.length ≤ 4 ∧ iv = .int .i64 (r : Int) ∧ (pre ++ (rdMany rdPo r s).1, (rdMany rdPo r s).2) = L ∧ stL s ≤ 1000000 ∧ PtS w gC v1 v2 V pre s wr) (fun iv _ => (intOf iv).toNat)
  case atStart => exact ⟨k4, [], (none, 0, 0), s4, by have := HCK.out; simpa using this, rfl, by simpa using HLL.out, HCL.out, HP6.out⟩
  case round =>
   obtain ⟨r, pre, V, s, hk, rfl, hL2, hsl, hp⟩ := hrel
   have HPj := Lib.hid hp
   have HKb := Lib.hid hk
   obtain ⟨er, hcell, her⟩ := hp.r.err
   clear hp hk
   cases r with
   | zero =>
    rw [rdMany_zero, List.append_nil] at hL2
    have HL2 := Lib.hid hL2
    clear hL2 her hcell hsl
    go_wp2
    go_meet
    case rel => exact ⟨pre, V, s, HL2.out.symm, HPj.out⟩
   | succ r =>
    have hkd : decide ((0 : Int) < (r : Int) + 1) = true := decide_eq_true (by omega)
    have hwr : IntKind.i64.wrap ((r : Int) + 1 - 1) = (r : Int) := by rw [IntWalk.i64_in _ (by have := HKb.out; omega)]; omega
    have hwr2 : (r : Int) + 1 - 1 = (r : Int) := by omega
    have hr64 : r ≤ 64 := by have := HKb.out; omega
    cases s with
    | none =>
     rw [rdMany_none, List.append_nil] at hL2
     have HL2 := Lib.hid hL2
     have hne : (er == 0) = false := by simpa using her
     clear hL2 her hsl
     go_wp2
     go_meet
     case rel => exact ⟨pre, V, none, HL2.out.symm, HPj.out⟩
    | some x =>
     have he0 : er = 0 := her.2 (by simp)
     subst he0
     have hLn : (pre ++ [(⟨sx 8 (nval 8 (some x)), tagOf (tval 32 (nnext 8 (some x)))⟩ : Po)] ++ (rdMany rdPo r (nnext 32 (nnext 8 (some x)))).1, (rdMany rdPo r (nnext 32 (nnext 8 (some x)))).2) = L := (rdMany_step rdPo r x pre).symm.trans hL2
     have h2l : stL (nnext 32 (nnext 8 (some x))) ≤ 1000000 := Nat.le_trans (nnext_stL _ _) (Nat.le_trans (nnext_stL _ _) hsl)
     have HN : Hid (∀ W : World, PtS w gC v1 v2 V pre (some x) W → Calls Try.prog 55 #[.pointer (some ⟨w.heap.size + 1, 0, none⟩), .int .i64 8] W fun e w' => e = .returned (.int .u64 (nval 8 (some x))) ∧ PtS w gC v1 v2 V pre (nnext 8 (some x)) w') := Lib.hid (fun W h9 => (rnumber_rs h9.r 8 rfl).mono fun e w' ⟨q1, q2, q3⟩ => ⟨q1, h9.read q2 q3⟩)
     have HD : Hid (∀ W : World, PtS w gC v1 v2 V pre (nnext 8 (some x)) W → Calls Try.prog 57 #[.pointer (some ⟨w.heap.size + 1, 0, none⟩)] W fun e w' => e = .returned (.agg (vs (tagOf (tval 32 (nnext 8 (some x))))).toArray) ∧ PtS w gC v1 v2 V pre (nnext 32 (nnext 8 (some x))) w') := Lib.hid (fun W h9 => (rrdig17_any (w.heap.size + 1) (nnext 8 (some x)) W h9.r (fun b hb => Nat.lt_of_lt_of_le hb h9.x.size)).mono fun e w' ⟨q1, q2, q3⟩ => ⟨q1, h9.read q2 q3⟩)
     have hcv := fun (W : World) => conv_i64 70 2 Try.underlying70 Try.underlying2 (nval 8 (some x)) (by have := nval_lt 8 (some x); omega) W
     have hdl : (tagOf (tval 32 (nnext 8 (some x)))).length = 32 := tagOf_len _
     generalize sx 8 (nval 8 (some x)) = sq at hLn hcv
     generalize nval 8 (some x) = k1 at HN hcv
     generalize tagOf (tval 32 (nnext 8 (some x))) = dg at hLn HD hdl
     generalize (nnext 32 (nnext 8 (some x))) = s2 at hLn h2l HD
     generalize (nnext 8 (some x)) = s1 at HN HD
     have hbp := fun (W : World) => Try.build_po sq dg hdl W
     have HPL : Hid ((Po.cells ⟨sq, dg⟩).length = 33) := Lib.hid (Po.cells_len ⟨sq, dg⟩ hdl)
     have HDL := Lib.hid hdl
     have HLn := Lib.hid hLn
     have HSl := Lib.hid h2l
     have HPd := Lib.hid HPj.out.drew
     clear hL2 her hsl hLn h2l hdl
     go_wp2
     clear hcell
     try dsimp only [Act.put]
     refine wp_region_held_drew (S := fun _ => True) (by kernel_rfl) trivial (fun hHeld => ?_)
     change wpAnyH _ _ _ _ _ _ #[false, false, false, false, false, false, false, false, false, false, false, false] _ _
     refine tkq (i := 0) (d := 43) (v := (.pointer (some ⟨gC, 2, none⟩))) rfl rfl (Or.inl ⟨by kernel_rfl, fun w hSw => ?_⟩) (by assumption) ?_
     ·(try dsimp only at hSw); go_simp <;> (try rfl)
     simp only [Act.put, sq1, sq2, sq3]
     refine tkq (i := 2) (d := 45) (v := (.pointer (some ⟨w.heap.size + 1, 0, none⟩))) rfl rfl (Or.inl ⟨by kernel_rfl, fun w hSw => ?_⟩) (by assumption) ?_
     ·(try dsimp only at hSw); go_simp <;> (try rfl)
     simp only [Act.put, sq1, sq2, sq3]
     refine tkq (i := 5) (d := 48) (v := (.pointer (some ⟨w.heap.size + 1, 0, none⟩))) rfl rfl (Or.inl ⟨by kernel_rfl, fun w hSw => ?_⟩) (by assumption) ?_
     ·(try dsimp only at hSw); go_simp <;> (try rfl)
     simp only [Act.put, sq1, sq2, sq3]
     refine wpAnyH_ready (rs := [1, 3]) (by kernel_rfl) (by simp) ?_
     refine AllReadyH.cons (o := ⟨some 44, .load 22 (.tmp 43), _, _, _, none⟩) rfl (fun K hK => ?_) (AllReadyH.cons rfl (fun K hK => ?_) AllReadyH.nil)
     ·as_aux_lemma =>
      refine step_load_at rfl 22 (.tmp 43) rfl (.pointer (some ⟨gC, 2, none⟩)) (by simp [Act.eval]) (.slice V.1 V.2.1 V.2.2) (load_one' (Try.agg_pos18 _) (HPd.out.b.cellAt (i := 2) rfl)) ?_
      refine hK.out _ _ trivial (fun hHeld1 => ?_)
      clear hHeld hK K
      have hHeld := hHeld1
      clear hHeld1
      change wpAnyH _ _ _ _ _ _ _ (Act.put _ (some (44 : Nat)) (.slice V.1 V.2.1 V.2.2)) _
      simp only [Act.put, sq1, sq2, sq3]
      refine wpAnyH_ready (rs := [3]) (by kernel_rfl) (by simp) ?_
      refine AllReadyH.cons rfl (fun K hK => ?_) AllReadyH.nil
      go_simp
      refine (HN.out _ HPd.out).mono ?_
      rintro e wn ⟨rfl, hpn⟩; have HPn := Lib.hid hpn; clear hpn
      go_wp2_with fail
      refine hK.out _ _ trivial (fun hHeld1 => ?_)
      clear hHeld hK K
      have hHeld := hHeld1
      clear hHeld1
      refine tkq (i := 4) (d := 47) (v := (.int .i64 sq)) rfl rfl (yields_conv (by kernel_rfl) 70 2 (.tmp 46) rfl (.int .u64 (k1 : Int)) (by simp [Act.eval]) (.int .i64 sq) (fun W _ => hcv W)) (by assumption) ?_
      simp only [Act.put, sq1, sq2, sq3]
      refine wpAnyH_ready (rs := [6]) (by kernel_rfl) (by simp) ?_
      refine AllReadyH.cons rfl (fun K hK => ?_) AllReadyH.nil
      go_simp
      refine (HD.out _ HPn.out).mono ?_
      rintro e wq ⟨rfl, hpq⟩; have HPq := Lib.hid hpq; clear hpq
      go_wp2_with fail
      refine hK.out _ _ trivial (fun hHeld1 => ?_)
      clear hHeld hK K
      have hHeld := hHeld1
      clear hHeld1
      refine tkq (i := 7) (d := 50) (v := (.agg (Po.cells ⟨sq, dg⟩).toArray)) rfl rfl (yields_build (by kernel_rfl) 52 #[(0, .tmp 47), (1, .tmp 49)] rfl #[(0, .int .i64 sq), (1, .agg (vs dg).toArray)] (by simp [Act.eval]) (.agg (Po.cells ⟨sq, dg⟩).toArray) (fun W _ => hbp W)) (by assumption) ?_
      simp only [Act.put, sq1, sq2, sq3]
      refine wpAnyH_ready (rs := [8]) (by kernel_rfl) (by simp) ?_
      refine AllReadyH.cons (o := ⟨some 51, .buildSlice 22 1 #[(0, .tmp 50)], _, _, _, none⟩) rfl (fun K hK => ?_) AllReadyH.nil
      refine step_build_el_w rfl Try.el_po (.tmp 50) rfl (Po.cells ⟨sq, dg⟩) (by simp [Act.eval]) HPL.out ?_; intro gb wb2 hbb hxb; have HBb := Lib.hid hbb; have HPe := Lib.hid (HPq.out.below hxb); clear hbb hxb
      refine hK.out _ _ trivial (fun hHeld1 => ?_)
      clear hHeld hK K
      have hHeld := hHeld1
      clear hHeld1
      change wpAnyH _ _ _ _ _ _ _ (Act.put _ (some (51 : Nat)) (.slice (some ⟨gb, 0, none⟩) 1 1)) _
      simp only [Act.put, sq1, sq2, sq3]
      refine wpAnyH_ready (rs := [9]) (by kernel_rfl) (by simp) ?_
      refine AllReadyH.cons (o := ⟨some 52, .call { callee := .builtin .append, args := #[.tmp 44, .tmp 51], argTypes := #[22, 22] }, _, _, _, none⟩) rfl (fun K hK => ?_) AllReadyH.nil
      refine step_append_el rfl Try.el_po (.tmp 44) (.tmp 51) rfl (gC + 1) (.slice V.1 V.2.1 V.2.2) (pre.map Po.cells) (by simp [Act.eval]) HPe.out.o.1 gb (Po.cells ⟨sq, dg⟩) (by simp [Act.eval]) HBb.out HPL.out (fun u hu => Array.all_eq_true_iff_forall_mem.1 (Po.one ⟨sq, dg⟩) u (by simpa using hu)) (by rw [List.length_map]; have := HKb.out; omega) (Nat.succ_le_of_lt HPe.out.b.lt) ?_; intro A7 n7 c7 w9 hn7 ho7 hg7; have HW := Lib.hid (fun b hb => (HPe.out.o.1.lt b hb).1); have HG := Lib.hid HPe.out.g; have HR9 := Lib.hid (HPe.out.r.other hg7 (fun b hb => ⟨fun e => by have := HW.out b hb; have := HG.out; omega, fun h9 => by have := HW.out b hb; have := HG.out; omega⟩)); have HX9 : Hid (Below w.heap.size w w9) := Lib.hid (HPe.out.x.grown hg7 HPe.out.x.size (fun b hb => by have := HW.out b hb; have := HG.out; omega)); have HZ9 := Lib.hid (HPe.out.z.grown hg7 (fun e => by have := HW.out _ e.symm; have := HG.out; omega)); have HC9 := Lib.hid (HPe.out.b.grown hg7 (fun e => by have := HW.out _ e.symm; omega)); have HO9 : Hid (OPo w9 (gC + 1) (.slice A7 n7 c7) (pre ++ [⟨sq, dg⟩])) := Lib.hid ⟨by rw [List.map_append]; exact ho7, fun q hq => (List.mem_append.1 hq).elim (HPe.out.o.2 q) (fun h9 => by rw [List.mem_singleton.1 h9]; exact HDL.out)⟩; clear hn7 ho7 hg7
      refine hK.out _ _ trivial (fun hHeld1 => ?_)
      clear hHeld hK K
      have hHeld := hHeld1
      clear hHeld1
      change wpAnyH _ _ _ _ _ _ _ (Act.put _ (some (52 : Nat)) (.slice A7 n7 c7)) _
      simp only [Act.put, sq1, sq2, sq3]
      refine tkq (i := 10) (d := 53) (v := (.pointer (some ⟨gC, 2, none⟩))) rfl rfl (Or.inl ⟨by kernel_rfl, fun w hSw => ?_⟩) (by assumption) ?_
      ·(try dsimp only at hSw); go_simp <;> (try rfl)
      simp only [Act.put, sq1, sq2, sq3]
      refine wpAnyH_ready (rs := [11]) (by kernel_rfl) (by simp) ?_
      refine AllReadyH.cons (o := ⟨none, .store 22 (.tmp 53) (.tmp 52), _, _, _, none⟩) rfl (fun K hK => ?_) AllReadyH.nil
      refine step_store_cell (by kernel_rfl) 22 (.tmp 53) (.tmp 52) rfl gC 2 (by simp [Act.eval]) (.slice A7 n7 c7) (by simp [Act.eval]) rfl rfl (fun w => by kernel_rfl) 25 [.int .i64 v1, .int .i64 v2, .slice V.1 V.2.1 V.2.2, .slice none 0 0, .slice none 0 0] HC9.out (by simp) ?_; intro wz hbz hgz; have HPz : Hid (PtS w gC v1 v2 (A7, n7, c7) (pre ++ [⟨sq, dg⟩]) s2 wz) := Lib.hid ⟨HR9.out.other hgz (fun b hb => by have := Option.some.inj hb; have := HG.out; exact ⟨fun e => by omega, fun h9 => by omega⟩), HX9.out.grown hgz HX9.out.size (fun b hb => by have := Option.some.inj hb; have := HG.out; omega), HZ9.out.grown hgz (fun e => by have := Option.some.inj e; have := HG.out; omega), hbz, HG.out, HO9.out.off hgz (by omega)⟩; clear hbz hgz
      refine hK.out _ _ trivial (fun hHeld1 => ?_)
      clear hHeld hK K
      have hHeld := hHeld1
      clear hHeld1
      change wpAnyH _ _ _ _ _ _ _ (Act.put _ none undef) _
      simp only [Act.put]
      refine wpAnyH_done (by kernel_rfl) ?_ _
      clear hHeld
      go_wp2
      go_roundw
      case rel => exact ⟨r, pre ++ [⟨sq, dg⟩], (A7, n7, c7), s2, (by have := HKb.out; simp; omega), by go_num, HLn.out, HSl.out, HPz.out⟩
      case measure => simp [intOf]
     ·as_aux_lemma =>
      go_simp
      refine (HN.out _ HPd.out).mono ?_
      rintro e wn ⟨rfl, hpn⟩; have HPn := Lib.hid hpn; clear hpn
      go_wp2_with fail
      refine hK.out _ _ trivial (fun hHeld1 => ?_)
      clear hHeld hK K
      have hHeld := hHeld1
      clear hHeld1
      refine tkq (i := 4) (d := 47) (v := (.int .i64 sq)) rfl rfl (yields_conv (by kernel_rfl) 70 2 (.tmp 46) rfl (.int .u64 (k1 : Int)) (by simp [Act.eval]) (.int .i64 sq) (fun W _ => hcv W)) (by assumption) ?_
      simp only [Act.put, sq1, sq2, sq3]
      refine wpAnyH_ready (rs := [1, 6]) (by kernel_rfl) (by simp) ?_
      refine AllReadyH.cons (o := ⟨some 44, .load 22 (.tmp 43), _, _, _, none⟩) rfl (fun K hK => ?_) (AllReadyH.cons rfl (fun K hK => ?_) AllReadyH.nil)
      ·as_aux_lemma =>
       refine step_load_at rfl 22 (.tmp 43) rfl (.pointer (some ⟨gC, 2, none⟩)) (by simp [Act.eval]) (.slice V.1 V.2.1 V.2.2) (load_one' (Try.agg_pos18 _) (HPn.out.b.cellAt (i := 2) rfl)) ?_
       refine hK.out _ _ trivial (fun hHeld1 => ?_)
       clear hHeld hK K
       have hHeld := hHeld1
       clear hHeld1
       change wpAnyH _ _ _ _ _ _ _ (Act.put _ (some (44 : Nat)) (.slice V.1 V.2.1 V.2.2)) _
       simp only [Act.put, sq1, sq2, sq3]
       refine wpAnyH_ready (rs := [6]) (by kernel_rfl) (by simp) ?_
       refine AllReadyH.cons rfl (fun K hK => ?_) AllReadyH.nil
       go_simp
       refine (HD.out _ HPn.out).mono ?_
       rintro e wq ⟨rfl, hpq⟩; have HPq := Lib.hid hpq; clear hpq
       go_wp2_with fail
       refine hK.out _ _ trivial (fun hHeld1 => ?_)
       clear hHeld hK K
       have hHeld := hHeld1
       clear hHeld1
       refine tkq (i := 7) (d := 50) (v := (.agg (Po.cells ⟨sq, dg⟩).toArray)) rfl rfl (yields_build (by kernel_rfl) 52 #[(0, .tmp 47), (1, .tmp 49)] rfl #[(0, .int .i64 sq), (1, .agg (vs dg).toArray)] (by simp [Act.eval]) (.agg (Po.cells ⟨sq, dg⟩).toArray) (fun W _ => hbp W)) (by assumption) ?_
       simp only [Act.put, sq1, sq2, sq3]
       refine wpAnyH_ready (rs := [8]) (by kernel_rfl) (by simp) ?_
       refine AllReadyH.cons (o := ⟨some 51, .buildSlice 22 1 #[(0, .tmp 50)], _, _, _, none⟩) rfl (fun K hK => ?_) AllReadyH.nil
       refine step_build_el_w rfl Try.el_po (.tmp 50) rfl (Po.cells ⟨sq, dg⟩) (by simp [Act.eval]) HPL.out ?_; intro gb wb2 hbb hxb; have HBb := Lib.hid hbb; have HPe := Lib.hid (HPq.out.below hxb); clear hbb hxb
       refine hK.out _ _ trivial (fun hHeld1 => ?_)
       clear hHeld hK K
       have hHeld := hHeld1
       clear hHeld1
       change wpAnyH _ _ _ _ _ _ _ (Act.put _ (some (51 : Nat)) (.slice (some ⟨gb, 0, none⟩) 1 1)) _
       simp only [Act.put, sq1, sq2, sq3]
       refine wpAnyH_ready (rs := [9]) (by kernel_rfl) (by simp) ?_
       refine AllReadyH.cons (o := ⟨some 52, .call { callee := .builtin .append, args := #[.tmp 44, .tmp 51], argTypes := #[22, 22] }, _, _, _, none⟩) rfl (fun K hK => ?_) AllReadyH.nil
       refine step_append_el rfl Try.el_po (.tmp 44) (.tmp 51) rfl (gC + 1) (.slice V.1 V.2.1 V.2.2) (pre.map Po.cells) (by simp [Act.eval]) HPe.out.o.1 gb (Po.cells ⟨sq, dg⟩) (by simp [Act.eval]) HBb.out HPL.out (fun u hu => Array.all_eq_true_iff_forall_mem.1 (Po.one ⟨sq, dg⟩) u (by simpa using hu)) (by rw [List.length_map]; have := HKb.out; omega) (Nat.succ_le_of_lt HPe.out.b.lt) ?_; intro A7 n7 c7 w9 hn7 ho7 hg7; have HW := Lib.hid (fun b hb => (HPe.out.o.1.lt b hb).1); have HG := Lib.hid HPe.out.g; have HR9 := Lib.hid (HPe.out.r.other hg7 (fun b hb => ⟨fun e => by have := HW.out b hb; have := HG.out; omega, fun h9 => by have := HW.out b hb; have := HG.out; omega⟩)); have HX9 : Hid (Below w.heap.size w w9) := Lib.hid (HPe.out.x.grown hg7 HPe.out.x.size (fun b hb => by have := HW.out b hb; have := HG.out; omega)); have HZ9 := Lib.hid (HPe.out.z.grown hg7 (fun e => by have := HW.out _ e.symm; have := HG.out; omega)); have HC9 := Lib.hid (HPe.out.b.grown hg7 (fun e => by have := HW.out _ e.symm; omega)); have HO9 : Hid (OPo w9 (gC + 1) (.slice A7 n7 c7) (pre ++ [⟨sq, dg⟩])) := Lib.hid ⟨by rw [List.map_append]; exact ho7, fun q hq => (List.mem_append.1 hq).elim (HPe.out.o.2 q) (fun h9 => by rw [List.mem_singleton.1 h9]; exact HDL.out)⟩; clear hn7 ho7 hg7
       refine hK.out _ _ trivial (fun hHeld1 => ?_)
       clear hHeld hK K
       have hHeld := hHeld1
       clear hHeld1
       change wpAnyH _ _ _ _ _ _ _ (Act.put _ (some (52 : Nat)) (.slice A7 n7 c7)) _
       simp only [Act.put, sq1, sq2, sq3]
       refine tkq (i := 10) (d := 53) (v := (.pointer (some ⟨gC, 2, none⟩))) rfl rfl (Or.inl ⟨by kernel_rfl, fun w hSw => ?_⟩) (by assumption) ?_
       ·(try dsimp only at hSw); go_simp <;> (try rfl)
       simp only [Act.put, sq1, sq2, sq3]
       refine wpAnyH_ready (rs := [11]) (by kernel_rfl) (by simp) ?_
       refine AllReadyH.cons (o := ⟨none, .store 22 (.tmp 53) (.tmp 52), _, _, _, none⟩) rfl (fun K hK => ?_) AllReadyH.nil
       refine step_store_cell (by kernel_rfl) 22 (.tmp 53) (.tmp 52) rfl gC 2 (by simp [Act.eval]) (.slice A7 n7 c7) (by simp [Act.eval]) rfl rfl (fun w => by kernel_rfl) 25 [.int .i64 v1, .int .i64 v2, .slice V.1 V.2.1 V.2.2, .slice none 0 0, .slice none 0 0] HC9.out (by simp) ?_; intro wz hbz hgz; have HPz : Hid (PtS w gC v1 v2 (A7, n7, c7) (pre ++ [⟨sq, dg⟩]) s2 wz) := Lib.hid ⟨HR9.out.other hgz (fun b hb => by have := Option.some.inj hb; have := HG.out; exact ⟨fun e => by omega, fun h9 => by omega⟩), HX9.out.grown hgz HX9.out.size (fun b hb => by have := Option.some.inj hb; have := HG.out; omega), HZ9.out.grown hgz (fun e => by have := Option.some.inj e; have := HG.out; omega), hbz, HG.out, HO9.out.off hgz (by omega)⟩; clear hbz hgz
       refine hK.out _ _ trivial (fun hHeld1 => ?_)
       clear hHeld hK K
       have hHeld := hHeld1
       clear hHeld1
       change wpAnyH _ _ _ _ _ _ _ (Act.put _ none undef) _
       simp only [Act.put]
       refine wpAnyH_done (by kernel_rfl) ?_ _
       clear hHeld
       go_wp2
       go_roundw
       case rel => exact ⟨r, pre ++ [⟨sq, dg⟩], (A7, n7, c7), s2, (by have := HKb.out; simp; omega), by go_num, HLn.out, HSl.out, HPz.out⟩
       case measure => simp [intOf]
      ·as_aux_lemma =>
       go_simp
       refine (HD.out _ HPn.out).mono ?_
       rintro e wq ⟨rfl, hpq⟩; have HPq := Lib.hid hpq; clear hpq
       go_wp2_with fail
       refine hK.out _ _ trivial (fun hHeld1 => ?_)
       clear hHeld hK K
       have hHeld := hHeld1
       clear hHeld1
       refine tkq (i := 7) (d := 50) (v := (.agg (Po.cells ⟨sq, dg⟩).toArray)) rfl rfl (yields_build (by kernel_rfl) 52 #[(0, .tmp 47), (1, .tmp 49)] rfl #[(0, .int .i64 sq), (1, .agg (vs dg).toArray)] (by simp [Act.eval]) (.agg (Po.cells ⟨sq, dg⟩).toArray) (fun W _ => hbp W)) (by assumption) ?_
       simp only [Act.put, sq1, sq2, sq3]
       refine wpAnyH_ready (rs := [1, 8]) (by kernel_rfl) (by simp) ?_
       refine AllReadyH.cons (o := ⟨some 44, .load 22 (.tmp 43), _, _, _, none⟩) rfl (fun K hK => ?_) (AllReadyH.cons (o := ⟨some 51, .buildSlice 22 1 #[(0, .tmp 50)], _, _, _, none⟩) rfl (fun K hK => ?_) AllReadyH.nil)
       ·as_aux_lemma =>
        refine step_load_at rfl 22 (.tmp 43) rfl (.pointer (some ⟨gC, 2, none⟩)) (by simp [Act.eval]) (.slice V.1 V.2.1 V.2.2) (load_one' (Try.agg_pos18 _) (HPq.out.b.cellAt (i := 2) rfl)) ?_
        refine hK.out _ _ trivial (fun hHeld1 => ?_)
        clear hHeld hK K
        have hHeld := hHeld1
        clear hHeld1
        change wpAnyH _ _ _ _ _ _ _ (Act.put _ (some (44 : Nat)) (.slice V.1 V.2.1 V.2.2)) _
        simp only [Act.put, sq1, sq2, sq3]
        refine wpAnyH_ready (rs := [8]) (by kernel_rfl) (by simp) ?_
        refine AllReadyH.cons (o := ⟨some 51, .buildSlice 22 1 #[(0, .tmp 50)], _, _, _, none⟩) rfl (fun K hK => ?_) AllReadyH.nil
        refine step_build_el_w rfl Try.el_po (.tmp 50) rfl (Po.cells ⟨sq, dg⟩) (by simp [Act.eval]) HPL.out ?_; intro gb wb2 hbb hxb; have HBb := Lib.hid hbb; have HPe := Lib.hid (HPq.out.below hxb); clear hbb hxb
        refine hK.out _ _ trivial (fun hHeld1 => ?_)
        clear hHeld hK K
        have hHeld := hHeld1
        clear hHeld1
        change wpAnyH _ _ _ _ _ _ _ (Act.put _ (some (51 : Nat)) (.slice (some ⟨gb, 0, none⟩) 1 1)) _
        simp only [Act.put, sq1, sq2, sq3]
        refine wpAnyH_ready (rs := [9]) (by kernel_rfl) (by simp) ?_
        refine AllReadyH.cons (o := ⟨some 52, .call { callee := .builtin .append, args := #[.tmp 44, .tmp 51], argTypes := #[22, 22] }, _, _, _, none⟩) rfl (fun K hK => ?_) AllReadyH.nil
        refine step_append_el rfl Try.el_po (.tmp 44) (.tmp 51) rfl (gC + 1) (.slice V.1 V.2.1 V.2.2) (pre.map Po.cells) (by simp [Act.eval]) HPe.out.o.1 gb (Po.cells ⟨sq, dg⟩) (by simp [Act.eval]) HBb.out HPL.out (fun u hu => Array.all_eq_true_iff_forall_mem.1 (Po.one ⟨sq, dg⟩) u (by simpa using hu)) (by rw [List.length_map]; have := HKb.out; omega) (Nat.succ_le_of_lt HPe.out.b.lt) ?_; intro A7 n7 c7 w9 hn7 ho7 hg7; have HW := Lib.hid (fun b hb => (HPe.out.o.1.lt b hb).1); have HG := Lib.hid HPe.out.g; have HR9 := Lib.hid (HPe.out.r.other hg7 (fun b hb => ⟨fun e => by have := HW.out b hb; have := HG.out; omega, fun h9 => by have := HW.out b hb; have := HG.out; omega⟩)); have HX9 : Hid (Below w.heap.size w w9) := Lib.hid (HPe.out.x.grown hg7 HPe.out.x.size (fun b hb => by have := HW.out b hb; have := HG.out; omega)); have HZ9 := Lib.hid (HPe.out.z.grown hg7 (fun e => by have := HW.out _ e.symm; have := HG.out; omega)); have HC9 := Lib.hid (HPe.out.b.grown hg7 (fun e => by have := HW.out _ e.symm; omega)); have HO9 : Hid (OPo w9 (gC + 1) (.slice A7 n7 c7) (pre ++ [⟨sq, dg⟩])) := Lib.hid ⟨by rw [List.map_append]; exact ho7, fun q hq => (List.mem_append.1 hq).elim (HPe.out.o.2 q) (fun h9 => by rw [List.mem_singleton.1 h9]; exact HDL.out)⟩; clear hn7 ho7 hg7
        refine hK.out _ _ trivial (fun hHeld1 => ?_)
        clear hHeld hK K
        have hHeld := hHeld1
        clear hHeld1
        change wpAnyH _ _ _ _ _ _ _ (Act.put _ (some (52 : Nat)) (.slice A7 n7 c7)) _
        simp only [Act.put, sq1, sq2, sq3]
        refine tkq (i := 10) (d := 53) (v := (.pointer (some ⟨gC, 2, none⟩))) rfl rfl (Or.inl ⟨by kernel_rfl, fun w hSw => ?_⟩) (by assumption) ?_
        ·(try dsimp only at hSw); go_simp <;> (try rfl)
        simp only [Act.put, sq1, sq2, sq3]
        refine wpAnyH_ready (rs := [11]) (by kernel_rfl) (by simp) ?_
        refine AllReadyH.cons (o := ⟨none, .store 22 (.tmp 53) (.tmp 52), _, _, _, none⟩) rfl (fun K hK => ?_) AllReadyH.nil
        refine step_store_cell (by kernel_rfl) 22 (.tmp 53) (.tmp 52) rfl gC 2 (by simp [Act.eval]) (.slice A7 n7 c7) (by simp [Act.eval]) rfl rfl (fun w => by kernel_rfl) 25 [.int .i64 v1, .int .i64 v2, .slice V.1 V.2.1 V.2.2, .slice none 0 0, .slice none 0 0] HC9.out (by simp) ?_; intro wz hbz hgz; have HPz : Hid (PtS w gC v1 v2 (A7, n7, c7) (pre ++ [⟨sq, dg⟩]) s2 wz) := Lib.hid ⟨HR9.out.other hgz (fun b hb => by have := Option.some.inj hb; have := HG.out; exact ⟨fun e => by omega, fun h9 => by omega⟩), HX9.out.grown hgz HX9.out.size (fun b hb => by have := Option.some.inj hb; have := HG.out; omega), HZ9.out.grown hgz (fun e => by have := Option.some.inj e; have := HG.out; omega), hbz, HG.out, HO9.out.off hgz (by omega)⟩; clear hbz hgz
        refine hK.out _ _ trivial (fun hHeld1 => ?_)
        clear hHeld hK K
        have hHeld := hHeld1
        clear hHeld1
        change wpAnyH _ _ _ _ _ _ _ (Act.put _ none undef) _
        simp only [Act.put]
        refine wpAnyH_done (by kernel_rfl) ?_ _
        clear hHeld
        go_wp2
        go_roundw
        case rel => exact ⟨r, pre ++ [⟨sq, dg⟩], (A7, n7, c7), s2, (by have := HKb.out; simp; omega), by go_num, HLn.out, HSl.out, HPz.out⟩
        case measure => simp [intOf]
       ·as_aux_lemma =>
        refine step_build_el_w rfl Try.el_po (.tmp 50) rfl (Po.cells ⟨sq, dg⟩) (by simp [Act.eval]) HPL.out ?_; intro gb wb2 hbb hxb; have HBb := Lib.hid hbb; have HPe := Lib.hid (HPq.out.below hxb); clear hbb hxb
        refine hK.out _ _ trivial (fun hHeld1 => ?_)
        clear hHeld hK K
        have hHeld := hHeld1
        clear hHeld1
        change wpAnyH _ _ _ _ _ _ _ (Act.put _ (some (51 : Nat)) (.slice (some ⟨gb, 0, none⟩) 1 1)) _
        simp only [Act.put, sq1, sq2, sq3]
        refine wpAnyH_ready (rs := [1]) (by kernel_rfl) (by simp) ?_
        refine AllReadyH.cons (o := ⟨some 44, .load 22 (.tmp 43), _, _, _, none⟩) rfl (fun K hK => ?_) AllReadyH.nil
        refine step_load_at rfl 22 (.tmp 43) rfl (.pointer (some ⟨gC, 2, none⟩)) (by simp [Act.eval]) (.slice V.1 V.2.1 V.2.2) (load_one' (Try.agg_pos18 _) (HPe.out.b.cellAt (i := 2) rfl)) ?_
        refine hK.out _ _ trivial (fun hHeld1 => ?_)
        clear hHeld hK K
        have hHeld := hHeld1
        clear hHeld1
        change wpAnyH _ _ _ _ _ _ _ (Act.put _ (some (44 : Nat)) (.slice V.1 V.2.1 V.2.2)) _
        simp only [Act.put, sq1, sq2, sq3]
        refine wpAnyH_ready (rs := [9]) (by kernel_rfl) (by simp) ?_
        refine AllReadyH.cons (o := ⟨some 52, .call { callee := .builtin .append, args := #[.tmp 44, .tmp 51], argTypes := #[22, 22] }, _, _, _, none⟩) rfl (fun K hK => ?_) AllReadyH.nil
        refine step_append_el rfl Try.el_po (.tmp 44) (.tmp 51) rfl (gC + 1) (.slice V.1 V.2.1 V.2.2) (pre.map Po.cells) (by simp [Act.eval]) HPe.out.o.1 gb (Po.cells ⟨sq, dg⟩) (by simp [Act.eval]) HBb.out HPL.out (fun u hu => Array.all_eq_true_iff_forall_mem.1 (Po.one ⟨sq, dg⟩) u (by simpa using hu)) (by rw [List.length_map]; have := HKb.out; omega) (Nat.succ_le_of_lt HPe.out.b.lt) ?_; intro A7 n7 c7 w9 hn7 ho7 hg7; have HW := Lib.hid (fun b hb => (HPe.out.o.1.lt b hb).1); have HG := Lib.hid HPe.out.g; have HR9 := Lib.hid (HPe.out.r.other hg7 (fun b hb => ⟨fun e => by have := HW.out b hb; have := HG.out; omega, fun h9 => by have := HW.out b hb; have := HG.out; omega⟩)); have HX9 : Hid (Below w.heap.size w w9) := Lib.hid (HPe.out.x.grown hg7 HPe.out.x.size (fun b hb => by have := HW.out b hb; have := HG.out; omega)); have HZ9 := Lib.hid (HPe.out.z.grown hg7 (fun e => by have := HW.out _ e.symm; have := HG.out; omega)); have HC9 := Lib.hid (HPe.out.b.grown hg7 (fun e => by have := HW.out _ e.symm; omega)); have HO9 : Hid (OPo w9 (gC + 1) (.slice A7 n7 c7) (pre ++ [⟨sq, dg⟩])) := Lib.hid ⟨by rw [List.map_append]; exact ho7, fun q hq => (List.mem_append.1 hq).elim (HPe.out.o.2 q) (fun h9 => by rw [List.mem_singleton.1 h9]; exact HDL.out)⟩; clear hn7 ho7 hg7
        refine hK.out _ _ trivial (fun hHeld1 => ?_)
        clear hHeld hK K
        have hHeld := hHeld1
        clear hHeld1
        change wpAnyH _ _ _ _ _ _ _ (Act.put _ (some (52 : Nat)) (.slice A7 n7 c7)) _
        simp only [Act.put, sq1, sq2, sq3]
        refine tkq (i := 10) (d := 53) (v := (.pointer (some ⟨gC, 2, none⟩))) rfl rfl (Or.inl ⟨by kernel_rfl, fun w hSw => ?_⟩) (by assumption) ?_
        ·(try dsimp only at hSw); go_simp <;> (try rfl)
        simp only [Act.put, sq1, sq2, sq3]
        refine wpAnyH_ready (rs := [11]) (by kernel_rfl) (by simp) ?_
        refine AllReadyH.cons (o := ⟨none, .store 22 (.tmp 53) (.tmp 52), _, _, _, none⟩) rfl (fun K hK => ?_) AllReadyH.nil
        refine step_store_cell (by kernel_rfl) 22 (.tmp 53) (.tmp 52) rfl gC 2 (by simp [Act.eval]) (.slice A7 n7 c7) (by simp [Act.eval]) rfl rfl (fun w => by kernel_rfl) 25 [.int .i64 v1, .int .i64 v2, .slice V.1 V.2.1 V.2.2, .slice none 0 0, .slice none 0 0] HC9.out (by simp) ?_; intro wz hbz hgz; have HPz : Hid (PtS w gC v1 v2 (A7, n7, c7) (pre ++ [⟨sq, dg⟩]) s2 wz) := Lib.hid ⟨HR9.out.other hgz (fun b hb => by have := Option.some.inj hb; have := HG.out; exact ⟨fun e => by omega, fun h9 => by omega⟩), HX9.out.grown hgz HX9.out.size (fun b hb => by have := Option.some.inj hb; have := HG.out; omega), HZ9.out.grown hgz (fun e => by have := Option.some.inj e; have := HG.out; omega), hbz, HG.out, HO9.out.off hgz (by omega)⟩; clear hbz hgz
        refine hK.out _ _ trivial (fun hHeld1 => ?_)
        clear hHeld hK K
        have hHeld := hHeld1
        clear hHeld1
        change wpAnyH _ _ _ _ _ _ _ (Act.put _ none undef) _
        simp only [Act.put]
        refine wpAnyH_done (by kernel_rfl) ?_ _
        clear hHeld
        go_wp2
        go_roundw
        case rel => exact ⟨r, pre ++ [⟨sq, dg⟩], (A7, n7, c7), s2, (by have := HKb.out; simp; omega), by go_num, HLn.out, HSl.out, HPz.out⟩
        case measure => simp [intOf]
 case rest =>
  obtain ⟨pre, V, s, hLe, hp⟩ := hcut
  have hs : stL s ≤ 1000000 := by have h9 := HLs.out; rw [hLe] at h9; exact h9
  have hPf := HPf.out
  rw [hLe] at hPf
  simp only at hPf
  have HP1 : Hid (Calls Try.prog 58 #[.pointer (some ⟨w.heap.size + 1, 0, none⟩), .int .i64 8] wc fun e w' => ∃ A n c, e = .returned (.tuple #[.slice A n c, .bool ((rdPfs 8 s).1.all (·.2))]) ∧ OPf w' wc.heap.size (.slice A n c) ((rdPfs 8 s).1.map (·.1)) ∧ Rs (fun b => b < w.heap.size) w' (w.heap.size + 1) tQ (rdPfs 8 s).2 ∧ wc.grownBy w' (some (w.heap.size + 1))) := Lib.hid (rreadpfs_any (w.heap.size + 1) 8 s wc hp.r (fun b hb => Nat.lt_of_lt_of_le hb hp.x.size) hs (by omega))
  have hs2 : stL (rdPfs 8 s).2 ≤ 1000000 := Nat.le_trans (rdMany_stL rdPf_stL _ _) (Nat.le_trans (cnext_stL _ _) hs)
  have hlp := rdPfs_lt (most := 8) hs
  generalize rdPfs 8 s = D1 at hPf HP1 hs2 hlp
  obtain ⟨d1, s5⟩ := D1
  simp only at hPf HP1 hs2 hlp
  have hlq := rdPfs_lt (most := 64) hs2
  have HPp : Hid (∀ W : World, PtS w gC v1 v2 V pre s5 W → Calls Try.prog 58 #[.pointer (some ⟨w.heap.size + 1, 0, none⟩), .int .i64 64] W fun e w' => ∃ A n c, e = .returned (.tuple #[.slice A n c, .bool ((rdPfs 64 s5).1.all (·.2))]) ∧ OPf w' W.heap.size (.slice A n c) ((rdPfs 64 s5).1.map (·.1)) ∧ Rs (fun b => b < w.heap.size) w' (w.heap.size + 1) tQ (rdPfs 64 s5).2 ∧ W.grownBy w' (some (w.heap.size + 1))) := Lib.hid (fun W h9 => rreadpfs_any (w.heap.size + 1) 64 s5 W h9.r (fun b hb => Nat.lt_of_lt_of_le hb h9.x.size) hs2 (by omega))
  generalize rdPfs 64 s5 = D2 at hPf HPp hlq
  obtain ⟨d2', s6⟩ := D2
  simp only at hPf HPp hlq
  generalize d1.map (·.1) = pp at hPf HP1 hlp
  generalize d1.all (·.2) = xx at hPf HP1
  generalize d2'.map (·.1) = pd at hPf HPp hlq
  generalize d2'.all (·.2) = yy at hPf HPp
  obtain ⟨bb, hbb⟩ : ∃ b, rightB ⟨v1, v2, pre, pp, pd⟩ N = b := ⟨_, rfl⟩
  have HRi : Hid (∀ (P Q R : Pl) (W : World), ChIn W P Q R ⟨v1, v2, pre, pp, pd⟩ → Calls Try.prog 20 #[.agg (Ch.cells ⟨v1, v2, pre, pp, pd⟩ P Q R).toArray, .int .i64 N] W fun e w' => e = .returned (.bool bb) ∧ Below W.heap.size W w') := Lib.hid (fun P Q R W h9 => hbb ▸ rright_any ⟨v1, v2, pre, pp, pd⟩ P Q R N W h9 hlp hlq)
  have HPc := Lib.hid hp
  have HQf : Hid (P = if s6 = some [] ∧ (xx && yy) = true ∧ bb = true then (⟨v1, v2, pre, pp, pd⟩, 0) else (Ch.no, 2)) := Lib.hid (by rw [hPf, ← hbb]; rfl)
  clear hLe hp hs hs2 hPf hlp hlq hbb
  by_cases hst : s6 = some []
  case neg =>
   have HST := Lib.hid hst
   have hpe : P = (Ch.no, 2) := by rw [HQf.out, if_neg (fun h => hst h.1)]
   subst hpe
   clear hst
   go_wp2_with (first
    | go_big_skip
    | (go_at_call 58; (with_reducible refine (HP1.out).mono ?_); rintro e u1 ⟨Ap, np, cp, rfl, ho1, hr1, hg1⟩; have HP2 := Lib.hid (HPc.out.read hr1 hg1); have HO1 := Lib.hid ho1; have HB1 : Hid (gC < wc.heap.size) := Lib.hid HPc.out.b.lt; clear hr1 hg1 ho1)
    | (go_at_call 58; (with_reducible refine (HPp.out _ HP2.out).mono ?_); rintro e u2 ⟨Aq, nq, cq, rfl, ho2, hr2, hg2⟩; have HP3 := Lib.hid (HP2.out.read hr2 hg2); have HO2 := Lib.hid ho2; have HO3 := Lib.hid (HO1.out.off hg2 (by have := HB1.out; have := HPc.out.g; omega)); have HB2 : Hid (gC < u1.heap.size) := Lib.hid HP2.out.b.lt; have HF0 : Hid (FnS w gC [.int .i64 v1, .int .i64 v2, .slice V.1 V.2.1 V.2.2, .slice none 0 0, .slice none 0 0] V (Ap, np, cp) (Aq, nq, cq) pre pp pd s6 u2) := Lib.hid ⟨HP3.out.r, HP3.out.x, HP3.out.z, HP3.out.b, HP3.out.g, HP3.out.o, HO3.out.weak HB1.out, HO2.out.weak HB2.out⟩; clear hr2 hg2 ho2)
    | (refine wpList_store_cell rfl 23 (.tmp 66) (.tmp 64) rfl gC 3 (by simp [Act.eval]) (.slice Ap np cp) (by simp [Act.eval]) rfl rfl (fun w => by kernel_rfl) 25 [.int .i64 v1, .int .i64 v2, .slice V.1 V.2.1 V.2.2, .slice none 0 0, .slice none 0 0] HF0.out.b (by simp) ?_; intro u3 hb3 hg3; have HF1 := Lib.hid (FnS.turn (X' := [.int .i64 v1, .int .i64 v2, .slice V.1 V.2.1 V.2.2, .slice Ap np cp, .slice none 0 0]) HF0.out hb3 hg3); clear hb3 hg3)
    | (refine wpList_store_cell rfl 23 (.tmp 67) (.tmp 65) rfl gC 4 (by simp [Act.eval]) (.slice Aq nq cq) (by simp [Act.eval]) rfl rfl (fun w => by kernel_rfl) 25 [.int .i64 v1, .int .i64 v2, .slice V.1 V.2.1 V.2.2, .slice Ap np cp, .slice none 0 0] HF1.out.b (by simp) ?_; intro u4 hb4 hg4; have HF2 := Lib.hid (FnS.turn (X' := [.int .i64 v1, .int .i64 v2, .slice V.1 V.2.1 V.2.2, .slice Ap np cp, .slice Aq nq cq]) HF1.out hb4 hg4); clear hb4 hg4)
    | (go_at_call 59; (refine (rend_rs HF2.out.r).mono ?_); rintro e wE ⟨x6, rfl, hx6, rfl⟩; have hx0 : ¬ x6 = 0 := (fun h9 => HST.out (hx6.1 h9)); have hxb : (x6 == 0) = false := (by simpa using hx0); have hxd : (x6 != 0) = true := (by simpa using hx0); clear hx6 hx0)
    | (refine wpList_store_blk rfl 25 (.tmp 4) (.tmp 85) rfl w.heap.size [.int .i64 0, .int .i64 0, .slice none 0 0, .slice none 0 0, .slice none 0 0] rfl rfl 25 [.int .i64 0, .int .i64 0, .slice none 0 0, .slice none 0 0, .slice none 0 0] HF2.out.z (by kernel_rfl) rfl (one5c _ _ _ _ _ _ _ _ _ _ _) ?_; intro wy hby hgy; have HBy := Lib.hid hby; have HXy : Hid (Below w.heap.size w wy) := Lib.hid (HF2.out.x.grown hgy HF2.out.x.size (fun k hk => by have := Option.some.inj hk; omega)); clear hby hgy))
   (try simp only [Exit.inBlock, Exit.then]); refine bodyPost_ret (results_cell_row_tmp1 rfl _ _ w.heap.size 25 _ (0, 0) _ rfl HBy.out Try.underlying25 rfl (by kernel_rfl)) rfl ?_
   exact ⟨(none, 0, 0), (none, 0, 0), (none, 0, 0), rfl, ChOwn.no_ _ _, HXy.out⟩
  have HST := Lib.hid hst
  clear hst
  cases xx with
  | false =>
   have hpe : P = (Ch.no, 2) := by rw [HQf.out, if_neg (fun h => by simp at h)]
   subst hpe
   go_wp2_with (first
    | go_big_skip
    | (go_at_call 58; (with_reducible refine (HP1.out).mono ?_); rintro e u1 ⟨Ap, np, cp, rfl, ho1, hr1, hg1⟩; have HP2 := Lib.hid (HPc.out.read hr1 hg1); have HO1 := Lib.hid ho1; have HB1 : Hid (gC < wc.heap.size) := Lib.hid HPc.out.b.lt; clear hr1 hg1 ho1)
    | (go_at_call 58; (with_reducible refine (HPp.out _ HP2.out).mono ?_); rintro e u2 ⟨Aq, nq, cq, rfl, ho2, hr2, hg2⟩; have HP3 := Lib.hid (HP2.out.read hr2 hg2); have HO2 := Lib.hid ho2; have HO3 := Lib.hid (HO1.out.off hg2 (by have := HB1.out; have := HPc.out.g; omega)); have HB2 : Hid (gC < u1.heap.size) := Lib.hid HP2.out.b.lt; have HF0 : Hid (FnS w gC [.int .i64 v1, .int .i64 v2, .slice V.1 V.2.1 V.2.2, .slice none 0 0, .slice none 0 0] V (Ap, np, cp) (Aq, nq, cq) pre pp pd s6 u2) := Lib.hid ⟨HP3.out.r, HP3.out.x, HP3.out.z, HP3.out.b, HP3.out.g, HP3.out.o, HO3.out.weak HB1.out, HO2.out.weak HB2.out⟩; clear hr2 hg2 ho2)
    | (refine wpList_store_cell rfl 23 (.tmp 66) (.tmp 64) rfl gC 3 (by simp [Act.eval]) (.slice Ap np cp) (by simp [Act.eval]) rfl rfl (fun w => by kernel_rfl) 25 [.int .i64 v1, .int .i64 v2, .slice V.1 V.2.1 V.2.2, .slice none 0 0, .slice none 0 0] HF0.out.b (by simp) ?_; intro u3 hb3 hg3; have HF1 := Lib.hid (FnS.turn (X' := [.int .i64 v1, .int .i64 v2, .slice V.1 V.2.1 V.2.2, .slice Ap np cp, .slice none 0 0]) HF0.out hb3 hg3); clear hb3 hg3)
    | (refine wpList_store_cell rfl 23 (.tmp 67) (.tmp 65) rfl gC 4 (by simp [Act.eval]) (.slice Aq nq cq) (by simp [Act.eval]) rfl rfl (fun w => by kernel_rfl) 25 [.int .i64 v1, .int .i64 v2, .slice V.1 V.2.1 V.2.2, .slice Ap np cp, .slice none 0 0] HF1.out.b (by simp) ?_; intro u4 hb4 hg4; have HF2 := Lib.hid (FnS.turn (X' := [.int .i64 v1, .int .i64 v2, .slice V.1 V.2.1 V.2.2, .slice Ap np cp, .slice Aq nq cq]) HF1.out hb4 hg4); clear hb4 hg4)
    | (go_at_call 59; (refine (rend_rs HF2.out.r).mono ?_); rintro e wE ⟨x6, rfl, hx6, rfl⟩; have hx0 : x6 = 0 := hx6.2 HST.out; subst hx0; clear hx6)
    | (refine wpList_store_blk rfl 25 (.tmp 4) (.tmp 85) rfl w.heap.size [.int .i64 0, .int .i64 0, .slice none 0 0, .slice none 0 0, .slice none 0 0] rfl rfl 25 [.int .i64 0, .int .i64 0, .slice none 0 0, .slice none 0 0, .slice none 0 0] HF2.out.z (by kernel_rfl) rfl (one5c _ _ _ _ _ _ _ _ _ _ _) ?_; intro wy hby hgy; have HBy := Lib.hid hby; have HXy : Hid (Below w.heap.size w wy) := Lib.hid (HF2.out.x.grown hgy HF2.out.x.size (fun k hk => by have := Option.some.inj hk; omega)); clear hby hgy))
   (try simp only [Exit.inBlock, Exit.then]); refine bodyPost_ret (results_cell_row_tmp1 rfl _ _ w.heap.size 25 _ (0, 0) _ rfl HBy.out Try.underlying25 rfl (by kernel_rfl)) rfl ?_
   exact ⟨(none, 0, 0), (none, 0, 0), (none, 0, 0), rfl, ChOwn.no_ _ _, HXy.out⟩
  | true =>
  cases yy with
  | false =>
   have hpe : P = (Ch.no, 2) := by rw [HQf.out, if_neg (fun h => by simp at h)]
   subst hpe
   go_wp2_with (first
    | go_big_skip
    | (go_at_call 58; (with_reducible refine (HP1.out).mono ?_); rintro e u1 ⟨Ap, np, cp, rfl, ho1, hr1, hg1⟩; have HP2 := Lib.hid (HPc.out.read hr1 hg1); have HO1 := Lib.hid ho1; have HB1 : Hid (gC < wc.heap.size) := Lib.hid HPc.out.b.lt; clear hr1 hg1 ho1)
    | (go_at_call 58; (with_reducible refine (HPp.out _ HP2.out).mono ?_); rintro e u2 ⟨Aq, nq, cq, rfl, ho2, hr2, hg2⟩; have HP3 := Lib.hid (HP2.out.read hr2 hg2); have HO2 := Lib.hid ho2; have HO3 := Lib.hid (HO1.out.off hg2 (by have := HB1.out; have := HPc.out.g; omega)); have HB2 : Hid (gC < u1.heap.size) := Lib.hid HP2.out.b.lt; have HF0 : Hid (FnS w gC [.int .i64 v1, .int .i64 v2, .slice V.1 V.2.1 V.2.2, .slice none 0 0, .slice none 0 0] V (Ap, np, cp) (Aq, nq, cq) pre pp pd s6 u2) := Lib.hid ⟨HP3.out.r, HP3.out.x, HP3.out.z, HP3.out.b, HP3.out.g, HP3.out.o, HO3.out.weak HB1.out, HO2.out.weak HB2.out⟩; clear hr2 hg2 ho2)
    | (refine wpList_store_cell rfl 23 (.tmp 66) (.tmp 64) rfl gC 3 (by simp [Act.eval]) (.slice Ap np cp) (by simp [Act.eval]) rfl rfl (fun w => by kernel_rfl) 25 [.int .i64 v1, .int .i64 v2, .slice V.1 V.2.1 V.2.2, .slice none 0 0, .slice none 0 0] HF0.out.b (by simp) ?_; intro u3 hb3 hg3; have HF1 := Lib.hid (FnS.turn (X' := [.int .i64 v1, .int .i64 v2, .slice V.1 V.2.1 V.2.2, .slice Ap np cp, .slice none 0 0]) HF0.out hb3 hg3); clear hb3 hg3)
    | (refine wpList_store_cell rfl 23 (.tmp 67) (.tmp 65) rfl gC 4 (by simp [Act.eval]) (.slice Aq nq cq) (by simp [Act.eval]) rfl rfl (fun w => by kernel_rfl) 25 [.int .i64 v1, .int .i64 v2, .slice V.1 V.2.1 V.2.2, .slice Ap np cp, .slice none 0 0] HF1.out.b (by simp) ?_; intro u4 hb4 hg4; have HF2 := Lib.hid (FnS.turn (X' := [.int .i64 v1, .int .i64 v2, .slice V.1 V.2.1 V.2.2, .slice Ap np cp, .slice Aq nq cq]) HF1.out hb4 hg4); clear hb4 hg4)
    | (go_at_call 59; (refine (rend_rs HF2.out.r).mono ?_); rintro e wE ⟨x6, rfl, hx6, rfl⟩; have hx0 : x6 = 0 := hx6.2 HST.out; subst hx0; clear hx6)
    | (refine wpList_store_blk rfl 25 (.tmp 4) (.tmp 85) rfl w.heap.size [.int .i64 0, .int .i64 0, .slice none 0 0, .slice none 0 0, .slice none 0 0] rfl rfl 25 [.int .i64 0, .int .i64 0, .slice none 0 0, .slice none 0 0, .slice none 0 0] HF2.out.z (by kernel_rfl) rfl (one5c _ _ _ _ _ _ _ _ _ _ _) ?_; intro wy hby hgy; have HBy := Lib.hid hby; have HXy : Hid (Below w.heap.size w wy) := Lib.hid (HF2.out.x.grown hgy HF2.out.x.size (fun k hk => by have := Option.some.inj hk; omega)); clear hby hgy))
   (try simp only [Exit.inBlock, Exit.then]); refine bodyPost_ret (results_cell_row_tmp1 rfl _ _ w.heap.size 25 _ (0, 0) _ rfl HBy.out Try.underlying25 rfl (by kernel_rfl)) rfl ?_
   exact ⟨(none, 0, 0), (none, 0, 0), (none, 0, 0), rfl, ChOwn.no_ _ _, HXy.out⟩
  | true =>
  cases bb with
  | false =>
   have hpe : P = (Ch.no, 2) := by rw [HQf.out, if_neg (fun h => by simp at h)]
   subst hpe
   go_wp2_with (first
    | go_big_skip
    | (go_at_call 58; (with_reducible refine (HP1.out).mono ?_); rintro e u1 ⟨Ap, np, cp, rfl, ho1, hr1, hg1⟩; have HP2 := Lib.hid (HPc.out.read hr1 hg1); have HO1 := Lib.hid ho1; have HB1 : Hid (gC < wc.heap.size) := Lib.hid HPc.out.b.lt; clear hr1 hg1 ho1)
    | (go_at_call 58; (with_reducible refine (HPp.out _ HP2.out).mono ?_); rintro e u2 ⟨Aq, nq, cq, rfl, ho2, hr2, hg2⟩; have HP3 := Lib.hid (HP2.out.read hr2 hg2); have HO2 := Lib.hid ho2; have HO3 := Lib.hid (HO1.out.off hg2 (by have := HB1.out; have := HPc.out.g; omega)); have HB2 : Hid (gC < u1.heap.size) := Lib.hid HP2.out.b.lt; have HF0 : Hid (FnS w gC [.int .i64 v1, .int .i64 v2, .slice V.1 V.2.1 V.2.2, .slice none 0 0, .slice none 0 0] V (Ap, np, cp) (Aq, nq, cq) pre pp pd s6 u2) := Lib.hid ⟨HP3.out.r, HP3.out.x, HP3.out.z, HP3.out.b, HP3.out.g, HP3.out.o, HO3.out.weak HB1.out, HO2.out.weak HB2.out⟩; clear hr2 hg2 ho2)
    | (refine wpList_store_cell rfl 23 (.tmp 66) (.tmp 64) rfl gC 3 (by simp [Act.eval]) (.slice Ap np cp) (by simp [Act.eval]) rfl rfl (fun w => by kernel_rfl) 25 [.int .i64 v1, .int .i64 v2, .slice V.1 V.2.1 V.2.2, .slice none 0 0, .slice none 0 0] HF0.out.b (by simp) ?_; intro u3 hb3 hg3; have HF1 := Lib.hid (FnS.turn (X' := [.int .i64 v1, .int .i64 v2, .slice V.1 V.2.1 V.2.2, .slice Ap np cp, .slice none 0 0]) HF0.out hb3 hg3); clear hb3 hg3)
    | (refine wpList_store_cell rfl 23 (.tmp 67) (.tmp 65) rfl gC 4 (by simp [Act.eval]) (.slice Aq nq cq) (by simp [Act.eval]) rfl rfl (fun w => by kernel_rfl) 25 [.int .i64 v1, .int .i64 v2, .slice V.1 V.2.1 V.2.2, .slice Ap np cp, .slice none 0 0] HF1.out.b (by simp) ?_; intro u4 hb4 hg4; have HF2 := Lib.hid (FnS.turn (X' := [.int .i64 v1, .int .i64 v2, .slice V.1 V.2.1 V.2.2, .slice Ap np cp, .slice Aq nq cq]) HF1.out hb4 hg4); clear hb4 hg4)
    | (go_at_call 59; (refine (rend_rs HF2.out.r).mono ?_); rintro e wE ⟨x6, rfl, hx6, rfl⟩; have hx0 : x6 = 0 := hx6.2 HST.out; subst hx0; clear hx6)
    | (refine wpList_load_blk_g 25 (.tmp 7) rfl (by kernel_rfl) gC rfl 25 [.int .i64 v1, .int .i64 v2, .slice V.1 V.2.1 V.2.2, .slice Ap np cp, .slice Aq nq cq] _ HF2.out.b Try.underlying25 rfl (by kernel_rfl) ?_)
    | (go_at_call 20; (refine (HRi.out V (Ap, np, cp) (Aq, nq, cq) _ HF2.out.chin).mono ?_); rintro e u5 ⟨rfl, hb5⟩; have HF3 := Lib.hid (HF2.out.below hb5); clear hb5)
    | (refine wpList_store_blk rfl 25 (.tmp 4) (.tmp 85) rfl w.heap.size [.int .i64 0, .int .i64 0, .slice none 0 0, .slice none 0 0, .slice none 0 0] rfl rfl 25 [.int .i64 0, .int .i64 0, .slice none 0 0, .slice none 0 0, .slice none 0 0] HF3.out.z (by kernel_rfl) rfl (one5c _ _ _ _ _ _ _ _ _ _ _) ?_; intro wy hby hgy; have HBy := Lib.hid hby; have HXy : Hid (Below w.heap.size w wy) := Lib.hid (HF3.out.x.grown hgy HF3.out.x.size (fun k hk => by have := Option.some.inj hk; omega)); clear hby hgy))
   (try simp only [Exit.inBlock, Exit.then]); refine bodyPost_ret (results_cell_row_tmp1 rfl _ _ w.heap.size 25 _ (0, 0) _ rfl HBy.out Try.underlying25 rfl (by kernel_rfl)) rfl ?_
   exact ⟨(none, 0, 0), (none, 0, 0), (none, 0, 0), rfl, ChOwn.no_ _ _, HXy.out⟩
  | true =>
   have hpe : P = (⟨v1, v2, pre, pp, pd⟩, 0) := by rw [HQf.out, if_pos ⟨HST.out, rfl, rfl⟩]
   subst hpe
   go_wp2_with (first
    | go_big_skip
    | (go_at_call 58; (with_reducible refine (HP1.out).mono ?_); rintro e u1 ⟨Ap, np, cp, rfl, ho1, hr1, hg1⟩; have HP2 := Lib.hid (HPc.out.read hr1 hg1); have HO1 := Lib.hid ho1; have HB1 : Hid (gC < wc.heap.size) := Lib.hid HPc.out.b.lt; clear hr1 hg1 ho1)
    | (go_at_call 58; (with_reducible refine (HPp.out _ HP2.out).mono ?_); rintro e u2 ⟨Aq, nq, cq, rfl, ho2, hr2, hg2⟩; have HP3 := Lib.hid (HP2.out.read hr2 hg2); have HO2 := Lib.hid ho2; have HO3 := Lib.hid (HO1.out.off hg2 (by have := HB1.out; have := HPc.out.g; omega)); have HB2 : Hid (gC < u1.heap.size) := Lib.hid HP2.out.b.lt; have HF0 : Hid (FnS w gC [.int .i64 v1, .int .i64 v2, .slice V.1 V.2.1 V.2.2, .slice none 0 0, .slice none 0 0] V (Ap, np, cp) (Aq, nq, cq) pre pp pd s6 u2) := Lib.hid ⟨HP3.out.r, HP3.out.x, HP3.out.z, HP3.out.b, HP3.out.g, HP3.out.o, HO3.out.weak HB1.out, HO2.out.weak HB2.out⟩; clear hr2 hg2 ho2)
    | (refine wpList_store_cell rfl 23 (.tmp 66) (.tmp 64) rfl gC 3 (by simp [Act.eval]) (.slice Ap np cp) (by simp [Act.eval]) rfl rfl (fun w => by kernel_rfl) 25 [.int .i64 v1, .int .i64 v2, .slice V.1 V.2.1 V.2.2, .slice none 0 0, .slice none 0 0] HF0.out.b (by simp) ?_; intro u3 hb3 hg3; have HF1 := Lib.hid (FnS.turn (X' := [.int .i64 v1, .int .i64 v2, .slice V.1 V.2.1 V.2.2, .slice Ap np cp, .slice none 0 0]) HF0.out hb3 hg3); clear hb3 hg3)
    | (refine wpList_store_cell rfl 23 (.tmp 67) (.tmp 65) rfl gC 4 (by simp [Act.eval]) (.slice Aq nq cq) (by simp [Act.eval]) rfl rfl (fun w => by kernel_rfl) 25 [.int .i64 v1, .int .i64 v2, .slice V.1 V.2.1 V.2.2, .slice Ap np cp, .slice none 0 0] HF1.out.b (by simp) ?_; intro u4 hb4 hg4; have HF2 := Lib.hid (FnS.turn (X' := [.int .i64 v1, .int .i64 v2, .slice V.1 V.2.1 V.2.2, .slice Ap np cp, .slice Aq nq cq]) HF1.out hb4 hg4); clear hb4 hg4)
    | (go_at_call 59; (refine (rend_rs HF2.out.r).mono ?_); rintro e wE ⟨x6, rfl, hx6, rfl⟩; have hx0 : x6 = 0 := hx6.2 HST.out; subst hx0; clear hx6)
    | (refine wpList_load_blk_g 25 (.tmp 7) rfl (by kernel_rfl) gC rfl 25 [.int .i64 v1, .int .i64 v2, .slice V.1 V.2.1 V.2.2, .slice Ap np cp, .slice Aq nq cq] _ HF2.out.b Try.underlying25 rfl (by kernel_rfl) ?_)
    | (go_at_call 20; (refine (HRi.out V (Ap, np, cp) (Aq, nq, cq) _ HF2.out.chin).mono ?_); rintro e u5 ⟨rfl, hb5⟩; have HF3 := Lib.hid (HF2.out.below hb5); clear hb5)
    | (refine wpList_load_blk rfl 25 (.tmp 7) rfl gC rfl 25 [.int .i64 v1, .int .i64 v2, .slice V.1 V.2.1 V.2.2, .slice Ap np cp, .slice Aq nq cq] _ HF3.out.b Try.underlying25 rfl (by kernel_rfl) ?_)
    | (refine wpList_store_blk rfl 25 (.tmp 4) (.tmp 86) rfl w.heap.size [.int .i64 v1, .int .i64 v2, .slice V.1 V.2.1 V.2.2, .slice Ap np cp, .slice Aq nq cq] rfl rfl 25 [.int .i64 0, .int .i64 0, .slice none 0 0, .slice none 0 0, .slice none 0 0] HF3.out.z (by kernel_rfl) rfl (one5c _ _ _ _ _ _ _ _ _ _ _) ?_; intro wy hby hgy; have HBy := Lib.hid hby; have HXy : Hid (Below w.heap.size w wy) := Lib.hid (HF3.out.x.grown hgy HF3.out.x.size (fun k hk => by have := Option.some.inj hk; omega)); have HIy : Hid (ChOwn wy w.heap.size V (Ap, np, cp) (Aq, nq, cq) ⟨v1, v2, pre, pp, pd⟩) := Lib.hid ⟨(HF3.out.o.off hgy (by have := HF3.out.g; omega)).weak (by have := HF3.out.g; omega), (HF3.out.p.off hgy (by have := HF3.out.g; omega)).weak (by have := HF3.out.g; omega), (HF3.out.q.off hgy (by have := HF3.out.g; omega)).weak (by have := HF3.out.g; omega)⟩; clear hby hgy))
   (try simp only [Exit.inBlock, Exit.then]); refine bodyPost_ret (results_cell_row_tmp1 rfl _ _ w.heap.size 25 _ (0, 0) _ rfl HBy.out Try.underlying25 rfl (by kernel_rfl)) rfl ?_
   exact ⟨V, (Ap, np, cp), (Aq, nq, cq), rfl, HIy.out, HXy.out⟩

end Go.Proofs.Ytheecifgbkdecaa
