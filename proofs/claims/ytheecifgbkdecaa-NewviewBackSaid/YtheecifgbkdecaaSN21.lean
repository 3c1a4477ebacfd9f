/-
  ChY BaS
-/
import Derived.Deep.CutBlock
import Derived.Test.YtheecifgbkdecaaSN18
import Derived.Test.YtheecifgbkdecaaSN20
import Derived.BigQuiet
import Derived.Test.YtheecifgbkdecaaSN11
namespace Go.Proofs.Ytheecifgbkdecaa
open Go.RowKit

theorem docR_lt (m L : Nat) : ∀ (k : Nat) (b : Bool) (out : List Ey) (st : Option (List UInt8)), (∀ y ∈ out, y.co.lt.length ≤ L ∧ y.co.tx.length ≤ L) → stL st ≤ L → ∀ y ∈ (docR m k b out st).1, y.co.lt.length ≤ L ∧ y.co.tx.length ≤ L
 | 0, b, out, st, h, _ => h
 | k + 1, b, out, none, h, _ => h
 | k + 1, b, out, some xs, h, hl => by
  rw [docR_some]
  have hr : (rval m (some xs)).length ≤ L := Nat.le_trans (rval_stL _ _) hl
  refine docR_lt m L k _ _ _ (fun y hy => ?_) (Nat.le_trans (nnext_stL _ _) (Nat.le_trans (rnext_stL _ _) hl))
  rcases List.mem_append.1 hy with hy | hy
  ·exact h y hy
  ·rw [List.mem_singleton.1 hy]
   have l1 : stL (nnext 1 (nnext 8 (nnext 1 (some (rval m (some xs)))))) ≤ L := Nat.le_trans (nnext_stL _ _) (Nat.le_trans (nnext_stL _ _) (Nat.le_trans (nnext_stL _ _) hr))
   exact ⟨Nat.le_trans (rval_stL _ _) l1, Nat.le_trans (rval_stL _ _) (Nat.le_trans (nnext_stL _ _) (Nat.le_trans (nnext_stL _ _) (Nat.le_trans (rnext_stL _ _) l1)))⟩

theorem one5c (a b : Int) (A : Option Addr) (n c : Nat) (B : Option Addr) (m d : Nat) (C : Option Addr) (k e : Nat) : ([.int .i64 a, .int .i64 b, .slice A n c, .slice B m d, .slice C k e] : List Value).toArray.all (·.oneCell') = true := by simp [Value.oneCell']
theorem Try.build_ch0 (w : World) : (Instr.build 25 #[]).run Try.prog w = .ok (.agg #[.int .i64 0, .int .i64 0, .slice none 0 0, .slice none 0 0, .slice none 0 0]) w := by kernel_rfl
theorem Try.build_ch2 (a b : Int) (w : World) : (Instr.build 25 #[(0, .int .i64 a), (1, .int .i64 b)]).run Try.prog w = .ok (.agg #[.int .i64 a, .int .i64 b, .slice none 0 0, .slice none 0 0, .slice none 0 0]) w := by kernel_rfl
theorem Try.build_po (a : Int) (d : List UInt8) (hd : d.length = 32) (w : World) : (Instr.build 52 #[(0, .int .i64 a), (1, .agg (vs d).toArray)]).run Try.prog w = .ok (.agg (Po.cells ⟨a, d⟩).toArray) w := by
 obtain ⟨x0, x1, x2, x3, x4, x5, x6, x7, x8, x9, x10, x11, x12, x13, x14, x15, x16, x17, x18, x19, x20, x21, x22, x23, x24, x25, x26, x27, x28, x29, x30, x31, rfl⟩ := vs_lit d hd
 kernel_rfl
theorem ChIn.no_ (w : World) : ChIn w (none, 0, 0) (none, 0, 0) (none, 0, 0) Ch.no := ⟨⟨PosIn.none_, Nat.le_refl _, by simp [maxLen]⟩, ⟨PfsIn.none_, Nat.le_refl _, by simp [maxLen]⟩, ⟨PfsIn.none_, Nat.le_refl _, by simp [maxLen]⟩⟩
/-- a call's own row of points -/
def OPo (w : World) (B : Nat) (v : Value) (ps : List Po) : Prop := Os w B 52 33 v (ps.map Po.cells) ∧ ∀ p ∈ ps, p.dg.length = 32
section
variable {w w' : World} {B : Nat} {v : Value} {ps : List Po}
theorem OPo.through (h : OPo w B v ps) (hb : Below w.heap.size w w') : OPo w' B v ps := ⟨h.1.through hb, h.2⟩
theorem OPo.off {g : Nat} (h : OPo w B v ps) (hg : w.grownBy w' (some g)) (hl : g < B) : OPo w' B v ps := ⟨h.1.far hg hl, h.2⟩
theorem OPo.nil (w : World) (B : Nat) : OPo w B (.slice none 0 0) [] := ⟨Os.nil _ _ _ _, fun _ h => nomatch h⟩
theorem OPo.weak {B' : Nat} (h : OPo w B v ps) (hB : B' ≤ B) : OPo w B' v ps := ⟨h.1.weak hB, h.2⟩
theorem OPo.out (h : OPo w B v ps) : ∃ A c, v = .slice A ps.length c ∧ ps.length ≤ c ∧ c ≤ maxLen ∧ PosIn w A ps.length ps := by
 obtain ⟨A, c, e, hn, hm, hs⟩ := h.1.out
 rw [List.length_map] at e hn hs
 exact ⟨A, c, e, hn, hm, hs, h.2⟩
end
/-- what holds while the points are read -/
structure PtS (w : World) (gC : Nat) (v1 v2 : Int) (V : Pl) (po : List Po) (s : Option (List UInt8)) (W : World) : Prop where
 r : Rs (fun b => b < w.heap.size) W (w.heap.size + 1) tQ s
 x : Below w.heap.size w W
 z : Blk W w.heap.size 25 [.int .i64 0, .int .i64 0, .slice none 0 0, .slice none 0 0, .slice none 0 0]
 b : Blk W gC 25 [.int .i64 v1, .int .i64 v2, .slice V.1 V.2.1 V.2.2, .slice none 0 0, .slice none 0 0]
 g : w.heap.size + 2 ≤ gC
 o : OPo W (gC + 1) (.slice V.1 V.2.1 V.2.2) po
section
variable {w W W' : World} {gC : Nat} {v1 v2 : Int} {V : Pl} {po : List Po} {s s' : Option (List UInt8)}
theorem PtS.below (h : PtS w gC v1 v2 V po s W) (hb : Below W.heap.size W W') : PtS w gC v1 v2 V po s W' :=
 ⟨h.r.below hb, below_step h.x hb, h.z.through hb, h.b.through hb, h.g, h.o.through hb⟩
theorem PtS.drew (h : PtS w gC v1 v2 V po s W) : PtS w gC v1 v2 V po s W.drew := ⟨h.r.drew, h.x.drew, h.z.drew, h.b.drew, h.g, h.o.1.drew, h.o.2⟩
end
theorem AllB.weak {w : World} {B B' : Nat} (hB : B' ≤ B) : ∀ {ps : List Pf} {ss : List Pl}, AllB w B ps ss → AllB w B' ps ss
 | [], [], _ => trivial
 | _ :: _, _ :: _, h => ⟨h.1.weak_ hB, AllB.weak hB h.2⟩
 | [], _ :: _, h => h.elim
 | _ :: _, [], h => h.elim
theorem OPf.weak {w : World} {B B' : Nat} {v : Value} {ps : List Pf} (h : OPf w B v ps) (hB : B' ≤ B) : OPf w B' v ps := by
 obtain ⟨ss, h1, h2⟩ := h
 exact ⟨ss, h1.weak hB, h2.weak hB⟩
/-- a change in memory that a call has made from B on -/
def ChOwn (w : World) (B : Nat) (P Q R : Pl) (C : Ch) : Prop := OPo w B (.slice P.1 P.2.1 P.2.2) C.po ∧ OPf w B (.slice Q.1 Q.2.1 Q.2.2) C.pp ∧ OPf w B (.slice R.1 R.2.1 R.2.2) C.pd
theorem ChOwn.no_ (w : World) (B : Nat) : ChOwn w B (none, 0, 0) (none, 0, 0) (none, 0, 0) Ch.no := ⟨OPo.nil _ _, OPf.nil _ _, OPf.nil _ _⟩
def ChOutO (w : World) (C : Ch) (er : Int) (e : Ending) (w' : World) : Prop := ∃ P Q R : Pl, e = .returned (.tuple #[.agg (Ch.cells C P Q R).toArray, .int .i64 er]) ∧ ChOwn w' w.heap.size P Q R C ∧ Below w.heap.size w w'
/-- what holds behind the readings -/
structure FnS (w : World) (gC : Nat) (X : List Value) (V Vp Vq : Pl) (po : List Po) (pp pd : List Pf) (s : Option (List UInt8)) (W : World) : Prop where
 r : Rs (fun b => b < w.heap.size) W (w.heap.size + 1) tQ s
 x : Below w.heap.size w W
 z : Blk W w.heap.size 25 [.int .i64 0, .int .i64 0, .slice none 0 0, .slice none 0 0, .slice none 0 0]
 b : Blk W gC 25 X
 g : w.heap.size + 2 ≤ gC
 o : OPo W (gC + 1) (.slice V.1 V.2.1 V.2.2) po
 p : OPf W (gC + 1) (.slice Vp.1 Vp.2.1 Vp.2.2) pp
 q : OPf W (gC + 1) (.slice Vq.1 Vq.2.1 Vq.2.2) pd
section
variable {w W W' : World} {gC : Nat} {X X' : List Value} {V Vp Vq : Pl} {po : List Po} {pp pd : List Pf} {s : Option (List UInt8)}
theorem FnS.turn (h : FnS w gC X V Vp Vq po pp pd s W) (hb : Blk W' gC 25 X') (hg : W.grownBy W' (some gC)) : FnS w gC X' V Vp Vq po pp pd s W' :=
 ⟨h.r.other hg (fun b hb => by have := Option.some.inj hb; have := h.g; exact ⟨fun e => by omega, fun h9 => by omega⟩), h.x.grown hg h.x.size (fun b hb => by have := Option.some.inj hb; have := h.g; omega), h.z.grown hg (fun e => by have := Option.some.inj e; have := h.g; omega), hb, h.g, h.o.off hg (by omega), h.p.off hg (by omega), h.q.off hg (by omega)⟩
theorem FnS.below (h : FnS w gC X V Vp Vq po pp pd s W) (hb : Below W.heap.size W W') : FnS w gC X V Vp Vq po pp pd s W' :=
 ⟨h.r.below hb, below_step h.x hb, h.z.through hb, h.b.through hb, h.g, h.o.through hb, h.p.through hb, h.q.through hb⟩
theorem chin_of {v1 v2 : Int} {B : Nat} (h1 : OPo W B (.slice V.1 V.2.1 V.2.2) po) (h2 : OPf W B (.slice Vp.1 Vp.2.1 Vp.2.2) pp) (h3 : OPf W B (.slice Vq.1 Vq.2.1 Vq.2.2) pd) : ChIn W V Vp Vq ⟨v1, v2, po, pp, pd⟩ := by
 obtain ⟨A, c, e, a1, a2, a3⟩ := h1.out
 obtain ⟨A', c', e', b1, b2, b3⟩ := h2.out
 obtain ⟨A'', c'', e'', c1, c2, c3⟩ := h3.out
 injection e with x1 x2 x3
 injection e' with y1 y2 y3
 injection e'' with z1 z2 z3
 unfold ChIn
 simp only
 rw [x1, x2, x3, y1, y2, y3, z1, z2, z3]
 exact ⟨⟨a3, a1, a2⟩, ⟨b3, b1, b2⟩, ⟨c3, c1, c2⟩⟩
end
theorem rdMany_stL {α : Type} {rd : Option (List UInt8) → α × Option (List UInt8)} (hrd : ∀ st, stL (rd st).2 ≤ stL st) : ∀ (n : Nat) (st : Option (List UInt8)), stL (rdMany rd n st).2 ≤ stL st
 | 0, _ => Nat.le_refl _
 | _ + 1, none => by rw [rdMany_none]; exact Nat.le_refl _
 | n + 1, some xs => by
  rw [rdMany_some]
  exact Nat.le_trans (rdMany_stL hrd n _) (hrd _)
theorem rdPf_stL (st : Option (List UInt8)) : stL (rdPf st).2 ≤ stL st := Nat.le_trans (rnext_stL _ _) (Nat.le_trans (nnext_stL _ _) (nnext_stL _ _))
theorem rdPo_stL (st : Option (List UInt8)) : stL (rdPo st).2 ≤ stL st := Nat.le_trans (nnext_stL _ _) (nnext_stL _ _)
/-- what is read of a row of proofs isn't longer than what there was -/
theorem rdPfs_lt {L most : Nat} {st : Option (List UInt8)} (h : stL st ≤ L) : ∀ p ∈ (rdPfs most st).1.map (·.1), ∀ y ∈ p.es, y.co.lt.length ≤ L := by
 have h1 : stL (cnext most st) ≤ L := Nat.le_trans (cnext_stL _ _) h
 unfold rdPfs
 generalize cval most st = k
 generalize cnext most st = s at h1
 have hq : ∀ (n : Nat) (s : Option (List UInt8)), stL s ≤ L → ∀ q ∈ (rdMany rdPf n s).1, ∀ y ∈ q.1.es, y.co.lt.length ≤ L := fun n => by
  induction n with
  | zero => intro s _ q hq; cases hq
  | succ n ih =>
   intro s hs q hq
   cases s with
   | none => rw [rdMany_none] at hq; cases hq
   | some xs =>
    rw [rdMany_some] at hq
    rcases List.mem_cons.1 hq with rfl | hq
    ·intro y hy
     have hr : (rval 1048576 (nnext 8 (nnext 8 (some xs)))).length ≤ L := Nat.le_trans (rval_stL _ _) (Nat.le_trans (nnext_stL _ _) (Nat.le_trans (nnext_stL _ _) hs))
     exact (docR_lt 1048576 L _ _ _ _ (fun y h => by cases h) (Nat.le_trans (nnext_stL _ _) (by simp only [stL]; exact hr)) y hy).1
    ·exact ih _ (Nat.le_trans (rdPf_stL _) hs) q hq
 intro p hp
 obtain ⟨q, h2, rfl⟩ := List.mem_map.1 hp
 exact hq k s h1 q h2

end Go.Proofs.Ytheecifgbkdecaa

namespace Go.Proofs.Ytheecifgbkdecaa
open Go.RowKit

set_option maxHeartbeats 8000000 in
set_option maxRecDepth 100000 in
theorem rsame15_any (a b : List Ey) (A : Option Addr) (n c : Nat) (B : Option Addr) (m d : Nat) (w : World) (h : EysIn w A n a) (h' : EysIn w B m b) (hn : n ≤ 9223372036854775807) :
  Calls Try.prog 96 #[.slice A n c, .slice B m d] w fun e w' => e = .returned (.bool (sameB a b)) ∧ Below w.heap.size w w' := by
 have HI := Lib.hid h
 have HJ := Lib.hid h'
 obtain ⟨bb, hbb⟩ : ∃ bb, sameB a b = bb := ⟨_, rfl⟩
 rw [hbb]
 by_cases s2 : n = m
 case neg =>
  have s2i : ¬ (n : Int) = (m : Int) := by omega
  have s2b : ((n : Int) == (m : Int)) = false := by simpa using s2i
  have s2d : ((n : Int) != (m : Int)) = true := by simpa using s2i
  have s2c : (n == m) = false := by simpa using s2
  have s2e : (n != m) = true := by simpa using s2
  have HV : Hid (bb = false) := Lib.hid (by rw [← hbb]; cases hb : sameB a b; rfl; exact absurd (allB_len hb) (by rw [h.len, h'.len]; exact s2))
  clear h h' hbb s2 s2i
  go_enter Try.func96, Try.ntmps96
  go_wp2
  go_ret
  exact ⟨ret_b HV.out.symm, Below.refl _ _⟩
 subst s2
 have HLn := Lib.hid h.len
 have HLm := Lib.hid h'.len
 have HBB : Hid (allB Ey.eqb a b = bb) := Lib.hid hbb
 clear h h' hbb
 go_enter Try.func96, Try.ntmps96
 go_wp2
 go_loopw [13] (fun iv wr => ∃ i : Nat, i ≤ n ∧ iv = .int .i64 i ∧ bb = allB Ey.eqb (a.drop i) (b.drop i) ∧ Below w.heap.size w wr) (fun iv _ => n - (intOf iv).toNat)
 case atStart => exact ⟨0, Nat.zero_le _, rfl, HBB.out.symm, Below.refl _ _⟩
 case round =>
  obtain ⟨i, hi, rfl, hp, hx⟩ := hrel
  have HX := Lib.hid hx
  by_cases hlt : i < n
  ·obtain ⟨g, o, x, rfl, _, _, hd, hrx⟩ := (HI.out.through HX.out).at hlt
   obtain ⟨g', o', y, rfl, _, _, hd', hry⟩ := (HJ.out.through HX.out).at hlt
   rw [hd, hd'] at hp
   have hix := fun (W : World) => Try.ix_ey W g o n c i hlt
   have hix' := fun (W : World) => Try.ix_ey W g' o' n d i hlt
   have hne := neq_ey x y
   cases s0 : x.eqb y with
   | false =>
    rw [s0] at hne
    have HV : Hid (bb = false) := Lib.hid (by rw [hp]; simp [allB, s0])
    have p0 : wr.cell? ⟨g, o + i * 8, none⟩ = some (.int .i64 x.co.cl) := hrx 0 _ rfl
    have p1 : wr.cell? ⟨g, o + i * 8 + 1, none⟩ = some (.int .i64 x.co.sp) := hrx 1 _ rfl
    have p2 : wr.cell? ⟨g, o + i * 8 + 2, none⟩ = some (.int .i64 x.co.op) := hrx 2 _ rfl
    have p3 : wr.cell? ⟨g, o + i * 8 + 3, none⟩ = some (.string (ba x.co.lt)) := hrx 3 _ rfl
    have p4 : wr.cell? ⟨g, o + i * 8 + 4, none⟩ = some (.int .i64 x.co.a) := hrx 4 _ rfl
    have p5 : wr.cell? ⟨g, o + i * 8 + 5, none⟩ = some (.int .i64 x.co.b) := hrx 5 _ rfl
    have p6 : wr.cell? ⟨g, o + i * 8 + 6, none⟩ = some (.string (ba x.co.tx)) := hrx 6 _ rfl
    have p7 : wr.cell? ⟨g, o + i * 8 + 7, none⟩ = some (.int .u32 (x.ms : Int)) := hrx 7 _ rfl
    have q0 : wr.cell? ⟨g', o' + i * 8, none⟩ = some (.int .i64 y.co.cl) := hry 0 _ rfl
    have q1 : wr.cell? ⟨g', o' + i * 8 + 1, none⟩ = some (.int .i64 y.co.sp) := hry 1 _ rfl
    have q2 : wr.cell? ⟨g', o' + i * 8 + 2, none⟩ = some (.int .i64 y.co.op) := hry 2 _ rfl
    have q3 : wr.cell? ⟨g', o' + i * 8 + 3, none⟩ = some (.string (ba y.co.lt)) := hry 3 _ rfl
    have q4 : wr.cell? ⟨g', o' + i * 8 + 4, none⟩ = some (.int .i64 y.co.a) := hry 4 _ rfl
    have q5 : wr.cell? ⟨g', o' + i * 8 + 5, none⟩ = some (.int .i64 y.co.b) := hry 5 _ rfl
    have q6 : wr.cell? ⟨g', o' + i * 8 + 6, none⟩ = some (.string (ba y.co.tx)) := hry 6 _ rfl
    have q7 : wr.cell? ⟨g', o' + i * 8 + 7, none⟩ = some (.int .u32 (y.ms : Int)) := hry 7 _ rfl
    clear hp hd hd' s0 hrx hry hx
    go_wp2
    go_quiet (fail)
    go_wp2
    go_ret
    exact ⟨ret_b HV.out.symm, below_drewN HX.out _⟩
   | true =>
    rw [s0] at hne
    have HV : Hid (bb = allB Ey.eqb (a.drop (i + 1)) (b.drop (i + 1))) := Lib.hid (by rw [hp]; simp [allB, s0])
    have p0 : wr.cell? ⟨g, o + i * 8, none⟩ = some (.int .i64 x.co.cl) := hrx 0 _ rfl
    have p1 : wr.cell? ⟨g, o + i * 8 + 1, none⟩ = some (.int .i64 x.co.sp) := hrx 1 _ rfl
    have p2 : wr.cell? ⟨g, o + i * 8 + 2, none⟩ = some (.int .i64 x.co.op) := hrx 2 _ rfl
    have p3 : wr.cell? ⟨g, o + i * 8 + 3, none⟩ = some (.string (ba x.co.lt)) := hrx 3 _ rfl
    have p4 : wr.cell? ⟨g, o + i * 8 + 4, none⟩ = some (.int .i64 x.co.a) := hrx 4 _ rfl
    have p5 : wr.cell? ⟨g, o + i * 8 + 5, none⟩ = some (.int .i64 x.co.b) := hrx 5 _ rfl
    have p6 : wr.cell? ⟨g, o + i * 8 + 6, none⟩ = some (.string (ba x.co.tx)) := hrx 6 _ rfl
    have p7 : wr.cell? ⟨g, o + i * 8 + 7, none⟩ = some (.int .u32 (x.ms : Int)) := hrx 7 _ rfl
    have q0 : wr.cell? ⟨g', o' + i * 8, none⟩ = some (.int .i64 y.co.cl) := hry 0 _ rfl
    have q1 : wr.cell? ⟨g', o' + i * 8 + 1, none⟩ = some (.int .i64 y.co.sp) := hry 1 _ rfl
    have q2 : wr.cell? ⟨g', o' + i * 8 + 2, none⟩ = some (.int .i64 y.co.op) := hry 2 _ rfl
    have q3 : wr.cell? ⟨g', o' + i * 8 + 3, none⟩ = some (.string (ba y.co.lt)) := hry 3 _ rfl
    have q4 : wr.cell? ⟨g', o' + i * 8 + 4, none⟩ = some (.int .i64 y.co.a) := hry 4 _ rfl
    have q5 : wr.cell? ⟨g', o' + i * 8 + 5, none⟩ = some (.int .i64 y.co.b) := hry 5 _ rfl
    have q6 : wr.cell? ⟨g', o' + i * 8 + 6, none⟩ = some (.string (ba y.co.tx)) := hry 6 _ rfl
    have q7 : wr.cell? ⟨g', o' + i * 8 + 7, none⟩ = some (.int .u32 (y.ms : Int)) := hry 7 _ rfl
    clear hp hd hd' s0 hrx hry hx
    go_wp2
    go_quiet (fail)
    go_wp2
    go_roundw
    case rel => exact ⟨i + 1, by omega, by go_num, HV.out, below_drewN HX.out _⟩
    case measure => simp [intOf]; omega
  ·have e : a.drop i = [] := List.drop_of_length_le (by have := HLn.out; omega)
   have e' : b.drop i = [] := List.drop_of_length_le (by have := HLm.out; omega)
   rw [e, e'] at hp
   have HV : Hid (bb = true) := Lib.hid hp
   clear hp e e'
   go_wp2
   go_ret
   exact ⟨ret_b HV.out.symm, HX.out⟩

end Go.Proofs.Ytheecifgbkdecaa
