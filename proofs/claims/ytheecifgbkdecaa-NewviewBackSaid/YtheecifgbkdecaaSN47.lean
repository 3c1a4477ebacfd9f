/-
  CwS
-/
import Derived.Test.YtheecifgbkdecaaSN46
import Derived.Test.YtheecifgbkdecaaSN42
import Derived.Test.YtheecifgbkdecaaSNT
namespace Go.Proofs.Ytheecifgbkdecaa
open Go.RowKit

/-- what holds while a change is read -/
structure PaS (w : World) (A : Option Addr) (n c : Nat) (N : Int) (g gr ge gC : Nat) (X : List Value) (V Vp Vq : Pl) (po : List Po) (pp pd : List Pf) (e1 : Int) (s : Option (List UInt8)) (W : World) : Prop where
 r : Rs (fun b => b < gr) W g tR s
 x : Below w.heap.size w W
 b : Blk W w.heap.size 28 [.slice A n c]
 nn : Blk W (w.heap.size + 1) 3 [.int .i64 N]
 z : Blk W (w.heap.size + 2) 25 [.int .i64 0, .int .i64 0, .slice none 0 0, .slice none 0 0, .slice none 0 0]
 k : Blk W gr 73 [(.pointer (some ⟨g, 0, none⟩))]
 v : Blk W ge 30 [.int .i64 e1]
 cc : Blk W gC 25 X
 o : OPo W (gC + 1) (.slice V.1 V.2.1 V.2.2) po
 p : OPf W (gC + 1) (.slice Vp.1 Vp.2.1 Vp.2.2) pp
 q : OPf W (gC + 1) (.slice Vq.1 Vq.2.1 Vq.2.2) pd
 l1 : w.heap.size + 3 ≤ g
 l2 : g < gr
 l3 : gr < ge
 l4 : ge < gC
section
variable {w W W' : World} {A : Option Addr} {n c : Nat} {N : Int} {g gr ge gC : Nat} {X X' : List Value} {V Vp Vq : Pl} {po : List Po} {pp pd : List Pf} {e1 e2 : Int} {s s' : Option (List UInt8)}
theorem PaS.tw (h : PaS w A n c N g gr ge gC X V Vp Vq po pp pd e1 s W) (ht : Tw g ge W W') (hr : Rs (fun b => b < gr) W' g tR s') (hv : Blk W' ge 30 [.int .i64 e2]) : PaS w A n c N g gr ge gC X V Vp Vq po pp pd e2 s' W' := by
 have h1 := h.l1; have h2 := h.l2; have h3 := h.l3; have h4 := h.l4
 exact ⟨hr, ht.below h.x h.x.size (by omega) (by omega), ht.blk h.b (by omega) (by omega), ht.blk h.nn (by omega) (by omega), ht.blk h.z (by omega) (by omega), ht.blk h.k (by omega) (by omega), hv, ht.blk h.cc (by omega) (by omega), ht.opo h.o (by omega) (by omega), ht.opf h.p (by omega) (by omega), ht.opf h.q (by omega) (by omega), h1, h2, h3, h4⟩
theorem PaS.turn (h : PaS w A n c N g gr ge gC X V Vp Vq po pp pd e1 s W) (hb : Blk W' gC 25 X') (hg : W.grownBy W' (some gC)) : PaS w A n c N g gr ge gC X' V Vp Vq po pp pd e1 s W' := by
 have h1 := h.l1; have h2 := h.l2; have h3 := h.l3; have h4 := h.l4
 have ne : ∀ q, q ≠ gC → some q ≠ some gC := fun q hq e => hq (Option.some.inj e)
 exact ⟨h.r.other hg (fun b hb => by have := Option.some.inj hb; exact ⟨fun e => by omega, fun h9 => by omega⟩), h.x.grown hg h.x.size (fun b hb => by have := Option.some.inj hb; omega), h.b.grown hg (ne _ (by omega)), h.nn.grown hg (ne _ (by omega)), h.z.grown hg (ne _ (by omega)), h.k.grown hg (ne _ (by omega)), h.v.grown hg (ne _ (by omega)), hb, h.o.off hg (by omega), h.p.off hg (by omega), h.q.off hg (by omega), h1, h2, h3, h4⟩
theorem PaS.deep (h : PaS w A n c N g gr ge gC X V Vp Vq po pp pd e1 s W) (hb : Below W.heap.size W W') : PaS w A n c N g gr ge gC X V Vp Vq po pp pd e1 s W' :=
 ⟨h.r.below hb, below_step h.x hb, h.b.through hb, h.nn.through hb, h.z.through hb, h.k.through hb, h.v.through hb, h.cc.through hb, h.o.through hb, h.p.through hb, h.q.through hb, h.l1, h.l2, h.l3, h.l4⟩
theorem PaS.setO {V' : Pl} {po' : List Po} (h : PaS w A n c N g gr ge gC X V Vp Vq po pp pd e1 s W) (ho : OPo W (gC + 1) (.slice V'.1 V'.2.1 V'.2.2) po') : PaS w A n c N g gr ge gC X V' Vp Vq po' pp pd e1 s W :=
 ⟨h.r, h.x, h.b, h.nn, h.z, h.k, h.v, h.cc, ho, h.p, h.q, h.l1, h.l2, h.l3, h.l4⟩
theorem PaS.setP {V' : Pl} {pp' : List Pf} (h : PaS w A n c N g gr ge gC X V Vp Vq po pp pd e1 s W) (ho : OPf W (gC + 1) (.slice V'.1 V'.2.1 V'.2.2) pp') : PaS w A n c N g gr ge gC X V V' Vq po pp' pd e1 s W :=
 ⟨h.r, h.x, h.b, h.nn, h.z, h.k, h.v, h.cc, h.o, ho, h.q, h.l1, h.l2, h.l3, h.l4⟩
theorem PaS.setQ {V' : Pl} {pd' : List Pf} (h : PaS w A n c N g gr ge gC X V Vp Vq po pp pd e1 s W) (ho : OPf W (gC + 1) (.slice V'.1 V'.2.1 V'.2.2) pd') : PaS w A n c N g gr ge gC X V Vp V' po pp pd' e1 s W :=
 ⟨h.r, h.x, h.b, h.nn, h.z, h.k, h.v, h.cc, h.o, h.p, ho, h.l1, h.l2, h.l3, h.l4⟩
theorem PaS.cl (h : PaS w A n c N g gr ge gC X V Vp Vq po pp pd e1 s W) : gC + 1 ≤ W.heap.size := Nat.succ_le_of_lt h.cc.lt
end
theorem Try.alloc_ch (w : World) : (Instr.alloc 25 true (.tuple #[])).run Try.prog w = .ok (.pointer (some ⟨w.heap.size, 0, none⟩)) (w.alloc (.cells [.int .i64 0, .int .i64 0, .slice none 0 0, .slice none 0 0, .slice none 0 0].toArray 25)) := by kernel_rfl
/-- reading points, told by the state -/
theorem paO {w W : World} {A : Option Addr} {n c : Nat} {N : Int} {g gr ge gC : Nat} {X : List Value} {V Vp Vq : Pl} {po : List Po} {pp pd : List Pf} {e1 : Int} {s : Option (List UInt8)} (h : PaS w A n c N g gr ge gC X V Vp Vq po pp pd e1 s W) :
  Calls Try.prog 51 #[(.pointer (some ⟨g, 0, none⟩)), .int .i64 4, .func (.func 49) #[] #[.pointer (some ⟨gr, 0, none⟩)]] W fun e w' => ∃ (B : Option Addr) (m d : Nat), e = .returned (.slice B m d) ∧ PaS w A n c N g gr ge gC X (B, m, d) Vp Vq (pgPos s).1 pp pd e1 (pgPos s).2 w' :=
 (rowpord_any g gr s W h.r (fun b hb => Nat.lt_trans hb h.k.lt) h.k (by have := h.l2; omega)).mono fun e w' ⟨B, m, d, he, ho, hr, hg⟩ =>
  ⟨B, m, d, he, (h.tw ((Tw.refl g ge W).grown hg) hr (h.v.grown hg (fun e => by have := Option.some.inj e; have := h.l2; have := h.l3; omega))).setO (ho.weak h.cl)⟩
theorem paP {w W : World} {A : Option Addr} {n c : Nat} {N : Int} {g gr ge gC : Nat} {X : List Value} {V Vp Vq : Pl} {po : List Po} {pp pd : List Pf} {e1 : Int} {s : Option (List UInt8)} (most : Nat) (hm : most ≤ 64) (hl : stL s ≤ 1000000) (h : PaS w A n c N g gr ge gC X V Vp Vq po pp pd e1 s W) :
  Calls Try.prog 52 #[(.pointer (some ⟨g, 0, none⟩)), .int .i64 (most : Int), .func (.func 45) #[] #[.pointer (some ⟨gr, 0, none⟩), .pointer (some ⟨w.heap.size, 0, none⟩), .pointer (some ⟨w.heap.size + 1, 0, none⟩), .pointer (some ⟨ge, 0, none⟩)]] W fun e w' => ∃ (B : Option Addr) (m d : Nat) (e2 : Int), e = .returned (.slice B m d) ∧ OPf w' (gC + 1) (.slice B m d) ((pgPfs n most N s).1.map (·.1)) ∧ (e2 = 0 ↔ e1 = 0 ∧ (pgPfs n most N s).1.all (·.2) = true) ∧ PaS w A n c N g gr ge gC X V Vp Vq po pp pd e2 (pgPfs n most N s).2 w' := by
 have h1 := h.l1; have h2 := h.l2; have h3 := h.l3; have h4 := h.l4
 refine (rowpfrd_any g gr w.heap.size (w.heap.size + 1) ge n most A c N e1 s W h.r (fun b hb => Nat.lt_trans hb h.k.lt) (by omega) h.k h.b h.nn h.v ⟨by omega, by omega⟩ ⟨by omega, by omega⟩ ⟨by omega, by omega⟩ (by omega) hl hm).mono fun e w' ⟨B, m, d, he, ho, hr, ⟨e2, hv, hq⟩, ht⟩ => ?_
 exact ⟨B, m, d, e2, he, ho.weak h.cl, hq, h.tw ht hr hv⟩

theorem parseG_lt {row : List UInt8} (n : Int) (h : row.length ≤ 1000000) : ∀ y ∈ (parseG row n).1, y.co.lt.length ≤ 1000000 := by
 rw [parseG_eq (m := 1048576) n (by omega)]
 unfold parseB finB
 intro y hy
 split at hy
 ·split at hy
  ·exact (docR_lt 1048576 1000000 _ true [] _ (fun _ h9 => nomatch h9) (Nat.le_trans (nnext_stL _ _) (by simp only [stL]; exact h)) y hy).1
  ·cases hy
 ·cases hy
theorem pgPfs_lt {M m : Nat} (n : Int) {st : Option (List UInt8)} (h : stL st ≤ 1000000) : ∀ p ∈ (pgPfs M m n st).1.map (·.1), ∀ y ∈ p.es, y.co.lt.length ≤ 1000000 := by
 have h1 : stL (cnext m st) ≤ 1000000 := Nat.le_trans (cnext_stL_ _ _) h
 unfold pgPfs
 generalize cval m st = k
 generalize cnext m st = s at h1
 have hq : ∀ (k : Nat) (s : Option (List UInt8)), stL s ≤ 1000000 → ∀ q ∈ (rdAll (pgPf M n) k s).1, ∀ y ∈ q.1.es, y.co.lt.length ≤ 1000000 := fun k => by
  induction k with
  | zero => intro s _ q hq; cases hq
  | succ k ih =>
   intro s hs q hq
   simp only [rdAll] at hq
   rcases List.mem_cons.1 hq with rfl | hq
   ·exact parseG_lt n (Nat.le_trans (rval_stL _ _) (Nat.le_trans (nnext_stL _ _) (Nat.le_trans (nnext_stL _ _) hs)))
   ·exact ih _ (Nat.le_trans (rnext_stL _ _) (Nat.le_trans (nnext_stL _ _) (Nat.le_trans (nnext_stL _ _) hs))) q hq
 intro p hp
 obtain ⟨q, hq1, rfl⟩ := List.mem_map.1 hp
 exact hq k s h1 q hq1

set_option maxHeartbeats 16000000 in
set_option maxRecDepth 100000 in
theorem parse18_own (xs : List UInt8) (N : Int) (A : Option Addr) (n c : Nat) (w : World) (h : By w (fun _ => True) A n xs) (hn : n ≤ 1000000) :
  Calls Try.prog 14 #[.slice A n c, .int .i64 N] w (ChOutO w (parseCh xs N).1 (parseCh xs N).2) := by
 have hmf : ∀ (fn : Fn) (first cap : Array Value) (w : World), (Instr.makeFunc fn first cap).run Try.prog w = .ok (.func fn first cap) w := fun _ _ _ _ => rfl
 have hxl : xs.length = n := h.len
 rw [← pgParse_eq N (by omega)]
 obtain ⟨P, hPP⟩ : ∃ P, pgParse xs N = P := ⟨_, rfl⟩
 rw [hPP]
 have HB0 : Hid (Blk (((w.alloc (.cells #[.slice A n c] 28)).alloc (.cells #[.int .i64 N] 3)).alloc (.cells #[.int .i64 0, .int .i64 0, .slice none 0 0, .slice none 0 0, .slice none 0 0] 25)) w.heap.size 28 [.slice A n c]) := Lib.hid (((Blk.fresh rfl rfl : Blk (w.alloc (.cells #[.slice A n c] 28)) w.heap.size 28 [.slice A n c]).alloc _).alloc _)
 have HN0 : Hid (Blk (((w.alloc (.cells #[.slice A n c] 28)).alloc (.cells #[.int .i64 N] 3)).alloc (.cells #[.int .i64 0, .int .i64 0, .slice none 0 0, .slice none 0 0, .slice none 0 0] 25)) (w.heap.size + 1) 3 [.int .i64 N]) := Lib.hid ((Blk.fresh (by simp) rfl : Blk ((w.alloc (.cells #[.slice A n c] 28)).alloc (.cells #[.int .i64 N] 3)) (w.heap.size + 1) 3 [.int .i64 N]).alloc _)
 have HZ0 : Hid (Blk (((w.alloc (.cells #[.slice A n c] 28)).alloc (.cells #[.int .i64 N] 3)).alloc (.cells #[.int .i64 0, .int .i64 0, .slice none 0 0, .slice none 0 0, .slice none 0 0] 25)) (w.heap.size + 2) 25 [.int .i64 0, .int .i64 0, .slice none 0 0, .slice none 0 0, .slice none 0 0]) := Lib.hid (Blk.fresh (by simp) rfl)
 have HX0 : Hid (Below w.heap.size w (((w.alloc (.cells #[.slice A n c] 28)).alloc (.cells #[.int .i64 N] 3)).alloc (.cells #[.int .i64 0, .int .i64 0, .slice none 0 0, .slice none 0 0, .slice none 0 0] 25))) := Lib.hid (((below1_ w _).alloc (below1_ w _).size _).alloc ((below1_ w _).alloc (below1_ w _).size _).size _)
 obtain ⟨bn, hbn⟩ : ∃ b, badN N = b := ⟨_, rfl⟩
 have HSz : Hid (∀ W : World, Calls Try.prog 39 #[.int .i64 N] W fun e w' => e = .returned (.bool (!bn)) ∧ w' = W) := Lib.hid (fun W => hbn ▸ csize_any N W)
 have j0 := HB0.out.cellAt (i := 0) rfl
 have j1 := HN0.out.cellAt (i := 0) rfl
 cases bn with
 | true =>
  have hP : P = (Ch.no, 1) := by rw [← hPP]; unfold pgParse; rw [if_pos hbn]
  subst hP
  clear hPP h hn hbn hxl
  go_enter Try.func14, Try.ntmps14
  go_wp2_with (first
   | (go_at_call 39; (with_reducible refine (HSz.out _).mono ?_); rintro e ws ⟨rfl, rfl⟩)
   | (refine wpList_store_blk rfl 25 (.tmp 4) (.tmp 14) rfl (w.heap.size + 2) [.int .i64 0, .int .i64 0, .slice none 0 0, .slice none 0 0, .slice none 0 0] rfl rfl 25 [.int .i64 0, .int .i64 0, .slice none 0 0, .slice none 0 0, .slice none 0 0] HZ0.out (by kernel_rfl) rfl (one5c _ _ _ _ _ _ _ _ _ _ _) ?_; intro wy hby hgy; have HBy := Lib.hid hby; have HXy : Hid (Below w.heap.size w wy) := Lib.hid (HX0.out.grown hgy HX0.out.size (fun b hb => by have := Option.some.inj hb; omega)); clear hby hgy))
  (try simp only [Exit.inBlock, Exit.then]); refine bodyPost_ret (results_cell_row_tmp1 rfl _ _ (w.heap.size + 2) 25 _ (0, 0) _ rfl HBy.out Try.underlying25 rfl (by kernel_rfl)) rfl ?_
  exact ⟨(none, 0, 0), (none, 0, 0), (none, 0, 0), rfl, ChOwn.no_ _ _, HXy.out⟩
 | false =>
 have hPf : P = finCh (pgCh n N (some xs)) N := by rw [← hPP]; unfold pgParse; rw [if_neg (by simp [hbn]), hxl]
 have HRd0 : Hid (Calls Try.prog 44 #[.slice A n c] (((w.alloc (.cells #[.slice A n c] 28)).alloc (.cells #[.int .i64 N] 3)).alloc (.cells #[.int .i64 0, .int .i64 0, .slice none 0 0, .slice none 0 0, .slice none 0 0] 25)) fun e w' => ∃ g, e = .returned (.pointer (some ⟨g, 0, none⟩)) ∧ Rs (fun b => (((w.alloc (.cells #[.slice A n c] 28)).alloc (.cells #[.int .i64 N] 3)).alloc (.cells #[.int .i64 0, .int .i64 0, .slice none 0 0, .slice none 0 0, .slice none 0 0] 25)).heap.size ≤ b) w' g tR (some xs) ∧ Below (((w.alloc (.cells #[.slice A n c] 28)).alloc (.cells #[.int .i64 N] 3)).alloc (.cells #[.int .i64 0, .int .i64 0, .slice none 0 0, .slice none 0 0, .slice none 0 0] 25)).heap.size (((w.alloc (.cells #[.slice A n c] 28)).alloc (.cells #[.int .i64 N] 3)).alloc (.cells #[.int .i64 0, .int .i64 0, .slice none 0 0, .slice none 0 0, .slice none 0 0] 25)) w' ∧ (((w.alloc (.cells #[.slice A n c] 28)).alloc (.cells #[.int .i64 N] 3)).alloc (.cells #[.int .i64 0, .int .i64 0, .slice none 0 0, .slice none 0 0, .slice none 0 0] 25)).heap.size ≤ g) := Lib.hid (read_rs (h.through HX0.out) (by omega))
 have HM_1 : Hid (∀ (Q : Nat → Prop) (g : Nat) (W : World), Rs Q W g tR (some xs) → Calls Try.prog 46 #[(.pointer (some ⟨g, 0, none⟩))] W fun e w' => e = .returned (.int .i64 (sx 8 (nval 8 (some xs)))) ∧ Rs Q w' g tR (nnext 8 (some xs)) ∧ W.grownBy w' (some g)) := Lib.hid (fun Q g W h9 => cnum_any h9)
 have HM_2 : Hid (∀ (Q : Nat → Prop) (g : Nat) (W : World), Rs Q W g tR (nnext 8 (some xs)) → Calls Try.prog 46 #[(.pointer (some ⟨g, 0, none⟩))] W fun e w' => e = .returned (.int .i64 (sx 8 (nval 8 (nnext 8 (some xs))))) ∧ Rs Q w' g tR (nnext 8 (nnext 8 (some xs))) ∧ W.grownBy w' (some g)) := Lib.hid (fun Q g W h9 => cnum_any h9)
 have hs2 : stL (nnext 8 (nnext 8 (some xs))) ≤ 1000000 := Nat.le_trans (nnext_stL _ _) (Nat.le_trans (nnext_stL _ _) (by simp only [stL]; omega))
 unfold pgCh at hPf
 generalize sx 8 (nval 8 (some xs)) = v1 at *
 generalize nnext 8 (some xs) = s1 at *
 generalize sx 8 (nval 8 s1) = v2 at *
 generalize nnext 8 s1 = s2 at *
 have hs3 : stL (pgPos s2).2 ≤ 1000000 := by rw [(pgPos_rd s2).1]; exact Nat.le_trans (rdMany_stLp rdPo_stLp _ _) (Nat.le_trans (cnext_stL_ _ _) hs2)
 have hs4 : ∀ s, stL s ≤ 1000000 → stL (pgPfs n 8 N s).2 ≤ 1000000 := fun s hs => by
  unfold pgPfs
  exact Nat.le_trans (rdAll_stLp (fun s => Nat.le_trans (rnext_stL _ _) (Nat.le_trans (nnext_stL _ _) (nnext_stL _ _))) _ _) (Nat.le_trans (cnext_stL_ _ _) hs)
 have HRa : Hid (∀ (g gr ge gC : Nat) (X : List Value) (V Vp Vq : Pl) {po : List Po} {pp pd : List Pf} {e1 : Int} {W : World}, PaS w A n c N g gr ge gC X V Vp Vq po pp pd e1 s2 W → Calls Try.prog 51 #[(.pointer (some ⟨g, 0, none⟩)), .int .i64 4, .func (.func 49) #[] #[.pointer (some ⟨gr, 0, none⟩)]] W fun e w' => ∃ (B : Option Addr) (m d : Nat), e = .returned (.slice B m d) ∧ PaS w A n c N g gr ge gC X (B, m, d) Vp Vq (pgPos s2).1 pp pd e1 (pgPos s2).2 w') := Lib.hid (fun g gr ge gC X V Vp Vq po pp pd e1 W h9 => paO h9)
 generalize (pgPos s2).1 = po at *
 generalize (pgPos s2).2 = s3 at *
 have hp1 := pgPfs_lt (M := n) (m := 8) N hs3
 have HRb : Hid (∀ (g gr ge gC : Nat) (X : List Value) (V Vp Vq : Pl) (e1 : Int) {po : List Po} {pp pd : List Pf} {W : World}, PaS w A n c N g gr ge gC X V Vp Vq po pp pd e1 s3 W → Calls Try.prog 52 #[(.pointer (some ⟨g, 0, none⟩)), .int .i64 8, .func (.func 45) #[] #[.pointer (some ⟨gr, 0, none⟩), .pointer (some ⟨w.heap.size, 0, none⟩), .pointer (some ⟨w.heap.size + 1, 0, none⟩), .pointer (some ⟨ge, 0, none⟩)]] W fun e w' => ∃ (B : Option Addr) (m d : Nat) (e2 : Int), e = .returned (.slice B m d) ∧ OPf w' (gC + 1) (.slice B m d) ((pgPfs n 8 N s3).1.map (·.1)) ∧ (e2 = 0 ↔ e1 = 0 ∧ (pgPfs n 8 N s3).1.all (·.2) = true) ∧ PaS w A n c N g gr ge gC X V Vp Vq po pp pd e2 (pgPfs n 8 N s3).2 w') := Lib.hid (fun g gr ge gC X V Vp Vq e1 po pp pd W h9 => paP 8 (by omega) hs3 h9)
 have hs5 := hs4 s3 hs3
 generalize (pgPfs n 8 N s3).1.map (·.1) = pp at *
 generalize (pgPfs n 8 N s3).1.all (·.2) = f1 at *
 generalize (pgPfs n 8 N s3).2 = s4 at *
 have HRc : Hid (∀ (g gr ge gC : Nat) (X : List Value) (V Vp Vq : Pl) (e1 : Int) {po : List Po} {pp pd : List Pf} {W : World}, PaS w A n c N g gr ge gC X V Vp Vq po pp pd e1 s4 W → Calls Try.prog 52 #[(.pointer (some ⟨g, 0, none⟩)), .int .i64 64, .func (.func 45) #[] #[.pointer (some ⟨gr, 0, none⟩), .pointer (some ⟨w.heap.size, 0, none⟩), .pointer (some ⟨w.heap.size + 1, 0, none⟩), .pointer (some ⟨ge, 0, none⟩)]] W fun e w' => ∃ (B : Option Addr) (m d : Nat) (e2 : Int), e = .returned (.slice B m d) ∧ OPf w' (gC + 1) (.slice B m d) ((pgPfs n 64 N s4).1.map (·.1)) ∧ (e2 = 0 ↔ e1 = 0 ∧ (pgPfs n 64 N s4).1.all (·.2) = true) ∧ PaS w A n c N g gr ge gC X V Vp Vq po pp pd e2 (pgPfs n 64 N s4).2 w') := Lib.hid (fun g gr ge gC X V Vp Vq e1 po pp pd W h9 => paP 64 (by omega) hs5 h9)
 have hp2 := pgPfs_lt (M := n) (m := 64) N hs5
 generalize (pgPfs n 64 N s4).1.map (·.1) = pd at *
 generalize (pgPfs n 64 N s4).1.all (·.2) = f2 at *
 generalize (pgPfs n 64 N s4).2 = s5 at *
 have HEn : Hid (∀ {Q : Nat → Prop} {g : Nat} (W : World), Rs Q W g tR s5 → Calls Try.prog 53 #[(.pointer (some ⟨g, 0, none⟩))] W fun e w' => ∃ x, e = .returned (.int .i64 x) ∧ (x = 0 ↔ s5 = some []) ∧ W = w') := Lib.hid (fun W h9 => end_rs h9)
 obtain ⟨rb, hrb⟩ : ∃ b, rightB (⟨v1, v2, po, pp, pd⟩ : Ch) N = b := ⟨_, rfl⟩
 have HIc : Hid (∀ (B5 : Option Addr) (m5 d5 : Nat) (B7 : Option Addr) (m7 d7 : Nat) (B9 : Option Addr) (m9 d9 : Nat) {B : Nat} {W : World}, OPo W B (.slice B5 m5 d5) po → OPf W B (.slice B7 m7 d7) pp → OPf W B (.slice B9 m9 d9) pd → Calls Try.prog 40 #[.agg #[.int .i64 v1, .int .i64 v2, .slice B5 m5 d5, .slice B7 m7 d7, .slice B9 m9 d9], .int .i64 N] W fun e w' => e = .returned (.bool rb) ∧ Below W.heap.size W w') := Lib.hid (fun B5 m5 d5 B7 m7 d7 B9 m9 d9 B W h1 h2 h3 => hrb ▸ ischange_any ⟨v1, v2, po, pp, pd⟩ (B5, m5, d5) (B7, m7, d7) (B9, m9, d9) N W (chin_of (V := (B5, m5, d5)) (Vp := (B7, m7, d7)) (Vq := (B9, m9, d9)) h1 h2 h3) hp1 hp2)
 have HPf : Hid (P = finCh ((⟨v1, v2, po, pp, pd⟩ : Ch), f1 && f2, s5) N) := Lib.hid hPf
 have HRb_ := Lib.hid hrb
 have hb2 := fun (W : World) => Try.build_ch2 v1 v2 W
 have hb0 := fun (W : World) => Try.build_ch0 W
 clear hPP h hn hbn hxl hPf hs2 hs3 hs4 hs5 hp1 hp2 hrb
 go_enter Try.func14, Try.ntmps14
 go_upto_region 7 with (first
  | (go_at_call 39; (with_reducible refine (HSz.out _).mono ?_); rintro e ws ⟨rfl, rfl⟩)
  | (go_at_call 44; (with_reducible refine HRd0.out.mono ?_); rintro e w1 ⟨g, rfl, hr1, hb1, hg1⟩; have HR1 := Lib.hid hr1.lt_; have HL1 := Lib.hid hg1; have HX1 := Lib.hid (below_step HX0.out hb1); have HB1 := Lib.hid (HB0.out.through hb1); have HN1 := Lib.hid (HN0.out.through hb1); have HZ1 := Lib.hid (HZ0.out.through hb1); have HM1 := Lib.hid hr1.lt; obtain ⟨gr, hgr⟩ : ∃ gr, w1.heap.size = gr := ⟨_, rfl⟩; have HGr1 := Lib.hid hgr; clear hr1 hb1 hg1 hgr)
  | (refine wpList_store_cell rfl 73 (.tmp 6) (.tmp 16) rfl w1.heap.size 0 (by simp [Act.eval]) (.pointer (some ⟨g, 0, none⟩)) (by simp [Act.eval]) rfl rfl (fun w => by kernel_rfl) 73 [.pointer none] (Blk.fresh rfl rfl) (by simp) ?_; intro w2 hb2 hg2; have HK2 : Hid (Blk w2 w1.heap.size 73 [(.pointer (some ⟨g, 0, none⟩))]) := Lib.hid hb2; have HD2 := Lib.hid (below_new hg2); clear hb2 hg2)
  | (refine wpList_store_cell rfl 30 (.tmp 7) (.const (.int .i64 0)) rfl w2.heap.size 0 (by simp [Act.eval]) (.int .i64 0) (by simp [Act.eval]) rfl rfl (fun w => by kernel_rfl) 30 [.int .i64 0] (Blk.fresh rfl rfl) (by simp) ?_; intro w3 hb3 hg3; have HV3 : Hid (Blk w3 w2.heap.size 30 [.int .i64 0]) := Lib.hid hb3; have HD3 := Lib.hid (below_new hg3); clear hb3 hg3))
 have HGrx := HGr1
 have HG12 : Hid (w1.heap.size < w2.heap.size) := Lib.hid HK2.out.lt
 have HG23 : Hid (w2.heap.size < w3.heap.size) := Lib.hid HV3.out.lt
 have HK3 := Lib.hid (HK2.out.through HD3.out)
 have HD := Lib.hid (below_step HD2.out HD3.out)
 have HR3 := Lib.hid (HR1.out.below HD.out)
 have HX3 := Lib.hid (below_step HX1.out HD.out)
 have HB3 := Lib.hid (HB1.out.through HD.out)
 have HN3 := Lib.hid (HN1.out.through HD.out)
 have HZ3 := Lib.hid (HZ1.out.through HD.out)
 have hL1 : w.heap.size + 3 ≤ g := by have := HL1.out; simpa using this
 have HL3 := Lib.hid hL1
 clear hL1
 generalize w1.heap.size = gr at *
 generalize w2.heap.size = ge at *
 have HNm1 : Hid (∀ W : World, Rs (fun b => b < gr) W g tR (some xs) → Calls Try.prog 46 #[(.pointer (some ⟨g, 0, none⟩))] W fun e w' => e = .returned (.int .i64 v1) ∧ Rs (fun b => b < gr) w' g tR s1 ∧ W.grownBy w' (some g)) := Lib.hid (fun W => HM_1.out _ g W)
 have HNm2 : Hid (∀ W : World, Rs (fun b => b < gr) W g tR s1 → Calls Try.prog 46 #[(.pointer (some ⟨g, 0, none⟩))] W fun e w' => e = .returned (.int .i64 v2) ∧ Rs (fun b => b < gr) w' g tR s2 ∧ W.grownBy w' (some g)) := Lib.hid (fun W => HM_2.out _ g W)
 have HGr := HK3
 have HNR : Hid (gr ≠ g) := Lib.hid (by have := HM1.out; omega)
 have HRd := Lib.hid HR3.out.drew
 have hbp := hb2
 have HQ : Hid (∀ b, (fun b => b < gr) b → b < w3.heap.size) := Lib.hid (fun b h9 => by have h8 : b < gr := h9; have := HG12.out; have := HG23.out; omega)
 have HLT : Hid (g < w3.heap.size) := Lib.hid (by have := HM1.out; have := HG12.out; have := HG23.out; omega)
 go_cut [10] from 19 to 23 (fun v wx => ∃ gC : Nat, v = .pointer (some ⟨gC, 0, none⟩) ∧ Blk wx gC 25 [.int .i64 v1, .int .i64 v2, .slice none 0 0, .slice none 0 0, .slice none 0 0] ∧ Rs (fun b => b < gr) wx g tR s2 ∧ w3.heap.size ≤ gC ∧ w3.grownBy wx (some g))
 case first =>
  refine wp_region_held_drew (S := fun W => w3.grownBy W (some g)) (by kernel_rfl) (only_below (Below.refl _ w3).drew) (fun hHeld => ?_)
  change wpAnyH _ _ _ _ _ _ #[false, false, false, false, false, false, false] _ _
  refine tkq (i := 0) (d := 19) (v := (.pointer (some ⟨g, 0, none⟩))) rfl rfl (yields_load_at (by kernel_rfl) 73 (.tmp 6) rfl (.pointer (some ⟨gr, 0, none⟩)) (by simp [Act.eval]) (.pointer (some ⟨g, 0, none⟩)) (fun W hW => load_one' (Try.cagg_prd W) ((HGr.out.grown hW (fun e => HNR.out (Option.some.inj e))).cellAt (i := 0) rfl))) (by assumption) ?_
  simp only [Act.put, sq1, sq2, sq3]
  refine tkq (i := 2) (d := 21) (v := (.pointer (some ⟨g, 0, none⟩))) rfl rfl (yields_load_at (by kernel_rfl) 73 (.tmp 6) rfl (.pointer (some ⟨gr, 0, none⟩)) (by simp [Act.eval]) (.pointer (some ⟨g, 0, none⟩)) (fun W hW => load_one' (Try.cagg_prd W) ((HGr.out.grown hW (fun e => HNR.out (Option.some.inj e))).cellAt (i := 0) rfl))) (by assumption) ?_
  simp only [Act.put, sq1, sq2, sq3]
  refine wpAnyH_ready (rs := [1, 5]) (by kernel_rfl) (by simp) ?_
  refine AllReadyH.cons rfl (fun K hK => ?_) (AllReadyH.cons (o := ⟨some 10, .alloc 25, _, _, _, none⟩) rfl (fun K hK => ?_) AllReadyH.nil)
  ·as_aux_lemma =>
   go_simp
   refine ((HNm1.out _ HRd.out)).mono ?_
   rintro e wqc ⟨rfl, hr, hg⟩; have HRqc := Lib.hid hr; have HGqc := Lib.hid (only_trans hHeld hg); clear hr hg
   go_wp2_with fail
   refine hK.out _ _ HGqc.out (fun hHeld1 => ?_)
   clear hHeld hK K
   have hHeld := hHeld1
   clear hHeld1
   refine wpAnyH_ready (rs := [3, 5]) (by kernel_rfl) (by simp) ?_
   refine AllReadyH.cons rfl (fun K hK => ?_) (AllReadyH.cons (o := ⟨some 10, .alloc 25, _, _, _, none⟩) rfl (fun K hK => ?_) AllReadyH.nil)
   ·as_aux_lemma =>
    go_simp
    refine ((HNm2.out _ HRqc.out)).mono ?_
    rintro e wqcc ⟨rfl, hr, hg⟩; have HRqcc := Lib.hid hr; have HGqcc := Lib.hid (only_trans hHeld hg); clear hr hg
    go_wp2_with fail
    refine hK.out _ _ HGqcc.out (fun hHeld1 => ?_)
    clear hHeld hK K
    have hHeld := hHeld1
    clear hHeld1
    refine tkq (i := 4) (d := 23) (v := (.agg #[.int .i64 v1, .int .i64 v2, .slice none 0 0, .slice none 0 0, .slice none 0 0])) rfl rfl (yields_build (by kernel_rfl) 25 #[(0, .tmp 20), (1, .tmp 22)] rfl #[(0, .int .i64 v1), (1, .int .i64 v2)] (by simp [Act.eval]) (.agg #[.int .i64 v1, .int .i64 v2, .slice none 0 0, .slice none 0 0, .slice none 0 0]) (fun W _ => hbp W)) (by assumption) ?_
    simp only [Act.put, sq1, sq2, sq3]
    refine wpAnyH_ready (rs := [5]) (by kernel_rfl) (by simp) ?_
    refine AllReadyH.cons (o := ⟨some 10, .alloc 25, _, _, _, none⟩) rfl (fun K hK => ?_) AllReadyH.nil
    refine step_alloc_lg rfl rfl (Try.alloc_ch _) ?_; intro gz wqcca hz hb hx; have HZ : Hid (w3.heap.size ≤ gz) := Lib.hid (Nat.le_trans hHeld.size hz); have HBqcca := Lib.hid hb; have HRqcca := Lib.hid (HRqcc.out.below hx); have HGqcca := Lib.hid (only_trans hHeld (only_below hx)); clear hz hb hx
    refine hK.out _ _ HGqcca.out (fun hHeld1 => ?_)
    clear hHeld hK K
    have hHeld := hHeld1
    clear hHeld1
    change wpAnyH _ _ _ _ _ _ _ (Act.put _ (some (10 : Nat)) (.pointer (some ⟨gz, 0, none⟩))) _
    simp only [Act.put, sq1, sq2, sq3]
    refine wpAnyH_ready (rs := [6]) (by kernel_rfl) (by simp) ?_
    refine AllReadyH.cons (o := ⟨none, .store 25 (.tmp 10) (.tmp 23), _, _, _, none⟩) rfl (fun K hK => ?_) AllReadyH.nil
    refine step_store_blk rfl 25 (.tmp 10) (.tmp 23) rfl gz [.int .i64 v1, .int .i64 v2, .slice none 0 0, .slice none 0 0, .slice none 0 0] (by simp [Act.eval]) (by simp [Act.eval]) 25 [.int .i64 0, .int .i64 0, .slice none 0 0, .slice none 0 0, .slice none 0 0] HBqcca.out (by kernel_rfl) rfl (one5c _ _ _ _ _ _ _ _ _ _ _) ?_; intro wy hby hgy; have HBy := Lib.hid hby; have HRy := Lib.hid (HRqcca.out.other hgy (fun b hb => ⟨fun e => by have := Option.some.inj hb; have := HZ.out; have := HLT.out; omega, fun h9 => by have := HQ.out b h9; have := Option.some.inj hb; have := HZ.out; omega⟩)); have HGy := Lib.hid (only_own_ hHeld hgy (fun h e => by have := Option.some.inj e; have := HZ.out; omega)); clear hby hgy
    refine hK.out _ _ HGy.out (fun hHeld1 => ?_)
    clear hHeld hK K
    have hHeld := hHeld1
    clear hHeld1
    change wpAnyH _ _ _ _ _ _ _ (Act.put _ none undef) _
    simp only [Act.put]
    refine wpAnyH_done (by kernel_rfl) ?_ _
    clear hHeld
    go_wp2
    go_meet
    case rel => exact ⟨gz, rfl, HBy.out, HRy.out, HZ.out, HGy.out⟩
   ·as_aux_lemma =>
    refine step_alloc_lg rfl rfl (Try.alloc_ch _) ?_; intro gz wqca hz hb hx; have HZ : Hid (w3.heap.size ≤ gz) := Lib.hid (Nat.le_trans hHeld.size hz); have HBqca := Lib.hid hb; have HRqca := Lib.hid (HRqc.out.below hx); have HGqca := Lib.hid (only_trans hHeld (only_below hx)); clear hz hb hx
    refine hK.out _ _ HGqca.out (fun hHeld1 => ?_)
    clear hHeld hK K
    have hHeld := hHeld1
    clear hHeld1
    change wpAnyH _ _ _ _ _ _ _ (Act.put _ (some (10 : Nat)) (.pointer (some ⟨gz, 0, none⟩))) _
    simp only [Act.put, sq1, sq2, sq3]
    refine wpAnyH_ready (rs := [3]) (by kernel_rfl) (by simp) ?_
    refine AllReadyH.cons rfl (fun K hK => ?_) AllReadyH.nil
    go_simp
    refine ((HNm2.out _ HRqca.out)).mono ?_
    rintro e wqcac ⟨rfl, hr, hg⟩; have HRqcac := Lib.hid hr; have HGqcac := Lib.hid (only_trans hHeld hg); have HBqcac := Lib.hid (HBqca.out.grown hg (fun e => by have := Option.some.inj e; have := HZ.out; have := HLT.out; omega)); clear hr hg
    go_wp2_with fail
    refine hK.out _ _ HGqcac.out (fun hHeld1 => ?_)
    clear hHeld hK K
    have hHeld := hHeld1
    clear hHeld1
    refine tkq (i := 4) (d := 23) (v := (.agg #[.int .i64 v1, .int .i64 v2, .slice none 0 0, .slice none 0 0, .slice none 0 0])) rfl rfl (yields_build (by kernel_rfl) 25 #[(0, .tmp 20), (1, .tmp 22)] rfl #[(0, .int .i64 v1), (1, .int .i64 v2)] (by simp [Act.eval]) (.agg #[.int .i64 v1, .int .i64 v2, .slice none 0 0, .slice none 0 0, .slice none 0 0]) (fun W _ => hbp W)) (by assumption) ?_
    simp only [Act.put, sq1, sq2, sq3]
    refine wpAnyH_ready (rs := [6]) (by kernel_rfl) (by simp) ?_
    refine AllReadyH.cons (o := ⟨none, .store 25 (.tmp 10) (.tmp 23), _, _, _, none⟩) rfl (fun K hK => ?_) AllReadyH.nil
    refine step_store_blk rfl 25 (.tmp 10) (.tmp 23) rfl gz [.int .i64 v1, .int .i64 v2, .slice none 0 0, .slice none 0 0, .slice none 0 0] (by simp [Act.eval]) (by simp [Act.eval]) 25 [.int .i64 0, .int .i64 0, .slice none 0 0, .slice none 0 0, .slice none 0 0] HBqcac.out (by kernel_rfl) rfl (one5c _ _ _ _ _ _ _ _ _ _ _) ?_; intro wy hby hgy; have HBy := Lib.hid hby; have HRy := Lib.hid (HRqcac.out.other hgy (fun b hb => ⟨fun e => by have := Option.some.inj hb; have := HZ.out; have := HLT.out; omega, fun h9 => by have := HQ.out b h9; have := Option.some.inj hb; have := HZ.out; omega⟩)); have HGy := Lib.hid (only_own_ hHeld hgy (fun h e => by have := Option.some.inj e; have := HZ.out; omega)); clear hby hgy
    refine hK.out _ _ HGy.out (fun hHeld1 => ?_)
    clear hHeld hK K
    have hHeld := hHeld1
    clear hHeld1
    change wpAnyH _ _ _ _ _ _ _ (Act.put _ none undef) _
    simp only [Act.put]
    refine wpAnyH_done (by kernel_rfl) ?_ _
    clear hHeld
    go_wp2
    go_meet
    case rel => exact ⟨gz, rfl, HBy.out, HRy.out, HZ.out, HGy.out⟩
  ·as_aux_lemma =>
   refine step_alloc_lg rfl rfl (Try.alloc_ch _) ?_; intro gz wqa hz hb hx; have HZ : Hid (w3.heap.size ≤ gz) := Lib.hid (Nat.le_trans hHeld.size hz); have HBqa := Lib.hid hb; have HRqa := Lib.hid (HRd.out.below hx); have HGqa := Lib.hid (only_trans hHeld (only_below hx)); clear hz hb hx
   refine hK.out _ _ HGqa.out (fun hHeld1 => ?_)
   clear hHeld hK K
   have hHeld := hHeld1
   clear hHeld1
   change wpAnyH _ _ _ _ _ _ _ (Act.put _ (some (10 : Nat)) (.pointer (some ⟨gz, 0, none⟩))) _
   simp only [Act.put, sq1, sq2, sq3]
   refine wpAnyH_ready (rs := [1]) (by kernel_rfl) (by simp) ?_
   refine AllReadyH.cons rfl (fun K hK => ?_) AllReadyH.nil
   go_simp
   refine ((HNm1.out _ HRqa.out)).mono ?_
   rintro e wqac ⟨rfl, hr, hg⟩; have HRqac := Lib.hid hr; have HGqac := Lib.hid (only_trans hHeld hg); have HBqac := Lib.hid (HBqa.out.grown hg (fun e => by have := Option.some.inj e; have := HZ.out; have := HLT.out; omega)); clear hr hg
   go_wp2_with fail
   refine hK.out _ _ HGqac.out (fun hHeld1 => ?_)
   clear hHeld hK K
   have hHeld := hHeld1
   clear hHeld1
   refine wpAnyH_ready (rs := [3]) (by kernel_rfl) (by simp) ?_
   refine AllReadyH.cons rfl (fun K hK => ?_) AllReadyH.nil
   go_simp
   refine ((HNm2.out _ HRqac.out)).mono ?_
   rintro e wqacc ⟨rfl, hr, hg⟩; have HRqacc := Lib.hid hr; have HGqacc := Lib.hid (only_trans hHeld hg); have HBqacc := Lib.hid (HBqac.out.grown hg (fun e => by have := Option.some.inj e; have := HZ.out; have := HLT.out; omega)); clear hr hg
   go_wp2_with fail
   refine hK.out _ _ HGqacc.out (fun hHeld1 => ?_)
   clear hHeld hK K
   have hHeld := hHeld1
   clear hHeld1
   refine tkq (i := 4) (d := 23) (v := (.agg #[.int .i64 v1, .int .i64 v2, .slice none 0 0, .slice none 0 0, .slice none 0 0])) rfl rfl (yields_build (by kernel_rfl) 25 #[(0, .tmp 20), (1, .tmp 22)] rfl #[(0, .int .i64 v1), (1, .int .i64 v2)] (by simp [Act.eval]) (.agg #[.int .i64 v1, .int .i64 v2, .slice none 0 0, .slice none 0 0, .slice none 0 0]) (fun W _ => hbp W)) (by assumption) ?_
   simp only [Act.put, sq1, sq2, sq3]
   refine wpAnyH_ready (rs := [6]) (by kernel_rfl) (by simp) ?_
   refine AllReadyH.cons (o := ⟨none, .store 25 (.tmp 10) (.tmp 23), _, _, _, none⟩) rfl (fun K hK => ?_) AllReadyH.nil
   refine step_store_blk rfl 25 (.tmp 10) (.tmp 23) rfl gz [.int .i64 v1, .int .i64 v2, .slice none 0 0, .slice none 0 0, .slice none 0 0] (by simp [Act.eval]) (by simp [Act.eval]) 25 [.int .i64 0, .int .i64 0, .slice none 0 0, .slice none 0 0, .slice none 0 0] HBqacc.out (by kernel_rfl) rfl (one5c _ _ _ _ _ _ _ _ _ _ _) ?_; intro wy hby hgy; have HBy := Lib.hid hby; have HRy := Lib.hid (HRqacc.out.other hgy (fun b hb => ⟨fun e => by have := Option.some.inj hb; have := HZ.out; have := HLT.out; omega, fun h9 => by have := HQ.out b h9; have := Option.some.inj hb; have := HZ.out; omega⟩)); have HGy := Lib.hid (only_own_ hHeld hgy (fun h e => by have := Option.some.inj e; have := HZ.out; omega)); clear hby hgy
   refine hK.out _ _ HGy.out (fun hHeld1 => ?_)
   clear hHeld hK K
   have hHeld := hHeld1
   clear hHeld1
   change wpAnyH _ _ _ _ _ _ _ (Act.put _ none undef) _
   simp only [Act.put]
   refine wpAnyH_done (by kernel_rfl) ?_ _
   clear hHeld
   go_wp2
   go_meet
   case rel => exact ⟨gz, rfl, HBy.out, HRy.out, HZ.out, HGy.out⟩
 case rest =>
 obtain ⟨gC, rfl, hbc, hrc, hzc, hgc⟩ := hcut
 have ne : ∀ q, q ≠ g → some q ≠ some g := fun q hq e => hq (Option.some.inj e)
 have HP4 : Hid (PaS w A n c N g gr ge gC [.int .i64 v1, .int .i64 v2, .slice none 0 0, .slice none 0 0, .slice none 0 0] (none, 0, 0) (none, 0, 0) (none, 0, 0) [] [] [] 0 s2 wc) := Lib.hid (by
  have h1 := HL3.out; have h2 := HM1.out; have h3 := HG12.out; have h4 := HG23.out
  exact ⟨hrc, HX3.out.grown hgc HX3.out.size (fun b hb => by have := Option.some.inj hb; omega), HB3.out.grown hgc (ne _ (by omega)), HN3.out.grown hgc (ne _ (by omega)), HZ3.out.grown hgc (ne _ (by omega)), HK3.out.grown hgc (ne _ (by omega)), HV3.out.grown hgc (ne _ (by omega)), hbc, OPo.nil _ _, OPf.nil _ _, OPf.nil _ _, h1, h2, h3, by omega⟩)
 have k4 := HP4.out.k.cellAt (i := 0) rfl
 clear hbc hrc hzc hgc ne hb2 hbp
 by_cases hst : s5 = some []
 ·have HST := Lib.hid hst
  cases hfl : (f1 && f2) with
  | false =>
   have HFl := Lib.hid hfl
   have hP : P = (Ch.no, 2) := by rw [HPf.out]; unfold finCh; rw [if_neg]; rintro ⟨_, h9, _⟩; rw [hfl] at h9; cases h9
   subst hP
   clear hst hfl
   go_wp2_with (first
    | (go_at_call 51; (with_reducible refine (HRa.out _ _ _ _ _ _ _ _ HP4.out).mono ?_); rintro e w5 ⟨B5, m5, d5, rfl, hp5⟩; have HP5 := Lib.hid hp5; clear hp5 k4)
    | (refine wpList_store_cell rfl 22 (.tmp 27) (.tmp 26) rfl gC 2 (by simp [Act.eval]) (.slice B5 m5 d5) (by simp [Act.eval]) rfl rfl (fun w => by kernel_rfl) 25 [.int .i64 v1, .int .i64 v2, .slice none 0 0, .slice none 0 0, .slice none 0 0] HP5.out.cc (by simp) ?_; intro w6 hb6 hg6; have HP6 := Lib.hid (HP5.out.turn (X' := [.int .i64 v1, .int .i64 v2, .slice B5 m5 d5, .slice none 0 0, .slice none 0 0]) hb6 hg6); have k6 := HP6.out.k.cellAt (i := 0) rfl; clear hb6 hg6)
    | (go_at_call 52; (with_reducible refine (HRb.out _ _ _ _ _ _ _ _ _ HP6.out).mono ?_); rintro e w7 ⟨B7, m7, d7, e7, rfl, ho7, hq7, hp7⟩; have HO7 := Lib.hid ho7; have HQ7 := Lib.hid hq7; have HP7 := Lib.hid (PaS.setP (V' := ((B7, m7, d7) : Pl)) hp7 ho7); clear k6 ho7 hq7 hp7)
    | (refine wpList_store_cell rfl 23 (.tmp 31) (.tmp 30) rfl gC 3 (by simp [Act.eval]) (.slice B7 m7 d7) (by simp [Act.eval]) rfl rfl (fun w => by kernel_rfl) 25 [.int .i64 v1, .int .i64 v2, .slice B5 m5 d5, .slice none 0 0, .slice none 0 0] HP7.out.cc (by simp) ?_; intro w8 hb8 hg8; have HP8 := Lib.hid (HP7.out.turn (X' := [.int .i64 v1, .int .i64 v2, .slice B5 m5 d5, .slice B7 m7 d7, .slice none 0 0]) hb8 hg8); have k8 := HP8.out.k.cellAt (i := 0) rfl; clear hb8 hg8)
    | (go_at_call 52; (with_reducible refine (HRc.out _ _ _ _ _ _ _ _ _ HP8.out).mono ?_); rintro e w9 ⟨B9, m9, d9, e9, rfl, ho9, hq9, hp9⟩; have HQ9 := Lib.hid hq9; have HP9 := Lib.hid (PaS.setQ (V' := ((B9, m9, d9) : Pl)) hp9 ho9); clear k8 ho9 hq9 hp9)
    | (refine wpList_store_cell rfl 23 (.tmp 35) (.tmp 34) rfl gC 4 (by simp [Act.eval]) (.slice B9 m9 d9) (by simp [Act.eval]) rfl rfl (fun w => by kernel_rfl) 25 [.int .i64 v1, .int .i64 v2, .slice B5 m5 d5, .slice B7 m7 d7, .slice none 0 0] HP9.out.cc (by simp) ?_; intro wa hba hga; have HPa := Lib.hid (HP9.out.turn (X' := [.int .i64 v1, .int .i64 v2, .slice B5 m5 d5, .slice B7 m7 d7, .slice B9 m9 d9]) hba hga); have ka := HPa.out.k.cellAt (i := 0) rfl; have va := HPa.out.v.cellAt (i := 0) rfl; have na := HPa.out.nn.cellAt (i := 0) rfl; have hz9 : (e9 != 0) = true := (by rw [bne_iff_ne]; intro h6; obtain ⟨h5, h4⟩ := HQ9.out.1 h6; obtain ⟨_, h3⟩ := HQ7.out.1 h5; have h2 := HFl.out; rw [h3, h4] at h2; cases h2); clear hba hga)
    | (go_at_call 53; (with_reducible refine (HEn.out _ HPa.out.r).mono ?_); rintro e wE ⟨xe, rfl, hx, rfl⟩; have hxe : (xe != 0) = false := (by simpa using hx.2 HST.out); clear hx)
    | (refine wpList_store_blk rfl 25 (.tmp 4) (.tmp 49) rfl (w.heap.size + 2) [.int .i64 0, .int .i64 0, .slice none 0 0, .slice none 0 0, .slice none 0 0] rfl rfl 25 [.int .i64 0, .int .i64 0, .slice none 0 0, .slice none 0 0, .slice none 0 0] HPa.out.z (by kernel_rfl) rfl (one5c _ _ _ _ _ _ _ _ _ _ _) ?_; intro wy hby hgy; have HBy := Lib.hid hby; have HXy : Hid (Below w.heap.size w wy) := Lib.hid (HPa.out.x.grown hgy HPa.out.x.size (fun b hb => by have := Option.some.inj hb; omega)); clear hby hgy))
   (try simp only [Exit.inBlock, Exit.then]); refine bodyPost_ret (results_cell_row_tmp1 rfl _ _ (w.heap.size + 2) 25 _ (0, 0) _ rfl HBy.out Try.underlying25 rfl (by kernel_rfl)) rfl ?_
   exact ⟨(none, 0, 0), (none, 0, 0), (none, 0, 0), rfl, ChOwn.no_ _ _, HXy.out⟩
  | true =>
  have HFl := Lib.hid hfl
  cases rb with
  | false =>
   have hP : P = (Ch.no, 2) := by rw [HPf.out]; unfold finCh; rw [if_neg]; rintro ⟨_, _, h9⟩; rw [HRb_.out] at h9; cases h9
   subst hP
   clear hst hfl
   go_wp2_with (first
    | (go_at_call 51; (with_reducible refine (HRa.out _ _ _ _ _ _ _ _ HP4.out).mono ?_); rintro e w5 ⟨B5, m5, d5, rfl, hp5⟩; have HP5 := Lib.hid hp5; clear hp5 k4)
    | (refine wpList_store_cell rfl 22 (.tmp 27) (.tmp 26) rfl gC 2 (by simp [Act.eval]) (.slice B5 m5 d5) (by simp [Act.eval]) rfl rfl (fun w => by kernel_rfl) 25 [.int .i64 v1, .int .i64 v2, .slice none 0 0, .slice none 0 0, .slice none 0 0] HP5.out.cc (by simp) ?_; intro w6 hb6 hg6; have HP6 := Lib.hid (HP5.out.turn (X' := [.int .i64 v1, .int .i64 v2, .slice B5 m5 d5, .slice none 0 0, .slice none 0 0]) hb6 hg6); have k6 := HP6.out.k.cellAt (i := 0) rfl; clear hb6 hg6)
    | (go_at_call 52; (with_reducible refine (HRb.out _ _ _ _ _ _ _ _ _ HP6.out).mono ?_); rintro e w7 ⟨B7, m7, d7, e7, rfl, ho7, hq7, hp7⟩; have HO7 := Lib.hid ho7; have HQ7 := Lib.hid hq7; have HP7 := Lib.hid (PaS.setP (V' := ((B7, m7, d7) : Pl)) hp7 ho7); clear k6 ho7 hq7 hp7)
    | (refine wpList_store_cell rfl 23 (.tmp 31) (.tmp 30) rfl gC 3 (by simp [Act.eval]) (.slice B7 m7 d7) (by simp [Act.eval]) rfl rfl (fun w => by kernel_rfl) 25 [.int .i64 v1, .int .i64 v2, .slice B5 m5 d5, .slice none 0 0, .slice none 0 0] HP7.out.cc (by simp) ?_; intro w8 hb8 hg8; have HP8 := Lib.hid (HP7.out.turn (X' := [.int .i64 v1, .int .i64 v2, .slice B5 m5 d5, .slice B7 m7 d7, .slice none 0 0]) hb8 hg8); have k8 := HP8.out.k.cellAt (i := 0) rfl; clear hb8 hg8)
    | (go_at_call 52; (with_reducible refine (HRc.out _ _ _ _ _ _ _ _ _ HP8.out).mono ?_); rintro e w9 ⟨B9, m9, d9, e9, rfl, ho9, hq9, hp9⟩; have HQ9 := Lib.hid hq9; have HP9 := Lib.hid (PaS.setQ (V' := ((B9, m9, d9) : Pl)) hp9 ho9); clear k8 ho9 hq9 hp9)
    | (refine wpList_store_cell rfl 23 (.tmp 35) (.tmp 34) rfl gC 4 (by simp [Act.eval]) (.slice B9 m9 d9) (by simp [Act.eval]) rfl rfl (fun w => by kernel_rfl) 25 [.int .i64 v1, .int .i64 v2, .slice B5 m5 d5, .slice B7 m7 d7, .slice none 0 0] HP9.out.cc (by simp) ?_; intro wa hba hga; have HPa := Lib.hid (HP9.out.turn (X' := [.int .i64 v1, .int .i64 v2, .slice B5 m5 d5, .slice B7 m7 d7, .slice B9 m9 d9]) hba hga); have ka := HPa.out.k.cellAt (i := 0) rfl; have va := HPa.out.v.cellAt (i := 0) rfl; have na := HPa.out.nn.cellAt (i := 0) rfl; have hz9 : (e9 != 0) = false := (by have h2 := HFl.out; rw [Bool.and_eq_true] at h2; have h6 : e9 = 0 := HQ9.out.2 ⟨HQ7.out.2 ⟨by first | trivial | rfl, h2.1⟩, h2.2⟩; simpa using h6); clear hba hga)
    | (go_at_call 53; (with_reducible refine (HEn.out _ HPa.out.r).mono ?_); rintro e wE ⟨xe, rfl, hx, rfl⟩; have hxe : (xe != 0) = false := (by simpa using hx.2 HST.out); clear hx)
    | (refine wpList_load_blk_g 25 (.tmp 10) rfl (by kernel_rfl) gC rfl 25 [.int .i64 v1, .int .i64 v2, .slice B5 m5 d5, .slice B7 m7 d7, .slice B9 m9 d9] _ HPa.out.cc Try.underlying25 rfl (by kernel_rfl) ?_)
    | (go_at_call 40; (with_reducible refine (HIc.out _ _ _ _ _ _ _ _ _ HPa.out.o HPa.out.p HPa.out.q).mono ?_); rintro e wI ⟨rfl, hbI⟩; have HPI := Lib.hid (HPa.out.deep hbI); clear hbI)
    | (refine wpList_store_blk rfl 25 (.tmp 4) (.tmp 49) rfl (w.heap.size + 2) [.int .i64 0, .int .i64 0, .slice none 0 0, .slice none 0 0, .slice none 0 0] rfl rfl 25 [.int .i64 0, .int .i64 0, .slice none 0 0, .slice none 0 0, .slice none 0 0] HPI.out.z (by kernel_rfl) rfl (one5c _ _ _ _ _ _ _ _ _ _ _) ?_; intro wy hby hgy; have HBy := Lib.hid hby; have HXy : Hid (Below w.heap.size w wy) := Lib.hid (HPI.out.x.grown hgy HPI.out.x.size (fun b hb => by have := Option.some.inj hb; omega)); clear hby hgy))
   (try simp only [Exit.inBlock, Exit.then]); refine bodyPost_ret (results_cell_row_tmp1 rfl _ _ (w.heap.size + 2) 25 _ (0, 0) _ rfl HBy.out Try.underlying25 rfl (by kernel_rfl)) rfl ?_
   exact ⟨(none, 0, 0), (none, 0, 0), (none, 0, 0), rfl, ChOwn.no_ _ _, HXy.out⟩
  | true =>
   have hP : P = (⟨v1, v2, po, pp, pd⟩, 0) := by rw [HPf.out]; unfold finCh; rw [if_pos ⟨hst, hfl, HRb_.out⟩]
   subst hP
   clear hst hfl
   go_wp2_with (first
    | (go_at_call 51; (with_reducible refine (HRa.out _ _ _ _ _ _ _ _ HP4.out).mono ?_); rintro e w5 ⟨B5, m5, d5, rfl, hp5⟩; have HP5 := Lib.hid hp5; clear hp5 k4)
    | (refine wpList_store_cell rfl 22 (.tmp 27) (.tmp 26) rfl gC 2 (by simp [Act.eval]) (.slice B5 m5 d5) (by simp [Act.eval]) rfl rfl (fun w => by kernel_rfl) 25 [.int .i64 v1, .int .i64 v2, .slice none 0 0, .slice none 0 0, .slice none 0 0] HP5.out.cc (by simp) ?_; intro w6 hb6 hg6; have HP6 := Lib.hid (HP5.out.turn (X' := [.int .i64 v1, .int .i64 v2, .slice B5 m5 d5, .slice none 0 0, .slice none 0 0]) hb6 hg6); have k6 := HP6.out.k.cellAt (i := 0) rfl; clear hb6 hg6)
    | (go_at_call 52; (with_reducible refine (HRb.out _ _ _ _ _ _ _ _ _ HP6.out).mono ?_); rintro e w7 ⟨B7, m7, d7, e7, rfl, ho7, hq7, hp7⟩; have HO7 := Lib.hid ho7; have HQ7 := Lib.hid hq7; have HP7 := Lib.hid (PaS.setP (V' := ((B7, m7, d7) : Pl)) hp7 ho7); clear k6 ho7 hq7 hp7)
    | (refine wpList_store_cell rfl 23 (.tmp 31) (.tmp 30) rfl gC 3 (by simp [Act.eval]) (.slice B7 m7 d7) (by simp [Act.eval]) rfl rfl (fun w => by kernel_rfl) 25 [.int .i64 v1, .int .i64 v2, .slice B5 m5 d5, .slice none 0 0, .slice none 0 0] HP7.out.cc (by simp) ?_; intro w8 hb8 hg8; have HP8 := Lib.hid (HP7.out.turn (X' := [.int .i64 v1, .int .i64 v2, .slice B5 m5 d5, .slice B7 m7 d7, .slice none 0 0]) hb8 hg8); have k8 := HP8.out.k.cellAt (i := 0) rfl; clear hb8 hg8)
    | (go_at_call 52; (with_reducible refine (HRc.out _ _ _ _ _ _ _ _ _ HP8.out).mono ?_); rintro e w9 ⟨B9, m9, d9, e9, rfl, ho9, hq9, hp9⟩; have HQ9 := Lib.hid hq9; have HP9 := Lib.hid (PaS.setQ (V' := ((B9, m9, d9) : Pl)) hp9 ho9); clear k8 ho9 hq9 hp9)
    | (refine wpList_store_cell rfl 23 (.tmp 35) (.tmp 34) rfl gC 4 (by simp [Act.eval]) (.slice B9 m9 d9) (by simp [Act.eval]) rfl rfl (fun w => by kernel_rfl) 25 [.int .i64 v1, .int .i64 v2, .slice B5 m5 d5, .slice B7 m7 d7, .slice none 0 0] HP9.out.cc (by simp) ?_; intro wa hba hga; have HPa := Lib.hid (HP9.out.turn (X' := [.int .i64 v1, .int .i64 v2, .slice B5 m5 d5, .slice B7 m7 d7, .slice B9 m9 d9]) hba hga); have ka := HPa.out.k.cellAt (i := 0) rfl; have va := HPa.out.v.cellAt (i := 0) rfl; have na := HPa.out.nn.cellAt (i := 0) rfl; have hz9 : (e9 != 0) = false := (by have h2 := HFl.out; rw [Bool.and_eq_true] at h2; have h6 : e9 = 0 := HQ9.out.2 ⟨HQ7.out.2 ⟨by first | trivial | rfl, h2.1⟩, h2.2⟩; simpa using h6); clear hba hga)
    | (go_at_call 53; (with_reducible refine (HEn.out _ HPa.out.r).mono ?_); rintro e wE ⟨xe, rfl, hx, rfl⟩; have hxe : (xe != 0) = false := (by simpa using hx.2 HST.out); clear hx)
    | (refine wpList_load_blk_g 25 (.tmp 10) rfl (by kernel_rfl) gC rfl 25 [.int .i64 v1, .int .i64 v2, .slice B5 m5 d5, .slice B7 m7 d7, .slice B9 m9 d9] _ HPa.out.cc Try.underlying25 rfl (by kernel_rfl) ?_)
    | (go_at_call 40; (with_reducible refine (HIc.out _ _ _ _ _ _ _ _ _ HPa.out.o HPa.out.p HPa.out.q).mono ?_); rintro e wI ⟨rfl, hbI⟩; have HPI := Lib.hid (HPa.out.deep hbI); clear hbI)
    | (refine wpList_load_blk rfl 25 (.tmp 10) rfl gC rfl 25 [.int .i64 v1, .int .i64 v2, .slice B5 m5 d5, .slice B7 m7 d7, .slice B9 m9 d9] _ HPI.out.cc Try.underlying25 rfl (by kernel_rfl) ?_)
    | (refine wpList_store_blk rfl 25 (.tmp 4) (.tmp 50) rfl (w.heap.size + 2) [.int .i64 v1, .int .i64 v2, .slice B5 m5 d5, .slice B7 m7 d7, .slice B9 m9 d9] rfl rfl 25 [.int .i64 0, .int .i64 0, .slice none 0 0, .slice none 0 0, .slice none 0 0] HPI.out.z (by kernel_rfl) rfl (one5c _ _ _ _ _ _ _ _ _ _ _) ?_; intro wy hby hgy; have HBy := Lib.hid hby; have HXy : Hid (Below w.heap.size w wy) := Lib.hid (HPI.out.x.grown hgy HPI.out.x.size (fun b hb => by have := Option.some.inj hb; omega)); have HOy := Lib.hid (HPI.out.o.off hgy (by have := HPI.out.l1; have := HPI.out.l2; have := HPI.out.l3; have := HPI.out.l4; omega)); have HPy := Lib.hid (HPI.out.p.off hgy (by have := HPI.out.l1; have := HPI.out.l2; have := HPI.out.l3; have := HPI.out.l4; omega)); have HQy := Lib.hid (HPI.out.q.off hgy (by have := HPI.out.l1; have := HPI.out.l2; have := HPI.out.l3; have := HPI.out.l4; omega)); have HLy : Hid (w.heap.size ≤ gC + 1) := Lib.hid (by have := HPI.out.l1; have := HPI.out.l2; have := HPI.out.l3; have := HPI.out.l4; omega); clear hby hgy))
   (try simp only [Exit.inBlock, Exit.then]); refine bodyPost_ret (results_cell_row_tmp1 rfl _ _ (w.heap.size + 2) 25 _ (0, 0) _ rfl HBy.out Try.underlying25 rfl (by kernel_rfl)) rfl ?_
   exact ⟨(B5, m5, d5), (B7, m7, d7), (B9, m9, d9), rfl, ⟨HOy.out.weak HLy.out, HPy.out.weak HLy.out, HQy.out.weak HLy.out⟩, HXy.out⟩
 ·have HST := Lib.hid hst
  have hP : P = (Ch.no, 2) := by rw [HPf.out]; unfold finCh; rw [if_neg]; rintro ⟨h9, _⟩; exact hst h9
  subst hP
  clear hst
  go_wp2_with (first
   | (go_at_call 51; (with_reducible refine (HRa.out _ _ _ _ _ _ _ _ HP4.out).mono ?_); rintro e w5 ⟨B5, m5, d5, rfl, hp5⟩; have HP5 := Lib.hid hp5; clear hp5 k4)
   | (refine wpList_store_cell rfl 22 (.tmp 27) (.tmp 26) rfl gC 2 (by simp [Act.eval]) (.slice B5 m5 d5) (by simp [Act.eval]) rfl rfl (fun w => by kernel_rfl) 25 [.int .i64 v1, .int .i64 v2, .slice none 0 0, .slice none 0 0, .slice none 0 0] HP5.out.cc (by simp) ?_; intro w6 hb6 hg6; have HP6 := Lib.hid (HP5.out.turn (X' := [.int .i64 v1, .int .i64 v2, .slice B5 m5 d5, .slice none 0 0, .slice none 0 0]) hb6 hg6); have k6 := HP6.out.k.cellAt (i := 0) rfl; clear hb6 hg6)
   | (go_at_call 52; (with_reducible refine (HRb.out _ _ _ _ _ _ _ _ _ HP6.out).mono ?_); rintro e w7 ⟨B7, m7, d7, e7, rfl, ho7, hq7, hp7⟩; have HO7 := Lib.hid ho7; have HQ7 := Lib.hid hq7; have HP7 := Lib.hid (PaS.setP (V' := ((B7, m7, d7) : Pl)) hp7 ho7); clear k6 ho7 hq7 hp7)
   | (refine wpList_store_cell rfl 23 (.tmp 31) (.tmp 30) rfl gC 3 (by simp [Act.eval]) (.slice B7 m7 d7) (by simp [Act.eval]) rfl rfl (fun w => by kernel_rfl) 25 [.int .i64 v1, .int .i64 v2, .slice B5 m5 d5, .slice none 0 0, .slice none 0 0] HP7.out.cc (by simp) ?_; intro w8 hb8 hg8; have HP8 := Lib.hid (HP7.out.turn (X' := [.int .i64 v1, .int .i64 v2, .slice B5 m5 d5, .slice B7 m7 d7, .slice none 0 0]) hb8 hg8); have k8 := HP8.out.k.cellAt (i := 0) rfl; clear hb8 hg8)
   | (go_at_call 52; (with_reducible refine (HRc.out _ _ _ _ _ _ _ _ _ HP8.out).mono ?_); rintro e w9 ⟨B9, m9, d9, e9, rfl, ho9, hq9, hp9⟩; have HQ9 := Lib.hid hq9; have HP9 := Lib.hid (PaS.setQ (V' := ((B9, m9, d9) : Pl)) hp9 ho9); clear k8 ho9 hq9 hp9)
   | (refine wpList_store_cell rfl 23 (.tmp 35) (.tmp 34) rfl gC 4 (by simp [Act.eval]) (.slice B9 m9 d9) (by simp [Act.eval]) rfl rfl (fun w => by kernel_rfl) 25 [.int .i64 v1, .int .i64 v2, .slice B5 m5 d5, .slice B7 m7 d7, .slice none 0 0] HP9.out.cc (by simp) ?_; intro wa hba hga; have HPa := Lib.hid (HP9.out.turn (X' := [.int .i64 v1, .int .i64 v2, .slice B5 m5 d5, .slice B7 m7 d7, .slice B9 m9 d9]) hba hga); have ka := HPa.out.k.cellAt (i := 0) rfl; have va := HPa.out.v.cellAt (i := 0) rfl; have na := HPa.out.nn.cellAt (i := 0) rfl; clear hba hga)
   | (go_at_call 53; (with_reducible refine (HEn.out _ HPa.out.r).mono ?_); rintro e wE ⟨xe, rfl, hx, rfl⟩; have hxe : (xe != 0) = true := (by simpa using (fun h9 => HST.out (hx.1 h9) : ¬ xe = 0)); clear hx)
   | (refine wpList_store_blk rfl 25 (.tmp 4) (.tmp 49) rfl (w.heap.size + 2) [.int .i64 0, .int .i64 0, .slice none 0 0, .slice none 0 0, .slice none 0 0] rfl rfl 25 [.int .i64 0, .int .i64 0, .slice none 0 0, .slice none 0 0, .slice none 0 0] HPa.out.z (by kernel_rfl) rfl (one5c _ _ _ _ _ _ _ _ _ _ _) ?_; intro wy hby hgy; have HBy := Lib.hid hby; have HXy : Hid (Below w.heap.size w wy) := Lib.hid (HPa.out.x.grown hgy HPa.out.x.size (fun b hb => by have := Option.some.inj hb; omega)); clear hby hgy))
  (try simp only [Exit.inBlock, Exit.then]); refine bodyPost_ret (results_cell_row_tmp1 rfl _ _ (w.heap.size + 2) 25 _ (0, 0) _ rfl HBy.out Try.underlying25 rfl (by kernel_rfl)) rfl ?_
  exact ⟨(none, 0, 0), (none, 0, 0), (none, 0, 0), rfl, ChOwn.no_ _ _, HXy.out⟩

end Go.Proofs.Ytheecifgbkdecaa
