/-
  CwB
-/
import Derived.Test.YtheecifgbkdecaaSN33
import Derived.Test.YtheecifgbkdecaaSN14
import Derived.Test.YtheecifgbkdecaaSNT
namespace Go.Proofs.Ytheecifgbkdecaa
open Go.RowKit

/-- a call that makes these bytes itself -/
def MadeS (w : World) (n : Nat) (xs : List UInt8) (e : Ending) (w' : World) : Prop :=
 ∃ A c, e = .returned (.slice A n c) ∧ w'.ownsRow w.heap.size 5 1 (.slice A n c) n (vs xs) ∧ By w' (fun _ => True) A n xs ∧ n ≤ c ∧ c ≤ maxLen ∧ Below w.heap.size w w'
theorem MadeS.of {w : World} {n : Nat} {xs : List UInt8} {e : Ending} {w' : World} (h : Made w n xs e w') : MadeS w n xs e w' := by
 obtain ⟨v, rfl, ho, hb⟩ := h
 obtain ⟨A, c, rfl, hn, hm, _⟩ := own_form ho
 exact ⟨A, c, rfl, ho, (By.of_own ho).weak fun _ _ => trivial, hn, hm, hb⟩
theorem put_made {Q : Nat → Prop} {A : Option Addr} {n c : Nat} {xs : List UInt8} {w : World} (k : Nat) (hk : wid k = true) (v : Nat) (hv : v < 18446744073709551616) (h : By w Q A n xs) (hn : xs.length ≤ 1099511627776) (hnc : n ≤ c) :
  Calls Try.prog 67 #[.slice A n c, .int .u64 v, .int .i64 k] w (MadeS w (n + k) (xs ++ beB v k)) := by
 refine (put_any Q A n c xs v k (by omega) (by omega) w h (by rw [← h.len]; exact hn) hnc).mono fun e w' hm => ?_
 rw [Int.toNat_natCast, putB_wid hk] at hm
 have e2 : putN n (k : Int) = n + k := by unfold putN; rw [if_pos hk]; rfl
 rw [e2] at hm
 exact MadeS.of hm
theorem By.of_range {w : World} {g o n : Nat} {xs : List UInt8} (h : w.rangeAt g o (vs xs)) (hn : xs.length = n) : By w (fun _ => True) (some ⟨g, o, none⟩) n xs :=
 ⟨hn, fun _ => ⟨g, o, rfl, trivial, fun j u hu => h j _ (by rw [vs_get, hu]; rfl)⟩⟩
theorem below_trans {B : Nat} {a b c : World} (h : Below B a b) (h' : Below B b c) : Below B a c :=
 ⟨h'.os.trans h.os, h'.tape.trans h.tape, h'.output.trans h.output, Nat.le_trans h.size h'.size, fun k hk => (h'.block k hk).trans (h.block k hk)⟩
theorem step_build1_w {P : Program} {ops : Array Oper} {o : Oper} {a : Act} {w : World} {K : Act → World → Prop} {Q : Exit → Act → World → Prop} {F : Prop} (hgd : o.guard = none) (s e : TypeId) (x0 : Operand) (ho : o.op = .buildSlice s 1 #[(0, x0)])
  (p0 : Value) (h0 : a.eval x0 = p0) (hrun : (Instr.buildSlice s 1 #[(0, p0)]).run P w = .ok (.slice (some ⟨w.heap.size, 0, none⟩) 1 1) (w.alloc (.cells #[p0] e)))
  (h : ∀ g w', Blk w' g e [p0] → Below w.heap.size w w' → K (a.put o.dst (.slice (some ⟨g, 0, none⟩) 1 1)) w') : if Region.wanted o (yielded ops a.tmps) = true then Oper.wp P o a w K Q else F := by
 have hw : Region.wanted o (yielded ops a.tmps) = true := by simp [Region.wanted, hgd]
 rw [if_pos hw]
 unfold Oper.wp execOp
 simp only [ho, Sem.run_bind, List.map_toArray, List.map_cons, List.map_nil, h0, hrun, Result.andThen_ok]
 exact h _ _ (Blk.fresh rfl rfl) ((Below.refl _ w).alloc (Nat.le_refl _) _)
theorem step_build2_w {P : Program} {ops : Array Oper} {o : Oper} {a : Act} {w : World} {K : Act → World → Prop} {Q : Exit → Act → World → Prop} {F : Prop} (hgd : o.guard = none) (s e : TypeId) (x0 x1 : Operand) (ho : o.op = .buildSlice s 2 #[(0, x0), (1, x1)])
  (p0 p1 : Value) (h0 : a.eval x0 = p0) (h1 : a.eval x1 = p1) (hrun : (Instr.buildSlice s 2 #[(0, p0), (1, p1)]).run P w = .ok (.slice (some ⟨w.heap.size, 0, none⟩) 2 2) (w.alloc (.cells #[p0, p1] e)))
  (h : ∀ g w', Blk w' g e [p0, p1] → Below w.heap.size w w' → K (a.put o.dst (.slice (some ⟨g, 0, none⟩) 2 2)) w') : if Region.wanted o (yielded ops a.tmps) = true then Oper.wp P o a w K Q else F := by
 have hw : Region.wanted o (yielded ops a.tmps) = true := by simp [Region.wanted, hgd]
 rw [if_pos hw]
 unfold Oper.wp execOp
 simp only [ho, Sem.run_bind, List.map_toArray, List.map_cons, List.map_nil, h0, h1, hrun, Result.andThen_ok]
 exact h _ _ (Blk.fresh rfl rfl) ((Below.refl _ w).alloc (Nat.le_refl _) _)
theorem step_build4_w {P : Program} {ops : Array Oper} {o : Oper} {a : Act} {w : World} {K : Act → World → Prop} {Q : Exit → Act → World → Prop} {F : Prop} (hgd : o.guard = none) (s e : TypeId) (x0 x1 x2 x3 : Operand) (ho : o.op = .buildSlice s 4 #[(0, x0), (1, x1), (2, x2), (3, x3)])
  (p0 p1 p2 p3 : Value) (h0 : a.eval x0 = p0) (h1 : a.eval x1 = p1) (h2 : a.eval x2 = p2) (h3 : a.eval x3 = p3) (hrun : (Instr.buildSlice s 4 #[(0, p0), (1, p1), (2, p2), (3, p3)]).run P w = .ok (.slice (some ⟨w.heap.size, 0, none⟩) 4 4) (w.alloc (.cells #[p0, p1, p2, p3] e)))
  (h : ∀ g w', Blk w' g e [p0, p1, p2, p3] → Below w.heap.size w w' → K (a.put o.dst (.slice (some ⟨g, 0, none⟩) 4 4)) w') : if Region.wanted o (yielded ops a.tmps) = true then Oper.wp P o a w K Q else F := by
 have hw : Region.wanted o (yielded ops a.tmps) = true := by simp [Region.wanted, hgd]
 rw [if_pos hw]
 unfold Oper.wp execOp
 simp only [ho, Sem.run_bind, List.map_toArray, List.map_cons, List.map_nil, h0, h1, h2, h3, hrun, Result.andThen_ok]
 exact h _ _ (Blk.fresh rfl rfl) ((Below.refl _ w).alloc (Nat.le_refl _) _)

/-- numbers of eight bytes, one behind another -/
def encI (l : List Int) : List UInt8 := encAll (fun v => beB (u64N v) 8) l
theorem encI_len (l : List Int) : (encI l).length = 8 * l.length := by
 unfold encI
 induction l with
 | nil => rfl
 | cons v l ih => simp only [encAll, List.length_append, beB_length, ih, List.length_cons]; omega
theorem Try.el_i64s : El Try.prog 111 2 1 8 (.int .i64 0) := ⟨Try.underlying111, by kernel_rfl, rfl, by omega, by omega, by omega⟩
theorem Try.ix_i64s (W : World) (g n c j : Nat) (hj : j < n) : (Instr.indexAt 111 (.slice (some ⟨g, 0, none⟩) n c) (.int .i64 (j : Int))).run Try.prog W = .ok (.pointer (some ⟨g, j, none⟩)) W := by
 have h9 := El.index Try.el_i64s (by kernel_rfl) W g 0 n c j hj
 simpa using h9
set_option maxHeartbeats 16000000 in
set_option maxRecDepth 100000 in
theorem numbers_any (l : List Int) (g n : Nat) (w : World) (hn : l.length = n) (hs : n ≤ 1000) (hb : Blk w g 2 (l.map (Value.int .i64))) :
  Calls Try.prog 34 #[.slice (some ⟨g, 0, none⟩) n n] w (MadeS w (8 * n) (encI l)) := by
 have HB := Lib.hid hb
 have HN := Lib.hid hn
 have HS := Lib.hid hs
 obtain ⟨OUT, hO⟩ : ∃ OUT, encI l = OUT := ⟨_, rfl⟩
 have HOL : Hid (OUT.length = 8 * n) := Lib.hid (by rw [← hO, encI_len, hn])
 have HO0 : Hid ([] ++ encI (l.drop 0) = OUT) := Lib.hid (by rw [← hO, List.drop_zero]; rfl)
 rw [hO]
 clear hb hn hO
 go_enter Try.func34, Try.ntmps34
 go_wp2
 go_loopw [3, 8] (fun bv iv wr => ∃ (i : Nat) (ys : List UInt8) (A : Option Addr) (m c : Nat), i ≤ n ∧ iv = .int .i64 (i : Int) ∧ bv = .slice A m c ∧ ys ++ encI (l.drop i) = OUT ∧ wr.ownsRow w.heap.size 5 1 (.slice A m c) m (vs ys) ∧ By wr (fun _ => True) A m ys ∧ (m ≤ c ∧ c ≤ maxLen) ∧ Below w.heap.size w wr) (fun _ iv _ => n - (intOf iv).toNat)
 case atStart => exact ⟨0, [], none, 0, 0, Nat.zero_le _, rfl, rfl, HO0.out, World.ownsRow_nil _ _ _ _, By.none_, ⟨Nat.le_refl _, by simp [maxLen]⟩, Below.refl _ _⟩
 case round =>
  obtain ⟨i, ys, Av, nv, cv, hi, rfl, rfl, hpq, ho, hy, hc, hx⟩ := hrel
  have HOv := Lib.hid ho
  have HYv := Lib.hid hy
  have HCv := Lib.hid hc
  have HX := Lib.hid hx
  have HPQ := Lib.hid hpq
  clear ho hy hc hx hpq
  by_cases hlt : i < n
  ·have hil : i < l.length := by rw [HN.out]; exact hlt
   obtain ⟨v, hget⟩ : ∃ v, l[i]? = some v := ⟨_, List.getElem?_eq_getElem hil⟩
   have hix := fun W => Try.ix_i64s W g n n i hlt
   have hcl := (HB.out.through HX.out).cellAt (i := i) (v := .int .i64 v) (by rw [List.getElem?_map, hget]; rfl)
   have hd : l.drop i = v :: l.drop (i + 1) := by
    rw [List.drop_eq_getElem_cons hil]
    congr 1
    have h9 := List.getElem?_eq_getElem hil
    rw [hget] at h9
    exact (Option.some.inj h9).symm
   have HPQ2 : Hid ((ys ++ beB (u64N v) 8) ++ encI (l.drop (i + 1)) = OUT) := Lib.hid (by rw [← HPQ.out, hd]; simp [encI, encAll])
   have HZl : Hid (ys.length ≤ 1099511627776) := Lib.hid (by have h9 := congrArg List.length HPQ2.out; simp only [List.length_append] at h9; have := HOL.out; have := HS.out; omega)
   have HPu : Hid (∀ (W : World) (B : Option Addr) (k d : Nat), By W (fun _ => True) B k ys → ys.length ≤ 1099511627776 → k ≤ d → Calls Try.prog 67 #[.slice B k d, .int .u64 ((u64N v : Nat) : Int), .int .i64 8] W (MadeS W (k + 8) (ys ++ beB (u64N v) 8))) := Lib.hid (fun W B k d hY hl hd => put_made 8 rfl (u64N v) (by unfold u64N; omega) hY hl hd)
   have hcv := fun (W : World) => conv_u64 2 70 Try.underlying2 Try.underlying70 v W
   clear hil hget hd
   go_wp2_with (first
    | (go_at_call 67; (with_reducible refine (HPu.out _ _ _ _ HYv.out HZl.out HCv.out.1).mono ?_); rintro e w1 ⟨A1, c1, rfl, ho1, hy1, hn1, hm1, hb1⟩; have HO1 := Lib.hid (own_weak ho1 HX.out.size); have HY1 := Lib.hid hy1; have HC1 := Lib.hid (And.intro hn1 hm1); have HX1 := Lib.hid (below_step HX.out hb1); clear ho1 hy1 hn1 hm1 hb1))
   go_roundw
   case rel => exact ⟨i + 1, _, A1, _, c1, by omega, by go_num, rfl, HPQ2.out, HO1.out, HY1.out, HC1.out, HX1.out⟩
   case measure => simp [intOf]; omega
  ·have e9 : l.drop i = [] := List.drop_of_length_le (by have := HN.out; omega)
   have HE : Hid (ys = OUT) := Lib.hid (by rw [← HPQ.out, e9]; simp [encI, encAll])
   have HM : Hid (nv = 8 * n) := Lib.hid (by rw [← HYv.out.len, HE.out]; exact HOL.out)
   clear e9
   go_wp2
   go_ret
   refine ⟨Av, cv, by rw [← HM.out]; rfl, ?_, ?_, by rw [← HM.out]; exact HCv.out.1, HCv.out.2, HX.out⟩
   ·rw [← HM.out, ← HE.out]; exact HOv.out
   ·rw [← HM.out, ← HE.out]; exact HYv.out
theorem Try.run_b1i (a : Int) (w : World) : (Instr.buildSlice 111 1 #[(0, .int .i64 a)]).run Try.prog w = .ok (.slice (some ⟨w.heap.size, 0, none⟩) 1 1) (w.alloc (.cells #[.int .i64 a] 2)) := by kernel_rfl
theorem Try.run_b2i (a b : Int) (w : World) : (Instr.buildSlice 111 2 #[(0, .int .i64 a), (1, .int .i64 b)]).run Try.prog w = .ok (.slice (some ⟨w.heap.size, 0, none⟩) 2 2) (w.alloc (.cells #[.int .i64 a, .int .i64 b] 2)) := by kernel_rfl
theorem numbers_one (a : Int) (g : Nat) (w : World) (hb : Blk w g 2 [.int .i64 a]) : Calls Try.prog 34 #[.slice (some ⟨g, 0, none⟩) 1 1] w (MadeS w 8 (beB (u64N a) 8)) := by
 have h9 := numbers_any [a] g 1 w rfl (by omega) hb
 simpa [encI, encAll] using h9
theorem numbers_two (a b : Int) (g : Nat) (w : World) (hb : Blk w g 2 [.int .i64 a, .int .i64 b]) : Calls Try.prog 34 #[.slice (some ⟨g, 0, none⟩) 2 2] w (MadeS w 16 (beB (u64N a) 8 ++ beB (u64N b) 8)) := by
 have h9 := numbers_any [a, b] g 2 w rfl (by omega) hb
 simpa [encI, encAll] using h9

set_option maxHeartbeats 16000000 in
set_option maxRecDepth 100000 in
theorem pointbytes_any (p : Po) (w : World) (hd : p.dg.length = 32) :
  Calls Try.prog 36 #[.agg (Po.cells p).toArray] w (Byt w (encPo p)) := by
 obtain ⟨i0, hi, hz0, hz1, hz2⟩ := info_parts Try.info_u8
 have HB : Hid (Blk (w.alloc (.cells (Po.cells p).toArray 52)) w.heap.size 52 (Po.cells p)) := Lib.hid (Blk.fresh rfl rfl)
 have HX : Hid (Below w.heap.size w (w.alloc (.cells (Po.cells p).toArray 52))) := Lib.hid (below1_ w _)
 have HR : Hid ((w.alloc (.cells (Po.cells p).toArray 52)).rangeAt w.heap.size 1 (vs p.dg)) := Lib.hid (Blk.range (pre := [.int .i64 p.sq]) (post := []) (by simpa [Po.cells] using HB.out))
 have HD := Lib.hid hd
 have HNu : Hid (∀ (W : World) (g : Nat), Blk W g 2 [.int .i64 p.sq] → Calls Try.prog 34 #[.slice (some ⟨g, 0, none⟩) 1 1] W (MadeS W 8 (beB (u64N p.sq) 8))) := Lib.hid (fun W g h => numbers_one p.sq g W h)
 have hsl := fun W => Try.sl_dg w.heap.size 1 W
 clear hd
 go_enter Try.func36, Try.ntmps36
 go_wp2
 try dsimp only [Act.put]
 refine wp_region_held_drew (S := fun W => Below (w.alloc (.cells (Po.cells p).toArray 52)).heap.size (w.alloc (.cells (Po.cells p).toArray 52)) W) (by kernel_rfl) (Below.refl _ _).drew (fun hHeld => ?_)
 change wpAnyH _ _ _ _ _ _ #[false, false, false, false, false, false, false, false] _ _
 refine tkq (i := 0) (d := 3) (v := (.pointer (some ⟨w.heap.size, 0, none⟩))) rfl rfl (Or.inl ⟨by kernel_rfl, fun w hSw => ?_⟩) (by assumption) ?_
 ·(try dsimp only at hSw); go_simp <;> (try rfl)
 simp only [Act.put, sq1, sq2, sq3]
 refine tkq (i := 1) (d := 4) (v := (.int .i64 p.sq)) rfl rfl (yields_load_at (by kernel_rfl) 2 (.tmp 3) rfl (.pointer (some ⟨w.heap.size, 0, none⟩)) (by simp [Act.eval]) (.int .i64 p.sq) (fun W hW => load_one' (Try.agg_i64 W) ((HB.out.through hW).cellAt (i := 0) rfl))) (by assumption) ?_
 simp only [Act.put, sq1, sq2, sq3]
 refine tkq (i := 4) (d := 7) (v := (.pointer (some ⟨w.heap.size, 1, none⟩))) rfl rfl (Or.inl ⟨by kernel_rfl, fun w hSw => ?_⟩) (by assumption) ?_
 ·(try dsimp only at hSw); go_simp <;> (try rfl)
 simp only [Act.put, sq1, sq2, sq3]
 refine tkq (i := 5) (d := 8) (v := (.slice (some ⟨w.heap.size, 1, none⟩) 32 32)) rfl rfl (Or.inl ⟨by kernel_rfl, fun w hSw => ?_⟩) (by assumption) ?_
 ·(try dsimp only at hSw); go_simp <;> (try rfl)
 simp only [Act.put, sq1, sq2, sq3]
 refine wpAnyH_ready (rs := [2]) (by kernel_rfl) (by simp) ?_
 refine AllReadyH.cons (o := ⟨some 5, .buildSlice 111 1 #[(0, .tmp 4)], _, _, _, none⟩) rfl (fun K hK => ?_) AllReadyH.nil
 refine step_build1_w rfl 111 2 (.tmp 4) rfl (.int .i64 p.sq) (by simp [Act.eval]) (Try.run_b1i p.sq _) ?_; intro gx wx hbx hxx; have HBx := Lib.hid hbx; have HKx := Lib.hid (below_step hHeld hxx); clear hbx hxx
 refine hK.out _ _ HKx.out (fun hHeld1 => ?_)
 clear hHeld hK K
 have hHeld := hHeld1
 clear hHeld1
 change wpAnyH _ _ _ _ _ _ _ (Act.put _ (some (5 : Nat)) (.slice (some ⟨gx, 0, none⟩) 1 1)) _
 simp only [Act.put, sq1, sq2, sq3]
 refine wpAnyH_ready (rs := [3]) (by kernel_rfl) (by simp) ?_
 refine AllReadyH.cons rfl (fun K hK => ?_) AllReadyH.nil
 go_simp
 refine (HNu.out _ _ HBx.out).mono ?_
 rintro e wp ⟨Ap, cp, rfl, hop, _, hcp, hmp, hbp⟩; have HOp := Lib.hid (own_weak hop hHeld.size); have HKp := Lib.hid (below_step hHeld hbp); have HRp := Lib.hid (rangeAt.through HR.out HKp.out); clear hop hcp hmp hbp
 go_wp2_with fail
 refine hK.out _ _ HKp.out (fun hHeld1 => ?_)
 clear hHeld hK K
 have hHeld := hHeld1
 clear hHeld1
 refine wpAnyH_ready (rs := [6]) (by kernel_rfl) (by simp) ?_
 refine AllReadyH.cons (o := ⟨some 9, .call { callee := .builtin .append, args := #[.tmp 6, .tmp 8], argTypes := #[28, 28] }, _, _, _, none⟩) rfl (fun K hK => ?_) AllReadyH.nil
 refine step_append_by (by kernel_rfl) (.tmp 6) (.tmp 8) 28 rfl (w.alloc (.cells (Po.cells p).toArray 52)).heap.size i0 Try.underlying28 hi hz0 hz1 hz2 (.slice Ap 8 cp) 8 (beB (u64N p.sq) 8) (by simp [Act.eval]) HOp.out (fun _ => True) (some ⟨w.heap.size, 1, none⟩) 32 32 p.dg (by simp [Act.eval]) (By.of_range HRp.out HD.out) (by omega) HKp.out.size 40 rfl _ rfl ?_; intro A9 c9 w9 ho9 hn9 hm9 hb9; have HY9 := Lib.hid ((By.of_own ho9).weak (Q' := fun _ => True) fun _ _ => trivial); have HC9 := Lib.hid (And.intro hn9 hm9); have HK9 : Hid (Below (w.alloc (.cells (Po.cells p).toArray 52)).heap.size (w.alloc (.cells (Po.cells p).toArray 52)) w9) := Lib.hid (below_trans HKp.out hb9); clear ho9 hn9 hm9 hb9
 refine hK.out _ _ HK9.out (fun hHeld1 => ?_)
 clear hHeld hK K
 have hHeld := hHeld1
 clear hHeld1
 change wpAnyH _ _ _ _ _ _ _ (Act.put _ (some (9 : Nat)) (.slice A9 40 c9)) _
 simp only [Act.put, sq1, sq2, sq3]
 refine tkq (i := 7) (d := 2) (v := (.slice A9 40 c9)) rfl rfl (Or.inl ⟨by kernel_rfl, fun w hSw => ?_⟩) (by assumption) ?_
 ·(try dsimp only at hSw); go_simp <;> (try rfl)
 simp only [Act.put, sq1, sq2, sq3]
 refine wpAnyH_done (by kernel_rfl) ?_ _
 have HXc := Lib.hid (below_step HX.out hHeld)
 clear hHeld
 go_wp2
 go_ret
 exact ⟨A9, 40, c9, rfl, by have h9 := HY9.out; simpa only [encPo] using h9, HC9.out.1, HC9.out.2, HXc.out⟩

theorem Po.one_ (p : Po) : (Po.cells p).toArray.all (·.oneCell') = true := Array.all_eq_true_iff_forall_mem.2 (fun u hu => by
 simp only [Po.cells, List.mem_toArray, List.mem_cons] at hu
 rcases hu with rfl | hu
 ·rfl
 ·exact vs_one u hu)
set_option maxHeartbeats 16000000 in
set_option maxRecDepth 100000 in
theorem rowpo_any (ps : List Po) (A : Option Addr) (k c0 : Nat) (w : World) (h : PosIn w A k ps) (hk : k ≤ 60000) (hL : (encPos ps).length ≤ 1000000000) :
  Calls Try.prog 35 #[.slice A k c0, .func (.func 36) #[] #[]] w (Byt w (encPos ps)) := by
 obtain ⟨i0, hi, hz0, hz1, hz2⟩ := info_parts Try.info_u8
 have HI := Lib.hid h
 have HLn := Lib.hid h.len
 obtain ⟨OUT, hO⟩ : ∃ OUT, encPos ps = OUT := ⟨_, rfl⟩
 rw [hO] at hL ⊢
 have HLL := Lib.hid hL
 have HOUT : Hid (beB k 2 ++ encAll encPo ps = OUT) := Lib.hid (by rw [← hO, ← h.len]; rfl)
 have hwu : ∀ W : World, (convert 3 70 (.int .i64 (k : Int))).run Try.prog W = .ok (.int .u64 (k : Int)) W := fun W => by
  have h9 := conv_u64 3 70 Try.underlying3 Try.underlying70 (k : Int) W
  rw [show u64N (k : Int) = k by unfold u64N; omega] at h9
  exact h9
 have HPut : Hid (∀ (W : World), Calls Try.prog 67 #[.slice none 0 0, .int .u64 (k : Int), .int .i64 2] W (Made W (beB k 2).length (beB k 2))) := Lib.hid (fun W => by
  have h9 := put_any (fun _ => True) none 0 0 [] (k : Int) (2 : Nat) (by omega) (by omega) W By.none_ (by omega) (Nat.le_refl _)
  rw [Int.toNat_natCast, putB_wid rfl] at h9
  have e : putN 0 (2 : Nat) = (beB k 2).length := by rw [beB_length]; rfl
  rw [e] at h9
  exact h9)
 clear h hL hO
 go_enter Try.func35, Try.ntmps35
 go_wp2_with (first
  | (go_at_call 67; (refine (HPut.out _).mono ?_); rintro e w4 ⟨v4, rfl, ho4, hb4⟩; have HO4 := Lib.hid ho4; have HX4 := Lib.hid hb4; clear ho4 hb4))
 go_loopw [5, 14] (fun bv iv wr => ∃ (i : Nat) (ys : List UInt8) (v' : Value), i ≤ k ∧ iv = .int .i64 (i : Int) ∧ v' = bv ∧ ys ++ encAll encPo (ps.drop i) = OUT ∧ wr.ownsRow w.heap.size 5 1 v' ys.length (vs ys) ∧ Below w.heap.size w wr) (fun _ iv _ => k - (intOf iv).toNat)
 case atStart => exact ⟨0, _, v4, Nat.zero_le _, rfl, rfl, HOUT.out, HO4.out, HX4.out⟩
 case round =>
  obtain ⟨i, ys, v', hi', rfl, rfl, hpq, hown, hx⟩ := hrel
  have HO := Lib.hid hown
  have HX := Lib.hid hx
  have HPQ := Lib.hid hpq
  clear hown hx hpq
  by_cases hlt : i < k
  ·obtain ⟨g, o, p, rfl, _, hmem, hd, hdl, hrx⟩ := (HI.out.through HX.out).at hlt
   have HRx := Lib.hid hrx
   have hix := Try.ix_po wr g o k c0 i hlt
   have HDL := Lib.hid hdl
   have HPL : Hid ((Po.cells p).length = 33) := Lib.hid (Po.cells_len p hdl)
   have HEn : Hid (∀ W, Below wr.heap.size wr W → Calls Try.prog 36 #[.agg (Po.cells p).toArray] W (Byt W (encPo p))) := Lib.hid (fun W hW => pointbytes_any p W HDL.out)
   have HPQ2 : Hid ((ys ++ encPo p) ++ encAll encPo (ps.drop (i + 1)) = OUT) := Lib.hid (by rw [← HPQ.out, hd]; simp [encAll])
   clear hrx hdl hd hmem
   go_wp2_with (first
    | (refine wpList_load_mid rfl 52 (.tmp 16) rfl g (o + i * 33) rfl (Po.cells p) _ HRx.out Try.underlying52 rfl (by rw [HPL.out]; kernel_rfl) ?_)
    | (refine wpList_store_blk rfl 52 (.tmp 7) (.tmp 17) rfl wr.heap.size (Po.cells p) rfl rfl 52 (Po.cells ⟨0, List.replicate 32 0⟩) (Blk.fresh rfl rfl) (by rw [HPL.out]; kernel_rfl) (by rw [HPL.out]; rfl) (Po.one_ p) ?_; simp only [Act.put]; intro wv hbv hgv; have HB := Lib.hid hbv; have HXa : Hid (Below w.heap.size w wv) := Lib.hid (below_step HX.out (below_new hgv)); have HOa := Lib.hid (own_thr HO.out (below_new hgv)); have HNv := Lib.hid (below_new hgv); clear hbv hgv)
    | (refine wpList_load_blk rfl 52 (.tmp 7) rfl wr.heap.size rfl 52 (Po.cells p) _ HB.out Try.underlying52 rfl (by rw [HPL.out]; kernel_rfl) ?_)
    | (go_at_call 36; (with_reducible refine (HEn.out _ HNv.out).mono ?_); rintro e w5 ⟨A5, n5, d5, rfl, hy5, _, _, hb5⟩; have HY5 := Lib.hid hy5; have HX5 := Lib.hid (below_step HXa.out hb5); have HO5 := Lib.hid (own_thr HOa.out hb5); have HBD5 : Hid (ys.length + n5 ≤ 140737488355328) := Lib.hid (by have h9 := congrArg List.length HPQ2.out; simp only [List.length_append] at h9; have h8 := hy5.len; have := HLL.out; omega); have HBS5 : Hid (w.heap.size ≤ w5.heap.size) := Lib.hid HX5.out.size; clear hy5 hb5)
    | (at_builtin; refine wpList_append_by _ rfl (.tmp 18) (.tmp 21) 28 rfl w.heap.size i0 Try.underlying28 hi hz0 hz1 hz2 v' ys.length (vs ys) rfl HO5.out (fun _ => True) _ n5 d5 (encPo p) rfl HY5.out HBD5.out HBS5.out ?_; intro v6 w6 hown6 hgrow6 _; have HN6 : Hid (w6.ownsRow w.heap.size 5 1 v6 (ys ++ encPo p).length (vs (ys ++ encPo p))) := Lib.hid (by rw [List.length_append, ← vs_append, HY5.out.len]; exact hown6); have HX6 : Hid (Below w.heap.size w w6) := Lib.hid (HX5.out.grown hgrow6 HBS5.out (fun g hg => (HO5.out.lt g hg).1)); clear hown6 hgrow6))
   go_roundw
   case rel => exact ⟨i + 1, ys ++ encPo p, v6, by omega, by go_num, rfl, HPQ2.out, HN6.out, HX6.out⟩
   case measure => simp [intOf]; omega
  ·have e9 : ps.drop i = [] := List.drop_of_length_le (by have := HLn.out; omega)
   have HPQ3 : Hid (ys = OUT) := Lib.hid (by rw [← HPQ.out, e9]; simp [encAll])
   clear e9
   obtain ⟨A7, c7, rfl, hn7, hm7, _⟩ := own_form HO.out
   go_wp2
   go_ret
   rw [← HPQ3.out]
   exact ⟨A7, _, c7, rfl, (By.of_own HO.out).weak fun _ _ => trivial, hn7, hm7, HX.out⟩

end Go.Proofs.Ytheecifgbkdecaa
