/-
  Joined: TaW.
-/
import Derived.Deep.RegionHeld
import Derived.Test.YtkpgjcahmpekbaaTT18
namespace Go.Proofs.Ytkpgjcahmpekbaa
open Go.RowKit

theorem Try.run_b1int (a : Int) (w : World) : (Instr.buildSlice 41 1 #[(0, .int .i64 a)]).run Try.prog w = .ok (.slice (some ⟨w.heap.size, 0, none⟩) 1 1) (w.alloc (.cells #[.int .i64 a] 3)) := by kernel_rfl
theorem wpList_build_one {P : Program} {ops : Array Oper} {rest : List Oper} {o : Oper} {a : Act} {w : World} {Q : Exit → Act → World → Prop} (hgd : o.guard = none) (s e : TypeId) (x0 : Operand) (ho : o.op = .buildSlice s 1 #[(0, x0)])
  (p0 : Value) (cs : List Value) (h0 : a.eval x0 = p0)
  (hrun : (Instr.buildSlice s 1 #[(0, p0)]).run P w = .ok (.slice (some ⟨w.heap.size, 0, none⟩) 1 1) (w.alloc (.cells cs.toArray e)))
  (h : ∀ g w', g = w.heap.size → Blk w' g e cs → Below w.heap.size w w' → wpList P ops Q rest (a.put o.dst (.slice (some ⟨g, 0, none⟩) 1 1)) w') : wpList P ops Q (o :: rest) a w :=
 wpList_plain hgd fun K hK => by
  unfold Oper.wp execOp
  simp only [ho, Sem.run_bind, List.map_toArray, List.map_cons, List.map_nil, h0, hrun, Result.andThen_ok]
  exact hK _ _ (h _ _ rfl (Blk.fresh rfl rfl) ((Below.refl _ w).alloc (Nat.le_refl _) _))
theorem wpList_append_is {P : Program} {s e : TypeId} {bytes : Nat} {z : Value} {ops : Array Oper} {rest : List Oper} {o : Oper} {a : Act} {w : World} {Q : Exit → Act → World → Prop} (hgd : o.guard = none) (E : El P s e 1 bytes z) (sl x : Operand)
  (ho : o.op = .call { callee := .builtin .append, args := #[sl, x], argTypes := #[s, s] })
  (B : Nat) (v : Value) (xs : List (List Value)) (hs : a.eval sl = v) (hown : Os w B e 1 v xs) (g : Nat) (q : Int) (hx : a.eval x = .slice (some ⟨g, 0, none⟩) 1 1) (hg : Blk w g e [.int .i64 q])
  (hn : xs.length ≤ 1000000) (hB : B ≤ w.heap.size)
  (h : ∀ v' w', Os w' B e 1 v' (xs ++ [itC q]) → w.grownBy w' v.ownBlock → wpList P ops Q rest (a.put o.dst v') w') : wpList P ops Q (o :: rest) a w :=
 wpList_append_el hgd E sl x ho B v xs hs hown g [.int .i64 q] hx hg rfl (fun u hu => by simp at hu; subst hu; rfl) hn hB h
theorem whoL_cons (x : Int × Vo) (b : Tl) (v : Vo) : whoL (x :: b) v = (if x.2.eqb v = true then [x.1] else []) ++ whoL b v := by
 unfold whoL
 cases h : x.2.eqb v <;> simp [h]
set_option maxHeartbeats 16000000 in
set_option maxRecDepth 100000 in
theorem rwho_any_ (l : Tl) (v : Vo) (A : Option Addr) (k c : Nat) (w : World) (h : OnIn w A k l) (hk : k ≤ 1000000) (hv : v.dg.length = 32) :
  Calls Try.prog 18 #[.slice A k c, .agg (Vo.cells v).toArray] w fun e w' => ∃ (A2 : Option Addr) (n2 c2 : Nat), e = .returned (.slice A2 n2 c2) ∧ IsIn w' A2 n2 (whoL l v) ∧ n2 ≤ c2 ∧ Below w.heap.size w w' := by
 have HI := Lib.hid h
 have HLn := Lib.hid h.len
 have HVL : Hid ((Vo.cells v).length = 34) := Lib.hid (Vo.cells_len v hv)
 have HBv0 : Hid (Blk (w.alloc (.cells (Vo.cells v).toArray 29)) w.heap.size 29 (Vo.cells v)) := Lib.hid (Blk.fresh rfl rfl)
 have HX0 : Hid (Below w.heap.size w (w.alloc (.cells (Vo.cells v).toArray 29))) := Lib.hid (below1_ w _)
 have HZ0 : Hid (w.heap.size + 1 ≤ (w.alloc (.cells (Vo.cells v).toArray 29)).heap.size) := Lib.hid (by simp)
 have HVv := Lib.hid hv
 obtain ⟨R, hR⟩ : ∃ R, whoL l v = R := ⟨_, rfl⟩
 have HR0 : Hid ([] ++ whoL (l.drop 0) v = R) := Lib.hid (by rw [List.drop_zero, hR]; rfl)
 rw [hR]
 clear h hv hR
 go_enter Try.func18, Try.ntmps18
 go_wp2
 go_loopw [5, 10] (fun lv iv wr => ∃ (i : Nat) (pre : List Int) (A2 : Option Addr) (n2 c2 : Nat), i ≤ k ∧ iv = .int .i64 (i : Int) ∧ lv = .slice A2 n2 c2 ∧ pre ++ whoL (l.drop i) v = R ∧ pre.length ≤ i ∧ Os wr (w.heap.size + 1) 3 1 (.slice A2 n2 c2) (pre.map itC) ∧ Blk wr w.heap.size 29 (Vo.cells v) ∧ Below w.heap.size w wr ∧ w.heap.size + 1 ≤ wr.heap.size) (fun _ iv _ => k - (intOf iv).toNat)
 case atStart => exact ⟨0, [], none, 0, 0, Nat.zero_le _, rfl, rfl, HR0.out, Nat.le_refl _, Os.nil _ _ _ _, HBv0.out, HX0.out, HZ0.out⟩
 case round =>
  obtain ⟨i, pre, A2, n2, c2, hi, rfl, rfl, hp, hpl, ho, hbv, hx, hs⟩ := hrel
  have HX := Lib.hid hx
  have HO := Lib.hid ho
  have HBv := Lib.hid hbv
  have HS := Lib.hid hs
  have HPl := Lib.hid hpl
  clear hx ho hbv hs hpl
  by_cases hlt : i < k
  ·obtain ⟨g, o, x, rfl, _, hmem, hd, hxl, hrx⟩ := (HI.out.through HX.out).at hlt
   have HRx := Lib.hid hrx
   have HXl : Hid ((onC x).length = 35) := Lib.hid (onC_len x hxl)
   have HVl : Hid ((Vo.cells x.2).length = 34) := Lib.hid (Vo.cells_len x.2 hxl)
   have hix := Try.ix_on wr g o k c i hlt
   rw [hd, whoL_cons] at hp
   have hxeq := fun (W : World) => eq_vov x.2 v hxl HVv.out W
   cases he : x.2.eqb v with
   | true =>
    rw [he] at hxeq
    rw [he, if_pos rfl, ← List.append_assoc] at hp
    have HP := Lib.hid hp
    clear hp hd hrx hxl he hmem
    go_wp2_with (first
     | (refine wpList_load_mid rfl 92 (.tmp 12) rfl g (o + i * 35) rfl (onC x) _ HRx.out Try.underlying92 rfl (by rw [HXl.out]; kernel_rfl) ?_)
     | (refine wpList_store_blk rfl 92 (.tmp 7) (.tmp 13) rfl wr.heap.size (onC x) rfl rfl 92 (onC (0, voZ)) (Blk.fresh rfl rfl) (by rw [HXl.out]; kernel_rfl) (by rw [HXl.out]; rfl) (onC_one x) ?_; simp only [Act.put]; intro wv hbv hgv; have HBx := Lib.hid hbv; have HNv := Lib.hid (below_new hgv); have HXv : Hid (Below w.heap.size w wv) := Lib.hid (below_step HX.out (below_new hgv)); have k0 := HBx.out.cellAt (i := 0) rfl; have HRv : Hid (wv.rangeAt wr.heap.size 1 (Vo.cells x.2)) := Lib.hid (Blk.range (pre := [.int .i64 x.1]) (post := []) (by simpa [onC] using HBx.out)); have HBvv := Lib.hid (HBv.out.through (below_new hgv)); clear hbv hgv)
     | (refine wpList_load_mid rfl 29 (.tmp 14) rfl wr.heap.size 1 rfl (Vo.cells x.2) _ HRv.out Try.underlying29 rfl (by rw [HVl.out]; kernel_rfl) ?_)
     | (refine wpList_load_blk rfl 29 (.tmp 3) rfl w.heap.size rfl 29 (Vo.cells v) _ HBvv.out Try.underlying29 rfl (by rw [HVL.out]; kernel_rfl) ?_)
     | (refine wpList_build_one rfl 41 3 (.tmp 20) rfl (.int .i64 x.1) [.int .i64 x.1] rfl (Try.run_b1int x.1 _) ?_; intro gb w5 hgb hb5 hx5; have HB5 := Lib.hid hb5; have HX5 := Lib.hid (below_step HXv.out hx5); have HO5 := Lib.hid (HO.out.through (below_step HNv.out hx5)); have HV5 := Lib.hid (HBvv.out.through hx5); have HS5 : Hid (w.heap.size + 1 ≤ w5.heap.size) := Lib.hid (Nat.le_trans HS.out (Nat.le_trans HNv.out.size hx5.size)); clear hb5 hx5 hgb)
     | (at_builtin; refine wpList_append_is rfl Try.el_is (.tmp 18) (.tmp 21) rfl (w.heap.size + 1) (.slice A2 n2 c2) (pre.map itC) rfl HO5.out gb x.1 rfl HB5.out (by rw [List.length_map]; have := HPl.out; omega) HS5.out ?_; intro v7 w9 ho7 hg7; have HW := Lib.hid (fun b hb => (HO5.out.lt b hb).1); obtain ⟨A7, N7, c7, rfl⟩ : ∃ (A : Option Addr) (N c : Nat), v7 = .slice A N c := (by obtain ⟨A, c, h9, _⟩ := ho7.out; exact ⟨A, _, c, h9⟩); have HO9 : Hid (Os w9 (w.heap.size + 1) 3 1 (.slice A7 N7 c7) ((pre ++ [x.1]).map itC)) := Lib.hid (by rw [List.map_append]; exact ho7); have HV9 := Lib.hid (HV5.out.grown hg7 (fun e => by have := HW.out _ e.symm; omega)); have HX9 := Lib.hid (HX5.out.grown hg7 HX5.out.size (fun b hb => by have := HW.out b hb; omega)); have HS9 : Hid (w.heap.size + 1 ≤ w9.heap.size) := Lib.hid (Nat.le_trans HS5.out hg7.size); clear ho7 hg7))
    go_roundw
    case rel => exact ⟨i + 1, pre ++ [x.1], A7, N7, c7, by omega, by go_num, rfl, HP.out, by rw [List.length_append]; have := HPl.out; simp; omega, HO9.out, HV9.out, HX9.out, HS9.out⟩
    case measure => simp [intOf]; omega
   | false =>
    rw [he] at hxeq
    rw [he, if_neg (by decide), List.nil_append] at hp
    have HP := Lib.hid hp
    clear hp hd hrx hxl he hmem
    go_wp2_with (first
     | (refine wpList_load_mid rfl 92 (.tmp 12) rfl g (o + i * 35) rfl (onC x) _ HRx.out Try.underlying92 rfl (by rw [HXl.out]; kernel_rfl) ?_)
     | (refine wpList_store_blk rfl 92 (.tmp 7) (.tmp 13) rfl wr.heap.size (onC x) rfl rfl 92 (onC (0, voZ)) (Blk.fresh rfl rfl) (by rw [HXl.out]; kernel_rfl) (by rw [HXl.out]; rfl) (onC_one x) ?_; simp only [Act.put]; intro wv hbv hgv; have HBx := Lib.hid hbv; have HNv := Lib.hid (below_new hgv); have HXv : Hid (Below w.heap.size w wv) := Lib.hid (below_step HX.out (below_new hgv)); have k0 := HBx.out.cellAt (i := 0) rfl; have HRv : Hid (wv.rangeAt wr.heap.size 1 (Vo.cells x.2)) := Lib.hid (Blk.range (pre := [.int .i64 x.1]) (post := []) (by simpa [onC] using HBx.out)); have HBvv := Lib.hid (HBv.out.through (below_new hgv)); clear hbv hgv)
     | (refine wpList_load_mid rfl 29 (.tmp 14) rfl wr.heap.size 1 rfl (Vo.cells x.2) _ HRv.out Try.underlying29 rfl (by rw [HVl.out]; kernel_rfl) ?_)
     | (refine wpList_load_blk rfl 29 (.tmp 3) rfl w.heap.size rfl 29 (Vo.cells v) _ HBvv.out Try.underlying29 rfl (by rw [HVL.out]; kernel_rfl) ?_))
    go_roundw
    case rel => exact ⟨i + 1, pre, A2, n2, c2, by omega, by go_num, rfl, HP.out, by have := HPl.out; omega, HO.out.through HNv.out, HBvv.out, HXv.out, Nat.le_trans HS.out HNv.out.size⟩
    case measure => simp [intOf]; omega
  ·have e9 : l.drop i = [] := List.drop_of_length_le (by have := HLn.out; omega)
   rw [e9] at hp
   have HP : Hid (pre = R) := Lib.hid (by rw [← hp]; simp [whoL])
   obtain ⟨A8, c8, he8, h81, h82, h83⟩ := HO.out.out
   injection he8 with q1 q2 q3
   rw [List.length_map] at q2 h81 h83
   have HIs : Hid (IsIn wr A2 n2 pre) := Lib.hid (by unfold IsIn; rw [q1, q2]; exact h83)
   have HNc : Hid (n2 ≤ c2) := Lib.hid (by rw [q2, q3]; exact h81)
   clear e9 hp q1 q2 q3 h81 h82 h83
   go_wp2
   go_ret
   exact ⟨A2, n2, c2, rfl, by rw [← HP.out]; exact HIs.out, HNc.out, HX.out⟩

end Go.Proofs.Ytkpgjcahmpekbaa
