/-
  Joined: TaC.
-/
import Derived.Deep.RegionHeld
import Derived.Test.YtkpgjcahmpekbaaTT18
namespace Go.Proofs.Ytkpgjcahmpekbaa
open Go.RowKit

set_option maxHeartbeats 16000000 in
set_option maxRecDepth 100000 in
theorem rchange_any_ (l : Tl) (who : Int) (v : Vo) (A : Option Addr) (k c : Nat) (w : World) (h : OnIn w A k l) (hk : k ≤ 100000) (hv : v.dg.length = 32) :
  Calls Try.prog 11 #[.slice A k c, .int .i64 who, .agg (Vo.cells v).toArray] w fun e w' => ∃ (A2 : Option Addr) (n2 c2 : Nat), e = .returned (.slice A2 n2 c2) ∧ OOn w' w.heap.size (.slice A2 n2 c2) (chL l who v) ∧ Below w.heap.size w w' := by
 have HI := Lib.hid h
 have HLn := Lib.hid h.len
 have HKk := Lib.hid hk
 have HVL : Hid ((Vo.cells v).length = 34) := Lib.hid (Vo.cells_len v hv)
 have HEl : Hid ((onC (who, v)).length = 35) := Lib.hid (onC_len (who, v) hv)
 have HBv0 : Hid (Blk (w.alloc (.cells (Vo.cells v).toArray 29)) w.heap.size 29 (Vo.cells v)) := Lib.hid (Blk.fresh rfl rfl)
 have HX0 : Hid (Below w.heap.size w (w.alloc (.cells (Vo.cells v).toArray 29))) := Lib.hid (below1_ w _)
 have HZ0 : Hid (w.heap.size + 1 ≤ (w.alloc (.cells (Vo.cells v).toArray 29)).heap.size) := Lib.hid (by simp)
 have HVv : Hid (((who, v) : Int × Vo).2.dg.length = 32) := Lib.hid hv
 obtain ⟨R, hR⟩ : ∃ R, chL l who v = R := ⟨_, rfl⟩
 have HR0 : Hid (chGo who v (l.drop 0) false [] = R) := Lib.hid (by rw [List.drop_zero]; exact hR)
 rw [hR]
 clear h hv hR
 go_enter Try.func11, Try.ntmps11
 go_wp2
 go_loopw [7, 8, 13] (fun lv bv iv wr => ∃ (i : Nat) (pl : Bool) (out : Tl) (A2 : Option Addr) (n2 c2 : Nat), i ≤ k ∧ iv = .int .i64 (i : Int) ∧ bv = .bool pl ∧ lv = .slice A2 n2 c2 ∧ chGo who v (l.drop i) pl out = R ∧ out.length ≤ 2 * i ∧ OOn wr (w.heap.size + 1) (.slice A2 n2 c2) out ∧ Blk wr w.heap.size 29 (Vo.cells v) ∧ Below w.heap.size w wr ∧ (w.heap.size + 1) ≤ wr.heap.size) (fun _ _ iv _ => k - (intOf iv).toNat)
 case atStart => exact ⟨0, false, [], none, 0, 0, Nat.zero_le _, rfl, rfl, rfl, HR0.out, Nat.le_refl _, OOn.nil _ _, HBv0.out, HX0.out, HZ0.out⟩
 case round =>
  obtain ⟨i, pl, out, A2, n2, c2, hi, rfl, rfl, rfl, hp, hol, ho, hbv, hx, hs⟩ := hrel
  have HX := Lib.hid hx
  have HO := Lib.hid ho
  have HBv := Lib.hid hbv
  have HS := Lib.hid hs
  have HOl : Hid (out.length ≤ 2 * i ∧ i ≤ k) := Lib.hid ⟨hol, hi⟩
  clear hx ho hbv hs hol
  by_cases hlt : i < k
  ·obtain ⟨g, o, x, rfl, _, hmem, hd, hxl, hrx⟩ := (HI.out.through HX.out).at hlt
   have HRx := Lib.hid hrx
   have HXl : Hid ((onC x).length = 35) := Lib.hid (onC_len x hxl)
   have HVl : Hid ((Vo.cells x.2).length = 34) := Lib.hid (Vo.cells_len x.2 hxl)
   have hix := Try.ix_on wr g o k c i hlt
   have HXd := Lib.hid hxl
   rw [hd, chGo] at hp
   by_cases hc : pl = false ∧ who ≤ x.1
   ·obtain ⟨rfl, hw⟩ := hc
    have d1 : decide (who ≤ x.1) = true := by simpa using hw
    rw [if_pos ⟨rfl, hw⟩] at hp
    by_cases he : x.1 = who
    ·have d2 : (x.1 != who) = false := by simpa using he
     rw [if_pos he] at hp
     have HP := Lib.hid hp
     clear hp hd hrx hxl he hmem hw
     go_wp2_with (first
      | (refine wpList_load_mid rfl 92 (.tmp 15) rfl g (o + i * 35) rfl (onC x) _ HRx.out Try.underlying92 rfl (by rw [HXl.out]; kernel_rfl) ?_)
      | (refine wpList_store_blk rfl 92 (.tmp 10) (.tmp 16) rfl wr.heap.size (onC x) rfl rfl 92 (onC (0, voZ)) (Blk.fresh rfl rfl) (by rw [HXl.out]; kernel_rfl) (by rw [HXl.out]; rfl) (onC_one x) ?_; simp only [Act.put]; intro wv hbv hgv; have HBx := Lib.hid hbv; have HNv := Lib.hid (below_new hgv); have HXv : Hid (Below w.heap.size w wv) := Lib.hid (below_step HX.out (below_new hgv)); have k0 := HBx.out.cellAt (i := 0) rfl; have HRv : Hid (wv.rangeAt wr.heap.size 1 (Vo.cells x.2)) := Lib.hid (Blk.range (pre := [.int .i64 x.1]) (post := []) (by simpa [onC] using HBx.out)); have HBvv := Lib.hid (HBv.out.through (below_new hgv)); have HOv := Lib.hid (HO.out.through (below_new hgv)); have HX7_ := Lib.hid (below_step HX.out (below_new hgv)); have HS7_ : Hid (w.heap.size + 1 ≤ wv.heap.size) := Lib.hid (Nat.le_trans HS.out (below_new hgv).size); have HNr : Hid (wr.heap.size < wv.heap.size) := Lib.hid HBx.out.lt; have HWr := Lib.hid (fun b hb => (HO.out.1.lt b hb).2); clear hbv hgv)
      | (refine wpList_load_blk rfl 29 (.tmp 5) rfl w.heap.size rfl 29 (Vo.cells v) _ HBvv.out Try.underlying29 rfl (by rw [HVL.out]; kernel_rfl) ?_)
      | (refine wpList_build_to rfl 92 _ rfl [(0, .int .i64 who), (1, .agg (Vo.cells v).toArray)] rfl (.agg (onC (who, v)).toArray) (Try.build_on who v HVv.out _) ?_)
      | (refine wpList_build_el rfl Try.el_on (.tmp 28) rfl (onC (who, v)) rfl HEl.out ?_)
      | (at_builtin; refine wpList_append_el rfl Try.el_on (.tmp 25) (.tmp 29) rfl (w.heap.size + 1) (.slice A2 n2 c2) (out.map onC) rfl (HOv.out.1.alloc (.cells (onC (who, v)).toArray 92)) wv.heap.size (onC (who, v)) rfl (Blk.fresh rfl rfl) HEl.out (fun u hu => Array.all_eq_true_iff_forall_mem.1 (onC_one (who, v)) u (by simpa using hu)) (by rw [List.length_map]; (try rw [List.length_append]); have := HOl.out; have := HKk.out; (try simp); omega) (by have := HS7_.out; (try simp); omega) ?_; intro v7 w7 ho7 hg7; have HW7 := Lib.hid (fun b hb => (HOv.out.1.lt b hb)); obtain ⟨A7, N7, c7, rfl⟩ : ∃ (A : Option Addr) (N c : Nat), v7 = .slice A N c := (by obtain ⟨A, c, h9, _⟩ := ho7.out; exact ⟨A, _, c, h9⟩); have HO7 : Hid (OOn w7 (w.heap.size + 1) (.slice A7 N7 c7) (out ++ [(who, v)])) := Lib.hid ⟨by rw [List.map_append]; exact ho7, fun y hy => (List.mem_append.1 hy).elim (HOv.out.2 y) (fun h9 => by rw [List.mem_singleton.1 h9]; exact HVv.out)⟩; have HBv7 := Lib.hid ((HBvv.out.through (below1_ wv (.cells (onC (who, v)).toArray 92))).grown hg7 (fun e => by have := HW7.out _ e.symm; omega)); have HBx7 := Lib.hid ((HBx.out.through (below1_ wv (.cells (onC (who, v)).toArray 92))).grown hg7 (fun e => by have := HW7.out _ e.symm; have := HWr.out _ e.symm; omega)); have HX7 : Hid (Below w.heap.size w w7) := Lib.hid ((HX7_.out.alloc HX7_.out.size _).grown hg7 (HX7_.out.alloc HX7_.out.size _).size (fun b hb => by have := (HW7.out b hb).1; omega)); have HS7 : Hid ((w.heap.size + 1) ≤ w7.heap.size) := Lib.hid (by have := HS7_.out; have := hg7.size; (try simp at this); omega); have HX8_ := HX7; have HS8_ := HS7; have k07 := HBx7.out.cellAt (i := 0) rfl; clear ho7 hg7 k0))
     go_roundw
     case rel => exact ⟨i + 1, true, out ++ [(who, v)], A7, N7, c7, by omega, by go_num, rfl, rfl, HP.out, by have := HOl.out; (try simp only [List.length_append, List.length_cons, List.length_nil]); omega, HO7.out, HBv7.out, HX7.out, HS7.out⟩
     case measure => simp [intOf]; omega
    ·have d2 : (x.1 != who) = true := by simpa using he
     rw [if_neg he] at hp
     have HP := Lib.hid hp
     clear hp hd hrx hxl he hmem hw
     go_wp2_with (first
      | (refine wpList_load_mid rfl 92 (.tmp 15) rfl g (o + i * 35) rfl (onC x) _ HRx.out Try.underlying92 rfl (by rw [HXl.out]; kernel_rfl) ?_)
      | (refine wpList_store_blk rfl 92 (.tmp 10) (.tmp 16) rfl wr.heap.size (onC x) rfl rfl 92 (onC (0, voZ)) (Blk.fresh rfl rfl) (by rw [HXl.out]; kernel_rfl) (by rw [HXl.out]; rfl) (onC_one x) ?_; simp only [Act.put]; intro wv hbv hgv; have HBx := Lib.hid hbv; have HNv := Lib.hid (below_new hgv); have HXv : Hid (Below w.heap.size w wv) := Lib.hid (below_step HX.out (below_new hgv)); have k0 := HBx.out.cellAt (i := 0) rfl; have HRv : Hid (wv.rangeAt wr.heap.size 1 (Vo.cells x.2)) := Lib.hid (Blk.range (pre := [.int .i64 x.1]) (post := []) (by simpa [onC] using HBx.out)); have HBvv := Lib.hid (HBv.out.through (below_new hgv)); have HOv := Lib.hid (HO.out.through (below_new hgv)); have HX7_ := Lib.hid (below_step HX.out (below_new hgv)); have HS7_ : Hid (w.heap.size + 1 ≤ wv.heap.size) := Lib.hid (Nat.le_trans HS.out (below_new hgv).size); have HNr : Hid (wr.heap.size < wv.heap.size) := Lib.hid HBx.out.lt; have HWr := Lib.hid (fun b hb => (HO.out.1.lt b hb).2); clear hbv hgv)
      | (refine wpList_load_blk rfl 29 (.tmp 5) rfl w.heap.size rfl 29 (Vo.cells v) _ HBvv.out Try.underlying29 rfl (by rw [HVL.out]; kernel_rfl) ?_)
      | (refine wpList_build_to rfl 92 _ rfl [(0, .int .i64 who), (1, .agg (Vo.cells v).toArray)] rfl (.agg (onC (who, v)).toArray) (Try.build_on who v HVv.out _) ?_)
      | (refine wpList_build_el rfl Try.el_on (.tmp 28) rfl (onC (who, v)) rfl HEl.out ?_)
      | (at_builtin; refine wpList_append_el rfl Try.el_on (.tmp 25) (.tmp 29) rfl (w.heap.size + 1) (.slice A2 n2 c2) (out.map onC) rfl (HOv.out.1.alloc (.cells (onC (who, v)).toArray 92)) wv.heap.size (onC (who, v)) rfl (Blk.fresh rfl rfl) HEl.out (fun u hu => Array.all_eq_true_iff_forall_mem.1 (onC_one (who, v)) u (by simpa using hu)) (by rw [List.length_map]; (try rw [List.length_append]); have := HOl.out; have := HKk.out; (try simp); omega) (by have := HS7_.out; (try simp); omega) ?_; intro v7 w7 ho7 hg7; have HW7 := Lib.hid (fun b hb => (HOv.out.1.lt b hb)); obtain ⟨A7, N7, c7, rfl⟩ : ∃ (A : Option Addr) (N c : Nat), v7 = .slice A N c := (by obtain ⟨A, c, h9, _⟩ := ho7.out; exact ⟨A, _, c, h9⟩); have HO7 : Hid (OOn w7 (w.heap.size + 1) (.slice A7 N7 c7) (out ++ [(who, v)])) := Lib.hid ⟨by rw [List.map_append]; exact ho7, fun y hy => (List.mem_append.1 hy).elim (HOv.out.2 y) (fun h9 => by rw [List.mem_singleton.1 h9]; exact HVv.out)⟩; have HBv7 := Lib.hid ((HBvv.out.through (below1_ wv (.cells (onC (who, v)).toArray 92))).grown hg7 (fun e => by have := HW7.out _ e.symm; omega)); have HBx7 := Lib.hid ((HBx.out.through (below1_ wv (.cells (onC (who, v)).toArray 92))).grown hg7 (fun e => by have := HW7.out _ e.symm; have := HWr.out _ e.symm; omega)); have HX7 : Hid (Below w.heap.size w w7) := Lib.hid ((HX7_.out.alloc HX7_.out.size _).grown hg7 (HX7_.out.alloc HX7_.out.size _).size (fun b hb => by have := (HW7.out b hb).1; omega)); have HS7 : Hid ((w.heap.size + 1) ≤ w7.heap.size) := Lib.hid (by have := HS7_.out; have := hg7.size; (try simp at this); omega); have HX8_ := HX7; have HS8_ := HS7; have k07 := HBx7.out.cellAt (i := 0) rfl; clear ho7 hg7 k0)
      | (refine wpList_load_blk rfl 92 (.tmp 10) rfl wr.heap.size rfl 92 (onC x) _ HBx7.out Try.underlying92 rfl (by rw [HXl.out]; kernel_rfl) ?_)
      | (refine wpList_build_el rfl Try.el_on (.tmp 36) rfl (onC x) rfl HXl.out ?_)
      | (at_builtin; refine wpList_append_el rfl Try.el_on (.tmp 35) (.tmp 37) rfl (w.heap.size + 1) (.slice A7 N7 c7) ((out ++ [(who, v)]).map onC) rfl (HO7.out.1.alloc (.cells (onC x).toArray 92)) w7.heap.size (onC x) rfl (Blk.fresh rfl rfl) HXl.out (fun u hu => Array.all_eq_true_iff_forall_mem.1 (onC_one x) u (by simpa using hu)) (by rw [List.length_map]; (try rw [List.length_append]); have := HOl.out; have := HKk.out; (try simp); omega) (by have := HS8_.out; (try simp); omega) ?_; intro v8 w8 ho8 hg8; have HW8 := Lib.hid (fun b hb => (HO7.out.1.lt b hb)); obtain ⟨A8, N8, c8, rfl⟩ : ∃ (A : Option Addr) (N c : Nat), v8 = .slice A N c := (by obtain ⟨A, c, h9, _⟩ := ho8.out; exact ⟨A, _, c, h9⟩); have HO8 : Hid (OOn w8 (w.heap.size + 1) (.slice A8 N8 c8) ((out ++ [(who, v)]) ++ [x])) := Lib.hid ⟨by rw [List.map_append]; exact ho8, fun y hy => (List.mem_append.1 hy).elim (HO7.out.2 y) (fun h9 => by rw [List.mem_singleton.1 h9]; exact HXd.out)⟩; have HBv8 := Lib.hid ((HBv7.out.through (below1_ w7 (.cells (onC x).toArray 92))).grown hg8 (fun e => by have := HW8.out _ e.symm; omega)); have HX8 : Hid (Below w.heap.size w w8) := Lib.hid ((HX8_.out.alloc HX8_.out.size _).grown hg8 (HX8_.out.alloc HX8_.out.size _).size (fun b hb => by have := (HW8.out b hb).1; omega)); have HS8 : Hid ((w.heap.size + 1) ≤ w8.heap.size) := Lib.hid (by have := HS8_.out; have := hg8.size; (try simp at this); omega); clear ho8 hg8))
     go_roundw
     case rel => exact ⟨i + 1, true, out ++ [(who, v)] ++ [x], A8, N8, c8, by omega, by go_num, rfl, rfl, HP.out, by have := HOl.out; (try simp only [List.length_append, List.length_cons, List.length_nil]); omega, HO8.out, HBv8.out, HX8.out, HS8.out⟩
     case measure => simp [intOf]; omega
   ·rw [if_neg hc] at hp
    have hgd : pl = true ∨ (pl = false ∧ decide (who ≤ x.1) = false) := by
     cases pl with
     | true => exact .inl rfl
     | false => exact .inr ⟨rfl, by simp; have : ¬ who ≤ x.1 := fun h9 => hc ⟨rfl, h9⟩; omega⟩
    have fin : ∀ _ : True, True := fun _ => trivial
    by_cases he : x.1 = who
    ·have d2 : (x.1 != who) = false := by simpa using he
     rw [if_pos he] at hp
     have HP := Lib.hid hp
     clear hp hd hrx hxl he hmem hc fin
     rcases hgd with rfl | ⟨rfl, d1⟩
     ·go_wp2_with (first
       | go_skip
       | (refine wpList_load_mid rfl 92 (.tmp 15) rfl g (o + i * 35) rfl (onC x) _ HRx.out Try.underlying92 rfl (by rw [HXl.out]; kernel_rfl) ?_)
       | (refine wpList_store_blk rfl 92 (.tmp 10) (.tmp 16) rfl wr.heap.size (onC x) rfl rfl 92 (onC (0, voZ)) (Blk.fresh rfl rfl) (by rw [HXl.out]; kernel_rfl) (by rw [HXl.out]; rfl) (onC_one x) ?_; simp only [Act.put]; intro wv hbv hgv; have HBx := Lib.hid hbv; have HNv := Lib.hid (below_new hgv); have HXv : Hid (Below w.heap.size w wv) := Lib.hid (below_step HX.out (below_new hgv)); have k0 := HBx.out.cellAt (i := 0) rfl; have HRv : Hid (wv.rangeAt wr.heap.size 1 (Vo.cells x.2)) := Lib.hid (Blk.range (pre := [.int .i64 x.1]) (post := []) (by simpa [onC] using HBx.out)); have HBvv := Lib.hid (HBv.out.through (below_new hgv)); have HOv := Lib.hid (HO.out.through (below_new hgv)); have HX7_ := Lib.hid (below_step HX.out (below_new hgv)); have HS7_ : Hid (w.heap.size + 1 ≤ wv.heap.size) := Lib.hid (Nat.le_trans HS.out (below_new hgv).size); have HNr : Hid (wr.heap.size < wv.heap.size) := Lib.hid HBx.out.lt; have HWr := Lib.hid (fun b hb => (HO.out.1.lt b hb).2); clear hbv hgv))
      go_roundw
      case rel => exact ⟨i + 1, true, out, A2, n2, c2, by omega, by go_num, rfl, rfl, HP.out, by have := HOl.out; omega, HOv.out, HBvv.out, HX7_.out, HS7_.out⟩
      case measure => simp [intOf]; omega
     ·go_wp2_with (first
       | go_skip
       | (refine wpList_load_mid rfl 92 (.tmp 15) rfl g (o + i * 35) rfl (onC x) _ HRx.out Try.underlying92 rfl (by rw [HXl.out]; kernel_rfl) ?_)
       | (refine wpList_store_blk rfl 92 (.tmp 10) (.tmp 16) rfl wr.heap.size (onC x) rfl rfl 92 (onC (0, voZ)) (Blk.fresh rfl rfl) (by rw [HXl.out]; kernel_rfl) (by rw [HXl.out]; rfl) (onC_one x) ?_; simp only [Act.put]; intro wv hbv hgv; have HBx := Lib.hid hbv; have HNv := Lib.hid (below_new hgv); have HXv : Hid (Below w.heap.size w wv) := Lib.hid (below_step HX.out (below_new hgv)); have k0 := HBx.out.cellAt (i := 0) rfl; have HRv : Hid (wv.rangeAt wr.heap.size 1 (Vo.cells x.2)) := Lib.hid (Blk.range (pre := [.int .i64 x.1]) (post := []) (by simpa [onC] using HBx.out)); have HBvv := Lib.hid (HBv.out.through (below_new hgv)); have HOv := Lib.hid (HO.out.through (below_new hgv)); have HX7_ := Lib.hid (below_step HX.out (below_new hgv)); have HS7_ : Hid (w.heap.size + 1 ≤ wv.heap.size) := Lib.hid (Nat.le_trans HS.out (below_new hgv).size); have HNr : Hid (wr.heap.size < wv.heap.size) := Lib.hid HBx.out.lt; have HWr := Lib.hid (fun b hb => (HO.out.1.lt b hb).2); clear hbv hgv))
      go_roundw
      case rel => exact ⟨i + 1, false, out, A2, n2, c2, by omega, by go_num, rfl, rfl, HP.out, by have := HOl.out; omega, HOv.out, HBvv.out, HX7_.out, HS7_.out⟩
      case measure => simp [intOf]; omega
    ·have d2 : (x.1 != who) = true := by simpa using he
     rw [if_neg he] at hp
     have HP := Lib.hid hp
     clear hp hd hrx hxl he hmem hc fin
     rcases hgd with rfl | ⟨rfl, d1⟩
     ·go_wp2_with (first
       | go_skip
       | (refine wpList_load_mid rfl 92 (.tmp 15) rfl g (o + i * 35) rfl (onC x) _ HRx.out Try.underlying92 rfl (by rw [HXl.out]; kernel_rfl) ?_)
       | (refine wpList_store_blk rfl 92 (.tmp 10) (.tmp 16) rfl wr.heap.size (onC x) rfl rfl 92 (onC (0, voZ)) (Blk.fresh rfl rfl) (by rw [HXl.out]; kernel_rfl) (by rw [HXl.out]; rfl) (onC_one x) ?_; simp only [Act.put]; intro wv hbv hgv; have HBx := Lib.hid hbv; have HNv := Lib.hid (below_new hgv); have HXv : Hid (Below w.heap.size w wv) := Lib.hid (below_step HX.out (below_new hgv)); have k0 := HBx.out.cellAt (i := 0) rfl; have HRv : Hid (wv.rangeAt wr.heap.size 1 (Vo.cells x.2)) := Lib.hid (Blk.range (pre := [.int .i64 x.1]) (post := []) (by simpa [onC] using HBx.out)); have HBvv := Lib.hid (HBv.out.through (below_new hgv)); have HOv := Lib.hid (HO.out.through (below_new hgv)); have HX7_ := Lib.hid (below_step HX.out (below_new hgv)); have HS7_ : Hid (w.heap.size + 1 ≤ wv.heap.size) := Lib.hid (Nat.le_trans HS.out (below_new hgv).size); have HNr : Hid (wr.heap.size < wv.heap.size) := Lib.hid HBx.out.lt; have HWr := Lib.hid (fun b hb => (HO.out.1.lt b hb).2); have HX8_ := HX7_; have HS8_ := HS7_; clear hbv hgv)
       | (refine wpList_load_blk rfl 92 (.tmp 10) rfl wr.heap.size rfl 92 (onC x) _ HBx.out Try.underlying92 rfl (by rw [HXl.out]; kernel_rfl) ?_)
       | (refine wpList_build_el rfl Try.el_on (.tmp 36) rfl (onC x) rfl HXl.out ?_)
       | (at_builtin; refine wpList_append_el rfl Try.el_on (.tmp 35) (.tmp 37) rfl (w.heap.size + 1) (.slice A2 n2 c2) (out.map onC) rfl (HOv.out.1.alloc (.cells (onC x).toArray 92)) wv.heap.size (onC x) rfl (Blk.fresh rfl rfl) HXl.out (fun u hu => Array.all_eq_true_iff_forall_mem.1 (onC_one x) u (by simpa using hu)) (by rw [List.length_map]; (try rw [List.length_append]); have := HOl.out; have := HKk.out; (try simp); omega) (by have := HS8_.out; (try simp); omega) ?_; intro v8 w8 ho8 hg8; have HW8 := Lib.hid (fun b hb => (HOv.out.1.lt b hb)); obtain ⟨A8, N8, c8, rfl⟩ : ∃ (A : Option Addr) (N c : Nat), v8 = .slice A N c := (by obtain ⟨A, c, h9, _⟩ := ho8.out; exact ⟨A, _, c, h9⟩); have HO8 : Hid (OOn w8 (w.heap.size + 1) (.slice A8 N8 c8) (out ++ [x])) := Lib.hid ⟨by rw [List.map_append]; exact ho8, fun y hy => (List.mem_append.1 hy).elim (HOv.out.2 y) (fun h9 => by rw [List.mem_singleton.1 h9]; exact HXd.out)⟩; have HBv8 := Lib.hid ((HBvv.out.through (below1_ wv (.cells (onC x).toArray 92))).grown hg8 (fun e => by have := HW8.out _ e.symm; omega)); have HX8 : Hid (Below w.heap.size w w8) := Lib.hid ((HX8_.out.alloc HX8_.out.size _).grown hg8 (HX8_.out.alloc HX8_.out.size _).size (fun b hb => by have := (HW8.out b hb).1; omega)); have HS8 : Hid ((w.heap.size + 1) ≤ w8.heap.size) := Lib.hid (by have := HS8_.out; have := hg8.size; (try simp at this); omega); clear ho8 hg8))
      go_roundw
      case rel => exact ⟨i + 1, true, out ++ [x], A8, N8, c8, by omega, by go_num, rfl, rfl, HP.out, by have := HOl.out; (try simp only [List.length_append, List.length_cons, List.length_nil]); omega, HO8.out, HBv8.out, HX8.out, HS8.out⟩
      case measure => simp [intOf]; omega
     ·go_wp2_with (first
       | go_skip
       | (refine wpList_load_mid rfl 92 (.tmp 15) rfl g (o + i * 35) rfl (onC x) _ HRx.out Try.underlying92 rfl (by rw [HXl.out]; kernel_rfl) ?_)
       | (refine wpList_store_blk rfl 92 (.tmp 10) (.tmp 16) rfl wr.heap.size (onC x) rfl rfl 92 (onC (0, voZ)) (Blk.fresh rfl rfl) (by rw [HXl.out]; kernel_rfl) (by rw [HXl.out]; rfl) (onC_one x) ?_; simp only [Act.put]; intro wv hbv hgv; have HBx := Lib.hid hbv; have HNv := Lib.hid (below_new hgv); have HXv : Hid (Below w.heap.size w wv) := Lib.hid (below_step HX.out (below_new hgv)); have k0 := HBx.out.cellAt (i := 0) rfl; have HRv : Hid (wv.rangeAt wr.heap.size 1 (Vo.cells x.2)) := Lib.hid (Blk.range (pre := [.int .i64 x.1]) (post := []) (by simpa [onC] using HBx.out)); have HBvv := Lib.hid (HBv.out.through (below_new hgv)); have HOv := Lib.hid (HO.out.through (below_new hgv)); have HX7_ := Lib.hid (below_step HX.out (below_new hgv)); have HS7_ : Hid (w.heap.size + 1 ≤ wv.heap.size) := Lib.hid (Nat.le_trans HS.out (below_new hgv).size); have HNr : Hid (wr.heap.size < wv.heap.size) := Lib.hid HBx.out.lt; have HWr := Lib.hid (fun b hb => (HO.out.1.lt b hb).2); have HX8_ := HX7_; have HS8_ := HS7_; clear hbv hgv)
       | (refine wpList_load_blk rfl 92 (.tmp 10) rfl wr.heap.size rfl 92 (onC x) _ HBx.out Try.underlying92 rfl (by rw [HXl.out]; kernel_rfl) ?_)
       | (refine wpList_build_el rfl Try.el_on (.tmp 36) rfl (onC x) rfl HXl.out ?_)
       | (at_builtin; refine wpList_append_el rfl Try.el_on (.tmp 35) (.tmp 37) rfl (w.heap.size + 1) (.slice A2 n2 c2) (out.map onC) rfl (HOv.out.1.alloc (.cells (onC x).toArray 92)) wv.heap.size (onC x) rfl (Blk.fresh rfl rfl) HXl.out (fun u hu => Array.all_eq_true_iff_forall_mem.1 (onC_one x) u (by simpa using hu)) (by rw [List.length_map]; (try rw [List.length_append]); have := HOl.out; have := HKk.out; (try simp); omega) (by have := HS8_.out; (try simp); omega) ?_; intro v8 w8 ho8 hg8; have HW8 := Lib.hid (fun b hb => (HOv.out.1.lt b hb)); obtain ⟨A8, N8, c8, rfl⟩ : ∃ (A : Option Addr) (N c : Nat), v8 = .slice A N c := (by obtain ⟨A, c, h9, _⟩ := ho8.out; exact ⟨A, _, c, h9⟩); have HO8 : Hid (OOn w8 (w.heap.size + 1) (.slice A8 N8 c8) (out ++ [x])) := Lib.hid ⟨by rw [List.map_append]; exact ho8, fun y hy => (List.mem_append.1 hy).elim (HOv.out.2 y) (fun h9 => by rw [List.mem_singleton.1 h9]; exact HXd.out)⟩; have HBv8 := Lib.hid ((HBvv.out.through (below1_ wv (.cells (onC x).toArray 92))).grown hg8 (fun e => by have := HW8.out _ e.symm; omega)); have HX8 : Hid (Below w.heap.size w w8) := Lib.hid ((HX8_.out.alloc HX8_.out.size _).grown hg8 (HX8_.out.alloc HX8_.out.size _).size (fun b hb => by have := (HW8.out b hb).1; omega)); have HS8 : Hid ((w.heap.size + 1) ≤ w8.heap.size) := Lib.hid (by have := HS8_.out; have := hg8.size; (try simp at this); omega); clear ho8 hg8))
      go_roundw
      case rel => exact ⟨i + 1, false, out ++ [x], A8, N8, c8, by omega, by go_num, rfl, rfl, HP.out, by have := HOl.out; (try simp only [List.length_append, List.length_cons, List.length_nil]); omega, HO8.out, HBv8.out, HX8.out, HS8.out⟩
      case measure => simp [intOf]; omega
  ·have e9 : l.drop i = [] := List.drop_of_length_le (by have := HLn.out; omega)
   rw [e9, chGo] at hp
   have HX9_ := HX
   have HS9_ := HS
   clear e9
   cases pl with
   | true =>
    rw [if_pos rfl] at hp
    have HP := Lib.hid hp
    clear hp
    go_wp2
    go_ret
    exact ⟨A2, n2, c2, rfl, by rw [← HP.out]; exact HO.out.weak (by omega), HX.out⟩
   | false =>
    rw [if_neg (by decide)] at hp
    have HP := Lib.hid hp
    clear hp
    go_wp2_with (first
     | (refine wpList_load_blk rfl 29 (.tmp 5) rfl w.heap.size rfl 29 (Vo.cells v) _ HBv.out Try.underlying29 rfl (by rw [HVL.out]; kernel_rfl) ?_)
     | (refine wpList_build_to rfl 92 _ rfl [(0, .int .i64 who), (1, .agg (Vo.cells v).toArray)] rfl (.agg (onC (who, v)).toArray) (Try.build_on who v HVv.out _) ?_)
     | (refine wpList_build_el rfl Try.el_on (.tmp 45) rfl (onC (who, v)) rfl HEl.out ?_)
     | (at_builtin; refine wpList_append_el rfl Try.el_on (.tmp 42) (.tmp 46) rfl (w.heap.size + 1) (.slice A2 n2 c2) (out.map onC) rfl (HO.out.1.alloc (.cells (onC (who, v)).toArray 92)) wr.heap.size (onC (who, v)) rfl (Blk.fresh rfl rfl) HEl.out (fun u hu => Array.all_eq_true_iff_forall_mem.1 (onC_one (who, v)) u (by simpa using hu)) (by rw [List.length_map]; (try rw [List.length_append]); have := HOl.out; have := HKk.out; (try simp); omega) (by have := HS9_.out; (try simp); omega) ?_; intro v9 w9 ho9 hg9; have HW9 := Lib.hid (fun b hb => (HO.out.1.lt b hb)); obtain ⟨A9, N9, c9, rfl⟩ : ∃ (A : Option Addr) (N c : Nat), v9 = .slice A N c := (by obtain ⟨A, c, h9, _⟩ := ho9.out; exact ⟨A, _, c, h9⟩); have HO9 : Hid (OOn w9 (w.heap.size + 1) (.slice A9 N9 c9) (out ++ [(who, v)])) := Lib.hid ⟨by rw [List.map_append]; exact ho9, fun y hy => (List.mem_append.1 hy).elim (HO.out.2 y) (fun h9 => by rw [List.mem_singleton.1 h9]; exact HVv.out)⟩; have HX9 : Hid (Below w.heap.size w w9) := Lib.hid ((HX9_.out.alloc HX9_.out.size _).grown hg9 (HX9_.out.alloc HX9_.out.size _).size (fun b hb => by have := (HW9.out b hb).1; omega)); have HS9 : Hid ((w.heap.size + 1) ≤ w9.heap.size) := Lib.hid (by have := HS9_.out; have := hg9.size; (try simp at this); omega); clear ho9 hg9))
    go_ret
    exact ⟨A9, N9, c9, rfl, by rw [← HP.out]; exact HO9.out.weak (by omega), HX9.out⟩

end Go.Proofs.Ytkpgjcahmpekbaa
