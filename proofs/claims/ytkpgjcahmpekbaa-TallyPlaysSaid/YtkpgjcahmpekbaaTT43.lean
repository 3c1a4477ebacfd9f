/-
  Joined: TaO.
-/
import Derived.Test.YtkpgjcahmpekbaaTT18
namespace Go.Proofs.Ytkpgjcahmpekbaa
open Go.RowKit

set_option maxHeartbeats 16000000 in
set_option maxRecDepth 100000 in
theorem rof_any_ (l : Tl) (who : Int) (A : Option Addr) (k c : Nat) (w : World) (h : OnIn w A k l) (hk : k ≤ 1000000) :
  Calls Try.prog 9 #[.slice A k c, .int .i64 who] w fun e w' => e = .returned (.tuple #[.agg (Vo.cells ((ofL l who).getD voZ)).toArray, .bool (ofL l who).isSome]) ∧ Below w.heap.size w w' := by
 have HI := Lib.hid h
 have HLn := Lib.hid h.len
 obtain ⟨r1, hr1⟩ : ∃ r, r = Vo.cells voZ := ⟨_, rfl⟩
 have hz : ∀ W, (zeroValue 29).run Try.prog W = .ok (.agg r1.toArray) W := fun W => by rw [hr1]; exact Try.zero_vo W
 have hb0 : ∀ W, (Instr.build 29 #[]).run Try.prog W = .ok (.agg r1.toArray) W := fun W => by rw [hr1]; exact Try.bld_vo W
 have HR1 := Lib.hid hr1
 have HR1l : Hid (r1.length = 34) := Lib.hid (by rw [hr1]; rfl)
 have HR1o : Hid (r1.toArray.all (·.oneCell') = true) := Lib.hid (by rw [hr1]; exact Vo.one _)
 have HZ0 : Hid (Blk (w.alloc (.cells r1.toArray 29)) w.heap.size 29 r1) := Lib.hid (Blk.fresh rfl rfl)
 have HX0 : Hid (Below w.heap.size w (w.alloc (.cells r1.toArray 29))) := Lib.hid (below1_ w _)
 obtain ⟨q, hq⟩ : ∃ q, ofL l who = q := ⟨_, rfl⟩
 have HQ0 : Hid (ofL (l.drop 0) who = q) := Lib.hid (by rw [List.drop_zero]; exact hq)
 rw [hq]
 clear h hr1 hq
 go_enter Try.func9, Try.ntmps9
 go_wp2
 go_loopw [10] (fun iv wr => ∃ i : Nat, i ≤ k ∧ iv = .int .i64 (i : Int) ∧ ofL (l.drop i) who = q ∧ Blk wr w.heap.size 29 r1 ∧ Below w.heap.size w wr) (fun iv _ => k - (intOf iv).toNat)
 case atStart => exact ⟨0, Nat.zero_le _, rfl, HQ0.out, HZ0.out, HX0.out⟩
 case round =>
  obtain ⟨i, hi, rfl, hp, hbz, hx⟩ := hrel
  have HX := Lib.hid hx
  have HBz := Lib.hid hbz
  clear hx hbz
  by_cases hlt : i < k
  ·obtain ⟨g, o, x, rfl, _, hmem, hd, hxl, hrx⟩ := (HI.out.through HX.out).at hlt
   have HRx := Lib.hid hrx
   have HXl : Hid ((onC x).length = 35) := Lib.hid (onC_len x hxl)
   have HVl : Hid ((Vo.cells x.2).length = 34) := Lib.hid (Vo.cells_len x.2 hxl)
   have hix := Try.ix_on wr g o k c i hlt
   rw [hd, ofL] at hp
   by_cases he : x.1 = who
   ·have hd1 : (x.1 == who) = true := by simpa using he
    rw [if_pos he] at hp
    have HQ := Lib.hid hp.symm
    clear hp hd hrx hxl he hmem
    go_wp2_with (first
     | (refine wpList_load_mid rfl 92 (.tmp 12) rfl g (o + i * 35) rfl (onC x) _ HRx.out Try.underlying92 rfl (by rw [HXl.out]; kernel_rfl) ?_)
     | (refine wpList_store_blk rfl 92 (.tmp 7) (.tmp 13) rfl wr.heap.size (onC x) rfl rfl 92 (onC (0, voZ)) (Blk.fresh rfl rfl) (by rw [HXl.out]; kernel_rfl) (by rw [HXl.out]; rfl) (onC_one x) ?_; simp only [Act.put]; intro wv hbv hgv; have HBx := Lib.hid hbv; have HNv := Lib.hid (below_new hgv); have HXv : Hid (Below w.heap.size w wv) := Lib.hid (below_step HX.out (below_new hgv)); have k0 := HBx.out.cellAt (i := 0) rfl; have HRv : Hid (wv.rangeAt wr.heap.size 1 (Vo.cells x.2)) := Lib.hid (Blk.range (pre := [.int .i64 x.1]) (post := []) (by simpa [onC] using HBx.out)); have HBzv := Lib.hid (HBz.out.through (below_new hgv)); have HXB := HXv; clear hbv hgv)
     | (refine wpList_load_mid rfl 29 (.tmp 18) rfl wr.heap.size 1 rfl (Vo.cells x.2) _ HRv.out Try.underlying29 rfl (by rw [HVl.out]; kernel_rfl) ?_)
     | (refine wpList_store_blk rfl 29 (.tmp 4) (.tmp 19) rfl w.heap.size (Vo.cells x.2) rfl rfl 29 r1 HBzv.out (by rw [HVl.out]; kernel_rfl) (by rw [HVl.out, HR1l.out]) (Vo.one x.2) ?_; intro wy hby hgy; have HBy := Lib.hid hby; have HXy := Lib.hid (HXB.out.grown hgy HXB.out.size (fun b hb => by have := Option.some.inj hb; omega)); clear hby hgy))
    (try simp only [Exit.inBlock, Exit.then]); refine bodyPost_ret (results_cell_row_tmp1 rfl _ _ w.heap.size 29 _ (0, 0) _ rfl HBy.out Try.underlying29 rfl (by rw [List.size_toArray, HVl.out]; kernel_rfl)) rfl ?_
    exact ⟨by rw [HQ.out]; rfl, HXy.out⟩
   ·have hd1 : (x.1 == who) = false := by simpa using he
    rw [if_neg he] at hp
    have HQ := Lib.hid hp
    clear hp hd hrx hxl he hmem
    go_wp2_with (first
     | (refine wpList_load_mid rfl 92 (.tmp 12) rfl g (o + i * 35) rfl (onC x) _ HRx.out Try.underlying92 rfl (by rw [HXl.out]; kernel_rfl) ?_)
     | (refine wpList_store_blk rfl 92 (.tmp 7) (.tmp 13) rfl wr.heap.size (onC x) rfl rfl 92 (onC (0, voZ)) (Blk.fresh rfl rfl) (by rw [HXl.out]; kernel_rfl) (by rw [HXl.out]; rfl) (onC_one x) ?_; simp only [Act.put]; intro wv hbv hgv; have HBx := Lib.hid hbv; have HNv := Lib.hid (below_new hgv); have HXv : Hid (Below w.heap.size w wv) := Lib.hid (below_step HX.out (below_new hgv)); have k0 := HBx.out.cellAt (i := 0) rfl; have HRv : Hid (wv.rangeAt wr.heap.size 1 (Vo.cells x.2)) := Lib.hid (Blk.range (pre := [.int .i64 x.1]) (post := []) (by simpa [onC] using HBx.out)); have HBzv := Lib.hid (HBz.out.through (below_new hgv)); clear hbv hgv))
    go_roundw
    case rel => exact ⟨i + 1, by omega, by go_num, HQ.out, HBzv.out, HXv.out⟩
    case measure => simp [intOf]; omega
  ·have e9 : l.drop i = [] := List.drop_of_length_le (by have := HLn.out; omega)
   rw [e9] at hp
   have HQ : Hid (q = none) := Lib.hid hp.symm
   have HXB := HX
   clear e9 hp
   go_wp2_with (first
    | (refine wpList_store_blk rfl 29 (.tmp 4) (.tmp 21) rfl w.heap.size r1 rfl rfl 29 r1 HBz.out (by rw [HR1l.out]; kernel_rfl) rfl HR1o.out ?_; intro wy hby hgy; have HBy := Lib.hid hby; have HXy := Lib.hid (HXB.out.grown hgy HXB.out.size (fun b hb => by have := Option.some.inj hb; omega)); clear hby hgy))
   (try simp only [Exit.inBlock, Exit.then]); refine bodyPost_ret (results_cell_row_tmp1 rfl _ _ w.heap.size 29 _ (0, 0) _ rfl HBy.out Try.underlying29 rfl (by rw [List.size_toArray, HR1l.out]; kernel_rfl)) rfl ?_
   exact ⟨by rw [HQ.out, HR1.out]; rfl, HXy.out⟩

end Go.Proofs.Ytkpgjcahmpekbaa
