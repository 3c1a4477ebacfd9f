/-
  Joined: TwWP.
-/
import Derived.Test.YtkpgjcahmpekbaaTU27
import Derived.Test.YtkpgjcahmpekbaaTU36
namespace Go.Proofs.Ytkpgjcahmpekbaa
open Go.RowKit

set_option maxHeartbeats 16000000 in
set_option maxRecDepth 100000 in
theorem least_P {w : World} {g gv gc : Nat} {M : List (Int × (UInt8 × UInt8))} (at_ : Int) (h : TlR 111 encP (fun _ => True) w g gv gc M) (hi : ∀ p ∈ M, In64 p.1) (hs : M.length ≤ 100000) :
  Calls Try.prog 33 #[(.pointer (some ⟨g, 0, none⟩)), .int .i64 at_] w fun e w' => e = .returned (.tuple #[encP ((leastT M (0, 0) at_).getD (0, 0)), .bool (leastT M (0, 0) at_).isSome]) ∧ Below w.heap.size w w' := by
 have hz : ∀ W, (zeroValue 57).run Try.prog W = .ok (.agg (prC (0, 0)).toArray) W := fun W => Try.zero_p W
 have HZl : Hid ((prC (0, 0)).length = 2) := Lib.hid (P_len _ P_okz)
 have HIn := Lib.hid hi
 have HMs : Hid (M.length ≤ 1000000) := Lib.hid (by omega)
 have X1 := below1_ w (.cells (prC (0, 0)).toArray 57)
 have HX1 := Lib.hid X1
 have HT1 := Lib.hid (h.through X1)
 have HZ1 : Hid (Blk (w.alloc (.cells (prC (0, 0)).toArray 57)) w.heap.size 57 (prC (0, 0))) := Lib.hid (Blk.fresh rfl rfl)
 have HZ2 : Hid (Blk ((w.alloc (.cells (prC (0, 0)).toArray 57)).alloc (.cells (prC (0, 0)).toArray 57)) w.heap.size 57 (prC (0, 0))) := Lib.hid (HZ1.out.alloc _)
 have HZ3 : Hid (Blk ((w.alloc (.cells (prC (0, 0)).toArray 57)).alloc (.cells (prC (0, 0)).toArray 57)) (w.heap.size + 1) 57 (prC (0, 0))) := Lib.hid (Blk.fresh (by simp) rfl)
 have HXZ : Hid (Below w.heap.size w ((w.alloc (.cells (prC (0, 0)).toArray 57)).alloc (.cells (prC (0, 0)).toArray 57))) := Lib.hid (below_step X1 (below1_ _ _))
 have HLk0 : (sKeys M).length ≤ 100000 := by rw [sKeys_len]; exact hs
 have hvo := voters_P HT1.out hi HMs.out
 unfold leastT
 by_cases hat : at_ < 1
 ·rw [if_pos hat]
  clear h hi hs X1 HLk0 hvo
  go_enter Try.func33, Try.ntmps33
  go_wp2_with (first
   | (refine wpList_load_blk rfl 57 (.tmp 12) rfl (w.heap.size + 1) rfl 57 (prC (0, 0)) _ HZ3.out Try.underlying57 rfl (by rw [HZl.out]; kernel_rfl) ?_)
   | (refine wpList_store_blk rfl 57 (.tmp 4) (.tmp 13) rfl w.heap.size (prC (0, 0)) rfl rfl 57 (prC (0, 0)) HZ2.out (by rw [HZl.out]; kernel_rfl) (HZl.out.trans HZl.out.symm) (P_one (0, 0)) ?_; intro w3 hb9 hg9; have HR9 := Lib.hid hb9; have HX9 : Hid (Below w.heap.size w w3) := Lib.hid (HXZ.out.grown hg9 HXZ.out.size (fun b hb => by have := Option.some.inj hb; omega)); clear hb9 hg9))
  (try simp only [Exit.inBlock, Exit.then]); refine bodyPost_ret (results_cell_row_tmp1 rfl _ _ w.heap.size 57 _ (0, 0) _ rfl HR9.out Try.underlying57 rfl (by rw [List.size_toArray, HZl.out]; kernel_rfl)) rfl ?_
  exact ⟨rfl, HX9.out⟩
 rw [if_neg hat]
 obtain ⟨ls, hls⟩ : ∃ ls, sKeys M = ls := ⟨_, rfl⟩
 rw [hls] at hvo HLk0 ⊢
 have HVo := Lib.hid hvo
 have HLk := Lib.hid HLk0
 obtain ⟨q, hq⟩ : ∃ q, leastM M (0, 0) at_ ls = q := ⟨_, rfl⟩
 have HQ0 : Hid (leastM M (0, 0) at_ (ls.drop 0) = q) := Lib.hid (by rw [List.drop_zero, hq])
 rw [hq]
 clear h hi hs X1 hls hq hvo HLk0
 go_enter Try.func33, Try.ntmps33
 go_wp2_with (first
  | (go_at_call 66; (with_reducible refine (HVo.out).mono ?_); rintro e wv ⟨A, cv, rfl, hc9, hi9, hb9⟩; have HCv := Lib.hid hc9; have HIv := Lib.hid hi9; have HTv := Lib.hid (HT1.out.through hb9); have HXv : Hid (Below w.heap.size w wv) := Lib.hid (below_step HX1.out hb9); have HZv := Lib.hid (HZ1.out.through hb9); clear hc9 hi9 hb9))
 go_loopw [17] (fun iv wr => ∃ (i : Nat), i ≤ ls.length ∧ iv = .int .i64 (i : Int) ∧ leastM M (0, 0) at_ (ls.drop i) = q ∧ Below wv.heap.size wv wr) (fun iv _ => ls.length - (intOf iv).toNat)
 case atStart => exact ⟨0, Nat.zero_le _, rfl, HQ0.out, Below.refl _ _⟩
 case round =>
  obtain ⟨i, hi, rfl, hp, hx⟩ := hrel
  have HX := Lib.hid hx
  have hib : i ≤ 100000 := by have := HLk.out; omega
  have HTr := Lib.hid (HTv.out.through HX.out)
  have HZr := Lib.hid (HZv.out.through HX.out)
  have HXr := Lib.hid (below_step HXv.out HX.out)
  clear hx
  by_cases hlt : i < ls.length
  ·obtain ⟨gA, oA, a, rfl, _, hd, hc⟩ := (HIv.out.through HX.out).at hlt
   have hix := Try.ix_is wr gA oA ls.length cv i hlt
   have hoa := ok_get (z := (0, 0)) HTr.out.vm P_okz a
   have hlk := HTr.out.vm.look1 Try.key_int Try.underlying108 a (Try.zero_p wr)
   have c0 : wr.cell? ⟨g, 0, none⟩ = some (.map (some gv)) := HTr.out.box.cellAt rfl
   rw [hd] at hp
   unfold leastM at hp
   generalize (getM a M).getD (0, 0) = u at *
   have HUk := Lib.hid hoa
   have HUl : Hid ((prC u).length = 2) := Lib.hid (P_len u hoa)
   rw [show encP u = .agg (prC u).toArray from rfl] at hlk
   by_cases hcn : at_ ≤ (cntM u M : Int)
   ·rw [if_pos hcn] at hp
    have HP := Lib.hid hp
    clear hp hd hoa
    go_wp2_with (first
     | (refine wpList_store_blk rfl 57 (.tmp 8) (.tmp 26) rfl wr.heap.size (prC u) rfl rfl 57 (prC (0, 0)) (Blk.fresh rfl rfl) (by rw [HUl.out]; kernel_rfl) (HZl.out.trans HUl.out.symm) (P_one u) ?_; intro w2 hb9 hg9; have HB2 := Lib.hid hb9; have HN2 := Lib.hid (below_new hg9); have HT2 := Lib.hid (HTr.out.through HN2.out); have HZ2 := Lib.hid (HZr.out.through HN2.out); clear hb9 hg9)
     | (refine wpList_load_blk rfl 57 (.tmp 8) rfl wr.heap.size rfl 57 (prC u) _ HB2.out Try.underlying57 rfl (by rw [HUl.out]; kernel_rfl) ?_)
     | (go_at_call 67; (with_reducible refine (cnt_P u HT2.out HUk.out).mono ?_); rintro e w3 ⟨rfl, hb9⟩; have HB3 := Lib.hid (HB2.out.through hb9); have HX3 := Lib.hid (below_step (below_step HXr.out HN2.out) hb9); have HZ3 := Lib.hid (HZ2.out.through hb9); clear hb9)
     | (refine wpList_load_blk rfl 57 (.tmp 8) rfl wr.heap.size rfl 57 (prC u) _ HB3.out Try.underlying57 rfl (by rw [HUl.out]; kernel_rfl) ?_)
     | (refine wpList_store_blk rfl 57 (.tmp 4) (.tmp 32) rfl w.heap.size (prC u) rfl rfl 57 (prC (0, 0)) HZ3.out (by rw [HUl.out]; kernel_rfl) (HZl.out.trans HUl.out.symm) (P_one u) ?_; intro w4 hb9 hg9; have HR9 := Lib.hid hb9; have HX9 : Hid (Below w.heap.size w w4) := Lib.hid (HX3.out.grown hg9 HX3.out.size (fun b hb => by have := Option.some.inj hb; omega)); clear hb9 hg9))
    (try simp only [Exit.inBlock, Exit.then]); refine bodyPost_ret (results_cell_row_tmp1 rfl _ _ w.heap.size 57 _ (0, 0) _ rfl HR9.out Try.underlying57 rfl (by rw [List.size_toArray, HUl.out]; kernel_rfl)) rfl ?_
    exact ⟨by rw [← HP.out]; rfl, HX9.out⟩
   ·rw [if_neg hcn] at hp
    have HP := Lib.hid hp
    have hcn2 : decide (at_ ≤ (cntM u M : Int)) = false := decide_eq_false hcn
    clear hp hd hoa
    go_wp2_with (first
     | (refine wpList_store_blk rfl 57 (.tmp 8) (.tmp 26) rfl wr.heap.size (prC u) rfl rfl 57 (prC (0, 0)) (Blk.fresh rfl rfl) (by rw [HUl.out]; kernel_rfl) (HZl.out.trans HUl.out.symm) (P_one u) ?_; intro w2 hb9 hg9; have HB2 := Lib.hid hb9; have HN2 := Lib.hid (below_new hg9); have HT2 := Lib.hid (HTr.out.through HN2.out); clear hb9 hg9)
     | (refine wpList_load_blk rfl 57 (.tmp 8) rfl wr.heap.size rfl 57 (prC u) _ HB2.out Try.underlying57 rfl (by rw [HUl.out]; kernel_rfl) ?_)
     | (go_at_call 67; (with_reducible refine (cnt_P u HT2.out HUk.out).mono ?_); rintro e w3 ⟨rfl, hb9⟩; have HX3 := Lib.hid (below_step (below_step HX.out HN2.out) hb9); clear hb9))
    go_roundw
    case rel => exact ⟨i + 1, by omega, by go_num, HP.out, HX3.out⟩
    case measure => simp [intOf]; omega
  ·have e9 : ls.drop i = [] := List.drop_of_length_le (by omega)
   rw [e9] at hp
   have HP : Hid (q = none) := Lib.hid (by rw [← hp]; rfl)
   clear hp e9
   have HZa : Hid (Blk (wr.alloc (.cells (prC (0, 0)).toArray 57)) w.heap.size 57 (prC (0, 0))) := Lib.hid (HZr.out.alloc _)
   have HZb : Hid (Blk (wr.alloc (.cells (prC (0, 0)).toArray 57)) wr.heap.size 57 (prC (0, 0))) := Lib.hid (Blk.fresh rfl rfl)
   have HXa : Hid (Below w.heap.size w (wr.alloc (.cells (prC (0, 0)).toArray 57))) := Lib.hid (below_step HXr.out (below1_ _ _))
   go_wp2_with (first
    | (refine wpList_load_blk rfl 57 (.tmp 35) rfl wr.heap.size rfl 57 (prC (0, 0)) _ HZb.out Try.underlying57 rfl (by rw [HZl.out]; kernel_rfl) ?_)
    | (refine wpList_store_blk rfl 57 (.tmp 4) (.tmp 36) rfl w.heap.size (prC (0, 0)) rfl rfl 57 (prC (0, 0)) HZa.out (by rw [HZl.out]; kernel_rfl) (HZl.out.trans HZl.out.symm) (P_one (0, 0)) ?_; intro w3 hb9 hg9; have HR9 := Lib.hid hb9; have HX9 : Hid (Below w.heap.size w w3) := Lib.hid (HXa.out.grown hg9 HXa.out.size (fun b hb => by have := Option.some.inj hb; omega)); clear hb9 hg9))
   (try simp only [Exit.inBlock, Exit.then]); refine bodyPost_ret (results_cell_row_tmp1 rfl _ _ w.heap.size 57 _ (0, 0) _ rfl HR9.out Try.underlying57 rfl (by rw [List.size_toArray, HZl.out]; kernel_rfl)) rfl ?_
   exact ⟨by rw [HP.out]; rfl, HX9.out⟩

end Go.Proofs.Ytkpgjcahmpekbaa
