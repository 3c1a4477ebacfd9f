/-
  Joined: TwWV.
-/
import Derived.Deep.RegionHeld
import Derived.Test.YtkpgjcahmpekbaaTT33
import Derived.Test.YtkpgjcahmpekbaaTT34
import Derived.Test.YtkpgjcahmpekbaaTTT
namespace Go.Proofs.Ytkpgjcahmpekbaa
open Go.RowKit

open Go.Maps Go.Sort Go.Shelf
theorem whoG_len {κ : Type} [DecidableEq κ] (M : List (Int × κ)) (z k : κ) : ∀ l : List Int, (whoG M z k l).length ≤ l.length
 | [] => Nat.le_refl _
 | x :: l => by
  have := whoG_len M z k l
  unfold whoG
  split <;> simp <;> omega
theorem sKeys_len {κ : Type} (M : List (Int × κ)) : (sKeys M).length = M.length := by simp [sKeys]
theorem sKeys_mem {κ : Type} {M : List (Int × κ)} {a : Int} (h : a ∈ sKeys M) : a ∈ M.map Prod.fst := (List.mergeSort_perm _ _).subset h
theorem ok_get {κ : Type} {enc : κ → Value} {ok : κ → Prop} {w : World} {gv : Nat} {M : List (Int × κ)} {z : κ} (h : VMp enc ok w gv M) (hz : ok z) (a : Int) : ok ((getM a M).getD z) := by
 cases h9 : getM a M with
 | none => exact hz
 | some o => exact h.2 _ (get_memM h9)
set_option maxHeartbeats 16000000 in
set_option maxRecDepth 100000 in
theorem who_V {w : World} {g gv gc : Nat} {M : List (Int × Vo)} (k : Vo) (h : TlR 90 encV okV w g gv gc M) (hk : okV k) (hi : ∀ p ∈ M, In64 p.1) (hs : M.length ≤ 100000) :
  Calls Try.prog 20 #[(.pointer (some ⟨g, 0, none⟩)), encV k] w fun e w' => ∃ A n c, e = .returned (.slice A n c) ∧ n = (whoG M voZ k (sKeys M)).length ∧ n ≤ c ∧ IsIn w' A n (whoG M voZ k (sKeys M)) ∧ Below w.heap.size w w' := by
 have HKk := Lib.hid hk
 have HIn := Lib.hid hi
 have HMs : Hid (M.length ≤ 1000000) := Lib.hid (by omega)
 have HM1 := Lib.hid hs
 have HKl : Hid ((Vo.cells k).length = 34) := Lib.hid (V_len k hk)
 have X1 := below1_ w (.cells (Vo.cells k).toArray 29)
 have HX1 := Lib.hid X1
 have HT1 := Lib.hid (h.through X1)
 have HB1 : Hid (Blk (w.alloc (.cells (Vo.cells k).toArray 29)) w.heap.size 29 (Vo.cells k)) := Lib.hid (Blk.fresh rfl rfl)
 rw [show encV k = .agg (Vo.cells k).toArray from rfl]
 have HLk0 : (sKeys M).length ≤ 100000 := by rw [sKeys_len]; exact hs
 have hvo := voters_V HT1.out hi HMs.out
 obtain ⟨ls, hls⟩ : ∃ ls, sKeys M = ls := ⟨_, rfl⟩
 rw [hls] at hvo HLk0 ⊢
 have HVo := Lib.hid hvo
 have HLk := Lib.hid HLk0
 obtain ⟨Rr, hRr⟩ : ∃ Rr, whoG M voZ k ls = Rr := ⟨_, rfl⟩
 have HR0 : Hid ([] ++ whoG M voZ k (ls.drop 0) = Rr) := Lib.hid (by rw [List.drop_zero, hRr]; rfl)
 rw [hRr]
 clear h hk hi hs X1 hls hRr hvo HLk0
 go_enter Try.func20, Try.ntmps20
 go_wp2_with (first
  | (go_at_call 54; (with_reducible refine (HVo.out).mono ?_); rintro e wv ⟨A, cv, rfl, hc9, hi9, hb9⟩; have HCv := Lib.hid hc9; have HIv := Lib.hid hi9; have HTv := Lib.hid (HT1.out.through hb9); have HXv : Hid (Below w.heap.size w wv) := Lib.hid (below_step HX1.out hb9); have HBv := Lib.hid (HB1.out.through hb9); clear hc9 hi9 hb9))
 go_loopw [5, 11] (fun lv iv wr => ∃ (i : Nat) (pre : List Int) (A2 : Option Addr) (n2 c2 : Nat), i ≤ ls.length ∧ iv = .int .i64 (i : Int) ∧ lv = .slice A2 n2 c2 ∧ pre ++ whoG M voZ k (ls.drop i) = Rr ∧ pre.length ≤ i ∧ Os wr wv.heap.size 3 1 (.slice A2 n2 c2) (pre.map itC) ∧ Below wv.heap.size wv wr ∧ wv.heap.size ≤ wr.heap.size) (fun _ iv _ => ls.length - (intOf iv).toNat)
 case atStart => exact ⟨0, [], none, 0, 0, Nat.zero_le _, rfl, rfl, HR0.out, Nat.le_refl _, Os.nil _ _ _ _, Below.refl _ _, Nat.le_refl _⟩
 case round =>
  obtain ⟨i, pre, A2, n2, c2, hi, rfl, rfl, hp, hpl, ho, hx, hs⟩ := hrel
  have HX := Lib.hid hx
  have HO := Lib.hid ho
  have HS := Lib.hid hs
  have HPl : Hid (pre.length ≤ ls.length) := Lib.hid (by omega)
  have HPi := Lib.hid hpl
  have hib : i ≤ 100000 := by have := HLk.out; omega
  have HTr := Lib.hid (HTv.out.through HX.out)
  have HBr := Lib.hid (HBv.out.through HX.out)
  clear hx ho hs hpl
  by_cases hlt : i < ls.length
  ·obtain ⟨gA, oA, a, rfl, _, hd, hc⟩ := (HIv.out.through HX.out).at hlt
   have hix := Try.ix_is wr gA oA ls.length cv i hlt
   have HOa := Lib.hid (ok_get HTr.out.vm V_okz a)
   have HLa : Hid ((Vo.cells ((getM a M).getD voZ)).length = 34) := Lib.hid (V_len _ HOa.out)
   rw [hd] at hp
   unfold whoG at hp
   cases hde : decide ((getM a M).getD voZ = k) with
   | true =>
    have HDe := Lib.hid hde
    rw [if_pos (of_decide_eq_true hde)] at hp
    have HP : Hid ((pre ++ [a]) ++ whoG M voZ k (ls.drop (i + 1)) = Rr) := Lib.hid (by rw [← hp]; simp)
    clear hp hd hde
    go_upto_region 5 with fail
    refine wp_region_held_drew (S := fun W => Below wr.heap.size wr W) (by kernel_rfl) (Below.refl _ wr).drew (fun hHeld => ?_)
    change wpAnyH _ _ _ _ _ _ #[false, false, false, false, false, false, false, false] _ _
    refine tkq (i := 0) (d := 15) (v := (.pointer (some ⟨g, 0, none⟩))) rfl rfl (Or.inl ⟨by kernel_rfl, fun w hSw => ?_⟩) (by assumption) ?_
    ·(try dsimp only at hSw); go_simp <;> (try rfl)
    simp only [Act.put, sq1, sq2, sq3]
    refine tkq (i := 1) (d := 16) (v := (.pointer (some ⟨g, 0, none⟩))) rfl rfl (Or.inl ⟨by kernel_rfl, fun w hSw => ?_⟩) (by assumption) ?_
    ·(try dsimp only at hSw); go_simp <;> (try rfl)
    simp only [Act.put, sq1, sq2, sq3]
    refine tkq (i := 2) (d := 17) (v := (.pointer (some ⟨g, 0, none⟩))) rfl rfl (Or.inl ⟨by kernel_rfl, fun w hSw => ?_⟩) (by assumption) ?_
    ·(try dsimp only at hSw); go_simp <;> (try rfl)
    simp only [Act.put, sq1, sq2, sq3]
    refine tkq (i := 3) (d := 18) (v := (.map (some gv))) rfl rfl (yields_load_at (by kernel_rfl) 87 (.tmp 17) rfl (.pointer (some ⟨g, 0, none⟩)) (by simp [Act.eval]) (.map (some gv)) (fun W hW => load_one' (Try.agg_mvV W) (Blk.cellAt (HTr.out.box.through hW) rfl))) (by assumption) ?_
    simp only [Act.put, sq1, sq2, sq3]
    refine tkq (i := 4) (d := 19) (v := (.int .i64 a)) rfl rfl (Or.inl ⟨by kernel_rfl, fun w hSw => ?_⟩) (by assumption) ?_
    ·(try dsimp only at hSw); go_simp <;> (try rfl)
    simp only [Act.put, sq1, sq2, sq3]
    refine tkq (i := 5) (d := 20) (v := (.agg (Vo.cells ((getM a M).getD voZ)).toArray)) rfl rfl (yields_look_to (by kernel_rfl) 87 (.tmp 18) (.tmp 19) false rfl (.map (some gv)) (.int .i64 a) (by simp [Act.eval]) (by simp [Act.eval]) (.agg (Vo.cells ((getM a M).getD voZ)).toArray) (fun W hW => (HTr.out.vm.through hW).look1 Try.key_int Try.underlying87 a (Try.zero_v W))) (by assumption) ?_
    simp only [Act.put, sq1, sq2, sq3]
    refine tkq (i := 6) (d := 21) (v := (.agg (Vo.cells k).toArray)) rfl rfl (yieldsIf_load_mid (by kernel_rfl) 29 (.tmp 3) rfl w.heap.size 0 (by simp [Act.eval]) (Vo.cells k) _ (fun W hW => Blk.range (pre := []) (post := []) (by simpa using (HBr.out.through hW))) Try.underlying29 rfl (by rw [HKl.out]; kernel_rfl)) (by assumption) ?_
    simp only [Act.put, sq1, sq2, sq3]
    refine wpAnyH_ready (rs := [7]) (by kernel_rfl) (by simp) ?_
    refine AllReadyH.cons rfl (fun K hK => ?_) AllReadyH.nil
    go_simp
    refine (same_V ((getM a M).getD voZ) k HOa.out HKk.out wr.drew).mono ?_
    rintro e w5 ⟨rfl, hb9⟩; have HX5 := Lib.hid (Below.trans (Below.refl _ wr).drew hb9); clear hb9; rw [HDe.out]
    go_wp2_with fail
    refine hK.out _ _ HX5.out (fun hHeld1 => ?_)
    clear hHeld hK K
    have hHeld := hHeld1
    clear hHeld1
    refine wpAnyH_done (by kernel_rfl) ?_ _
    have HX6 : Hid (Below wr.heap.size wr (w5.alloc (.cells #[.int .i64 a] 3))) := Lib.hid (below_step HX5.out (below1_ w5 _))
    have HO6 := Lib.hid (HO.out.through HX6.out)
    have HS6 : Hid (wv.heap.size ≤ (w5.alloc (.cells #[.int .i64 a] 3)).heap.size) := Lib.hid (Nat.le_trans HS.out HX6.out.size)
    go_wp2_with (first
     | (at_builtin; refine wpList_append_is rfl Try.el_is (.tmp 23) (.tmp 25) rfl wv.heap.size (.slice A2 n2 c2) (pre.map itC) rfl HO6.out w5.heap.size a rfl (Blk.fresh rfl rfl) (by rw [List.length_map]; have := HPl.out; have := HLk.out; omega) HS6.out ?_; intro v7 w9 ho7 hg7; have HW := Lib.hid (fun b hb => (HO6.out.lt b hb).1); obtain ⟨A7, N7, c7, rfl⟩ : ∃ (A : Option Addr) (N c : Nat), v7 = .slice A N c := (by obtain ⟨A, c, h9, _⟩ := ho7.out; exact ⟨A, _, c, h9⟩); have HO9 : Hid (Os w9 wv.heap.size 3 1 (.slice A7 N7 c7) ((pre ++ [a]).map itC)) := Lib.hid (by rw [List.map_append]; exact ho7); have HX9 := Lib.hid ((below_step HX.out HX6.out).grown hg7 (Nat.le_trans HX.out.size HX6.out.size) (fun b hb => by have := HW.out b hb; omega)); have HS9 : Hid (wv.heap.size ≤ w9.heap.size) := Lib.hid (Nat.le_trans HS6.out hg7.size); clear ho7 hg7))
    go_roundw
    case rel => exact ⟨i + 1, pre ++ [a], A7, N7, c7, by omega, by go_num, rfl, HP.out, by have := HPi.out; simp; omega, HO9.out, HX9.out, HS9.out⟩
    case measure => simp [intOf]; omega
   | false =>
    have HDe := Lib.hid hde
    rw [if_neg (of_decide_eq_false hde)] at hp
    have HP := Lib.hid hp
    clear hp hd hde
    go_upto_region 5 with fail
    refine wp_region_held_drew (S := fun W => Below wr.heap.size wr W) (by kernel_rfl) (Below.refl _ wr).drew (fun hHeld => ?_)
    change wpAnyH _ _ _ _ _ _ #[false, false, false, false, false, false, false, false] _ _
    refine tkq (i := 0) (d := 15) (v := (.pointer (some ⟨g, 0, none⟩))) rfl rfl (Or.inl ⟨by kernel_rfl, fun w hSw => ?_⟩) (by assumption) ?_
    ·(try dsimp only at hSw); go_simp <;> (try rfl)
    simp only [Act.put, sq1, sq2, sq3]
    refine tkq (i := 1) (d := 16) (v := (.pointer (some ⟨g, 0, none⟩))) rfl rfl (Or.inl ⟨by kernel_rfl, fun w hSw => ?_⟩) (by assumption) ?_
    ·(try dsimp only at hSw); go_simp <;> (try rfl)
    simp only [Act.put, sq1, sq2, sq3]
    refine tkq (i := 2) (d := 17) (v := (.pointer (some ⟨g, 0, none⟩))) rfl rfl (Or.inl ⟨by kernel_rfl, fun w hSw => ?_⟩) (by assumption) ?_
    ·(try dsimp only at hSw); go_simp <;> (try rfl)
    simp only [Act.put, sq1, sq2, sq3]
    refine tkq (i := 3) (d := 18) (v := (.map (some gv))) rfl rfl (yields_load_at (by kernel_rfl) 87 (.tmp 17) rfl (.pointer (some ⟨g, 0, none⟩)) (by simp [Act.eval]) (.map (some gv)) (fun W hW => load_one' (Try.agg_mvV W) (Blk.cellAt (HTr.out.box.through hW) rfl))) (by assumption) ?_
    simp only [Act.put, sq1, sq2, sq3]
    refine tkq (i := 4) (d := 19) (v := (.int .i64 a)) rfl rfl (Or.inl ⟨by kernel_rfl, fun w hSw => ?_⟩) (by assumption) ?_
    ·(try dsimp only at hSw); go_simp <;> (try rfl)
    simp only [Act.put, sq1, sq2, sq3]
    refine tkq (i := 5) (d := 20) (v := (.agg (Vo.cells ((getM a M).getD voZ)).toArray)) rfl rfl (yields_look_to (by kernel_rfl) 87 (.tmp 18) (.tmp 19) false rfl (.map (some gv)) (.int .i64 a) (by simp [Act.eval]) (by simp [Act.eval]) (.agg (Vo.cells ((getM a M).getD voZ)).toArray) (fun W hW => (HTr.out.vm.through hW).look1 Try.key_int Try.underlying87 a (Try.zero_v W))) (by assumption) ?_
    simp only [Act.put, sq1, sq2, sq3]
    refine tkq (i := 6) (d := 21) (v := (.agg (Vo.cells k).toArray)) rfl rfl (yieldsIf_load_mid (by kernel_rfl) 29 (.tmp 3) rfl w.heap.size 0 (by simp [Act.eval]) (Vo.cells k) _ (fun W hW => Blk.range (pre := []) (post := []) (by simpa using (HBr.out.through hW))) Try.underlying29 rfl (by rw [HKl.out]; kernel_rfl)) (by assumption) ?_
    simp only [Act.put, sq1, sq2, sq3]
    refine wpAnyH_ready (rs := [7]) (by kernel_rfl) (by simp) ?_
    refine AllReadyH.cons rfl (fun K hK => ?_) AllReadyH.nil
    go_simp
    refine (same_V ((getM a M).getD voZ) k HOa.out HKk.out wr.drew).mono ?_
    rintro e w5 ⟨rfl, hb9⟩; have HX5 := Lib.hid (Below.trans (Below.refl _ wr).drew hb9); clear hb9; rw [HDe.out]
    go_wp2_with fail
    refine hK.out _ _ HX5.out (fun hHeld1 => ?_)
    clear hHeld hK K
    have hHeld := hHeld1
    clear hHeld1
    refine wpAnyH_done (by kernel_rfl) ?_ _
    go_wp2_with fail
    go_roundw
    case rel => exact ⟨i + 1, pre, A2, n2, c2, by omega, by go_num, rfl, HP.out, by have := HPi.out; omega, HO.out.through HX5.out, below_step HX.out HX5.out, Nat.le_trans HS.out HX5.out.size⟩
    case measure => simp [intOf]; omega
  ·have e9 : ls.drop i = [] := List.drop_of_length_le (by omega)
   rw [e9] at hp
   have e8 : pre = Rr := by rw [← hp]; simp [whoG]
   subst e8
   clear hp e9
   go_wp2
   go_ret
   obtain ⟨A9, c9, e, h3, _, h5⟩ := HO.out.out
   rw [List.length_map] at e h3 h5
   obtain ⟨rfl, rfl, rfl⟩ := Value.slice.inj e
   exact ⟨A2, pre.length, c2, rfl, rfl, h3, h5, below_step HXv.out HX.out⟩
set_option maxHeartbeats 16000000 in
set_option maxRecDepth 100000 in
theorem least_V {w : World} {g gv gc : Nat} {M : List (Int × Vo)} (at_ : Int) (h : TlR 90 encV okV w g gv gc M) (hi : ∀ p ∈ M, In64 p.1) (hs : M.length ≤ 100000) :
  Calls Try.prog 13 #[(.pointer (some ⟨g, 0, none⟩)), .int .i64 at_] w fun e w' => e = .returned (.tuple #[encV ((leastT M voZ at_).getD voZ), .bool (leastT M voZ at_).isSome]) ∧ Below w.heap.size w w' := by
 have hz : ∀ W, (zeroValue 29).run Try.prog W = .ok (.agg (Vo.cells voZ).toArray) W := fun W => Try.zero_v W
 have HZl : Hid ((Vo.cells voZ).length = 34) := Lib.hid (V_len _ V_okz)
 have HIn := Lib.hid hi
 have HMs : Hid (M.length ≤ 1000000) := Lib.hid (by omega)
 have X1 := below1_ w (.cells (Vo.cells voZ).toArray 29)
 have HX1 := Lib.hid X1
 have HT1 := Lib.hid (h.through X1)
 have HZ1 : Hid (Blk (w.alloc (.cells (Vo.cells voZ).toArray 29)) w.heap.size 29 (Vo.cells voZ)) := Lib.hid (Blk.fresh rfl rfl)
 have HZ2 : Hid (Blk ((w.alloc (.cells (Vo.cells voZ).toArray 29)).alloc (.cells (Vo.cells voZ).toArray 29)) w.heap.size 29 (Vo.cells voZ)) := Lib.hid (HZ1.out.alloc _)
 have HZ3 : Hid (Blk ((w.alloc (.cells (Vo.cells voZ).toArray 29)).alloc (.cells (Vo.cells voZ).toArray 29)) (w.heap.size + 1) 29 (Vo.cells voZ)) := Lib.hid (Blk.fresh (by simp) rfl)
 have HXZ : Hid (Below w.heap.size w ((w.alloc (.cells (Vo.cells voZ).toArray 29)).alloc (.cells (Vo.cells voZ).toArray 29))) := Lib.hid (below_step X1 (below1_ _ _))
 have HLk0 : (sKeys M).length ≤ 100000 := by rw [sKeys_len]; exact hs
 have hvo := voters_V HT1.out hi HMs.out
 unfold leastT
 by_cases hat : at_ < 1
 ·rw [if_pos hat]
  clear h hi hs X1 HLk0 hvo
  go_enter Try.func13, Try.ntmps13
  go_wp2_with (first
   | (refine wpList_load_blk rfl 29 (.tmp 12) rfl (w.heap.size + 1) rfl 29 (Vo.cells voZ) _ HZ3.out Try.underlying29 rfl (by rw [HZl.out]; kernel_rfl) ?_)
   | (refine wpList_store_blk rfl 29 (.tmp 4) (.tmp 13) rfl w.heap.size (Vo.cells voZ) rfl rfl 29 (Vo.cells voZ) HZ2.out (by rw [HZl.out]; kernel_rfl) (HZl.out.trans HZl.out.symm) (V_one voZ) ?_; intro w3 hb9 hg9; have HR9 := Lib.hid hb9; have HX9 : Hid (Below w.heap.size w w3) := Lib.hid (HXZ.out.grown hg9 HXZ.out.size (fun b hb => by have := Option.some.inj hb; omega)); clear hb9 hg9))
  (try simp only [Exit.inBlock, Exit.then]); refine bodyPost_ret (results_cell_row_tmp1 rfl _ _ w.heap.size 29 _ (0, 0) _ rfl HR9.out Try.underlying29 rfl (by rw [List.size_toArray, HZl.out]; kernel_rfl)) rfl ?_
  exact ⟨rfl, HX9.out⟩
 rw [if_neg hat]
 obtain ⟨ls, hls⟩ : ∃ ls, sKeys M = ls := ⟨_, rfl⟩
 rw [hls] at hvo HLk0 ⊢
 have HVo := Lib.hid hvo
 have HLk := Lib.hid HLk0
 obtain ⟨q, hq⟩ : ∃ q, leastM M voZ at_ ls = q := ⟨_, rfl⟩
 have HQ0 : Hid (leastM M voZ at_ (ls.drop 0) = q) := Lib.hid (by rw [List.drop_zero, hq])
 rw [hq]
 clear h hi hs X1 hls hq hvo HLk0
 go_enter Try.func13, Try.ntmps13
 go_wp2_with (first
  | (go_at_call 54; (with_reducible refine (HVo.out).mono ?_); rintro e wv ⟨A, cv, rfl, hc9, hi9, hb9⟩; have HCv := Lib.hid hc9; have HIv := Lib.hid hi9; have HTv := Lib.hid (HT1.out.through hb9); have HXv : Hid (Below w.heap.size w wv) := Lib.hid (below_step HX1.out hb9); have HZv := Lib.hid (HZ1.out.through hb9); clear hc9 hi9 hb9))
 go_loopw [17] (fun iv wr => ∃ (i : Nat), i ≤ ls.length ∧ iv = .int .i64 (i : Int) ∧ leastM M voZ at_ (ls.drop i) = q ∧ Below wv.heap.size wv wr) (fun iv _ => ls.length - (intOf iv).toNat)
 case atStart => exact ⟨0, Nat.zero_le _, rfl, HQ0.out, Below.refl _ _⟩
 case round =>
  obtain ⟨i, hi, rfl, hp, hx⟩ := hrel
  have HX := Lib.hid hx
  have hib : i ≤ 100000 := by have := HLk.out; omega
  have HTr := Lib.hid (HTv.out.through HX.out)
  have HZr := Lib.hid (HZv.out.through HX.out)
  have HXr := Lib.hid (below_step HXv.out HX.out)
  clear hx
  by_cases hlt : i < ls.length
  ·obtain ⟨gA, oA, a, rfl, _, hd, hc⟩ := (HIv.out.through HX.out).at hlt
   have hix := Try.ix_is wr gA oA ls.length cv i hlt
   have hoa := ok_get HTr.out.vm V_okz a
   have hlk := HTr.out.vm.look1 Try.key_int Try.underlying87 a (Try.zero_v wr)
   have c0 : wr.cell? ⟨g, 0, none⟩ = some (.map (some gv)) := HTr.out.box.cellAt rfl
   rw [hd] at hp
   unfold leastM at hp
   generalize (getM a M).getD voZ = u at *
   have HUk := Lib.hid hoa
   have HUl : Hid ((Vo.cells u).length = 34) := Lib.hid (V_len u hoa)
   rw [show encV u = .agg (Vo.cells u).toArray from rfl] at hlk
   by_cases hcn : at_ ≤ (cntM u M : Int)
   ·rw [if_pos hcn] at hp
    have HP := Lib.hid hp
    clear hp hd hoa
    go_wp2_with (first
     | (refine wpList_store_blk rfl 29 (.tmp 8) (.tmp 26) rfl wr.heap.size (Vo.cells u) rfl rfl 29 (Vo.cells voZ) (Blk.fresh rfl rfl) (by rw [HUl.out]; kernel_rfl) (HZl.out.trans HUl.out.symm) (V_one u) ?_; intro w2 hb9 hg9; have HB2 := Lib.hid hb9; have HN2 := Lib.hid (below_new hg9); have HT2 := Lib.hid (HTr.out.through HN2.out); have HZ2 := Lib.hid (HZr.out.through HN2.out); clear hb9 hg9)
     | (refine wpList_load_blk rfl 29 (.tmp 8) rfl wr.heap.size rfl 29 (Vo.cells u) _ HB2.out Try.underlying29 rfl (by rw [HUl.out]; kernel_rfl) ?_)
     | (go_at_call 17; (with_reducible refine (cnt_V u HT2.out HUk.out).mono ?_); rintro e w3 ⟨rfl, hb9⟩; have HB3 := Lib.hid (HB2.out.through hb9); have HX3 := Lib.hid (below_step (below_step HXr.out HN2.out) hb9); have HZ3 := Lib.hid (HZ2.out.through hb9); clear hb9)
     | (refine wpList_load_blk rfl 29 (.tmp 8) rfl wr.heap.size rfl 29 (Vo.cells u) _ HB3.out Try.underlying29 rfl (by rw [HUl.out]; kernel_rfl) ?_)
     | (refine wpList_store_blk rfl 29 (.tmp 4) (.tmp 32) rfl w.heap.size (Vo.cells u) rfl rfl 29 (Vo.cells voZ) HZ3.out (by rw [HUl.out]; kernel_rfl) (HZl.out.trans HUl.out.symm) (V_one u) ?_; intro w4 hb9 hg9; have HR9 := Lib.hid hb9; have HX9 : Hid (Below w.heap.size w w4) := Lib.hid (HX3.out.grown hg9 HX3.out.size (fun b hb => by have := Option.some.inj hb; omega)); clear hb9 hg9))
    (try simp only [Exit.inBlock, Exit.then]); refine bodyPost_ret (results_cell_row_tmp1 rfl _ _ w.heap.size 29 _ (0, 0) _ rfl HR9.out Try.underlying29 rfl (by rw [List.size_toArray, HUl.out]; kernel_rfl)) rfl ?_
    exact ⟨by rw [← HP.out]; rfl, HX9.out⟩
   ·rw [if_neg hcn] at hp
    have HP := Lib.hid hp
    have hcn2 : decide (at_ ≤ (cntM u M : Int)) = false := decide_eq_false hcn
    clear hp hd hoa
    go_wp2_with (first
     | (refine wpList_store_blk rfl 29 (.tmp 8) (.tmp 26) rfl wr.heap.size (Vo.cells u) rfl rfl 29 (Vo.cells voZ) (Blk.fresh rfl rfl) (by rw [HUl.out]; kernel_rfl) (HZl.out.trans HUl.out.symm) (V_one u) ?_; intro w2 hb9 hg9; have HB2 := Lib.hid hb9; have HN2 := Lib.hid (below_new hg9); have HT2 := Lib.hid (HTr.out.through HN2.out); clear hb9 hg9)
     | (refine wpList_load_blk rfl 29 (.tmp 8) rfl wr.heap.size rfl 29 (Vo.cells u) _ HB2.out Try.underlying29 rfl (by rw [HUl.out]; kernel_rfl) ?_)
     | (go_at_call 17; (with_reducible refine (cnt_V u HT2.out HUk.out).mono ?_); rintro e w3 ⟨rfl, hb9⟩; have HX3 := Lib.hid (below_step (below_step HX.out HN2.out) hb9); clear hb9))
    go_roundw
    case rel => exact ⟨i + 1, by omega, by go_num, HP.out, HX3.out⟩
    case measure => simp [intOf]; omega
  ·have e9 : ls.drop i = [] := List.drop_of_length_le (by omega)
   rw [e9] at hp
   have HP : Hid (q = none) := Lib.hid (by rw [← hp]; rfl)
   clear hp e9
   have HZa : Hid (Blk (wr.alloc (.cells (Vo.cells voZ).toArray 29)) w.heap.size 29 (Vo.cells voZ)) := Lib.hid (HZr.out.alloc _)
   have HZb : Hid (Blk (wr.alloc (.cells (Vo.cells voZ).toArray 29)) wr.heap.size 29 (Vo.cells voZ)) := Lib.hid (Blk.fresh rfl rfl)
   have HXa : Hid (Below w.heap.size w (wr.alloc (.cells (Vo.cells voZ).toArray 29))) := Lib.hid (below_step HXr.out (below1_ _ _))
   go_wp2_with (first
    | (refine wpList_load_blk rfl 29 (.tmp 35) rfl wr.heap.size rfl 29 (Vo.cells voZ) _ HZb.out Try.underlying29 rfl (by rw [HZl.out]; kernel_rfl) ?_)
    | (refine wpList_store_blk rfl 29 (.tmp 4) (.tmp 36) rfl w.heap.size (Vo.cells voZ) rfl rfl 29 (Vo.cells voZ) HZa.out (by rw [HZl.out]; kernel_rfl) (HZl.out.trans HZl.out.symm) (V_one voZ) ?_; intro w3 hb9 hg9; have HR9 := Lib.hid hb9; have HX9 : Hid (Below w.heap.size w w3) := Lib.hid (HXa.out.grown hg9 HXa.out.size (fun b hb => by have := Option.some.inj hb; omega)); clear hb9 hg9))
   (try simp only [Exit.inBlock, Exit.then]); refine bodyPost_ret (results_cell_row_tmp1 rfl _ _ w.heap.size 29 _ (0, 0) _ rfl HR9.out Try.underlying29 rfl (by rw [List.size_toArray, HZl.out]; kernel_rfl)) rfl ?_
   exact ⟨by rw [HP.out]; rfl, HX9.out⟩

end Go.Proofs.Ytkpgjcahmpekbaa
