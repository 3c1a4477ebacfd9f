/-
  Joined: VIT.
-/
import Derived.Test.YtgbobemhogeeeaaJB
import Derived.Test.YtgbobemhogeeeaaJIT
import Derived.RegionTactic
import Derived.ChangeAlike
import Derived.StillTailTactics
import Derived.Deep.QuietTactic
import Derived.Outline
import Derived.Recover
import Derived.Deep.MidRow
namespace Go.Proofs.Ytgbobemhogeeeaa
open Go.RowKit

set_option maxHeartbeats 4000000 in
set_option maxRecDepth 100000 in
theorem tags_I (St : Nat → World → Prop) (g : Nat) (C : Crypt St g) (q0 : Nat) (hqg : q0 ≤ g) (f : Int) (text : List UInt8) (tos : List Int) (tg : Nat → List UInt8) (htl : ∀ i, (tg i).length = 32) (Q Q' : Nat → Prop) (hQ : ∀ k, Q k → k ≠ q0) (hQ' : ∀ k, Q' k → k ≠ q0)
    (T : Option Addr) (tn tc : Nat) (A : Option Addr) (n c : Nat) (hn : n ≤ 100000) (w : World) (hst : St 0 w) (hyt : By w Q T tn text) (hya : Iv w Q' A n tos)
    (htag : ∀ W i, i < n → St i W → By W Q T tn text → Calls Try.prog 114 #[.pointer (some ⟨g, 0, none⟩), .int .i64 f, .int .i64 (tos.getD i 0), .slice T tn tc] W fun e w' => e = .returned (.agg (vs (tg i)).toArray) ∧ St (i + 1) w' ∧ KF q0 W w') :
    Calls Try.prog 58 #[.iface 30 (.pointer (some ⟨g, 0, none⟩)), .int .i64 f, .slice T tn tc, .slice A n c] w fun e w' => ∃ A' c', e = .returned (.slice A' n c') ∧ (Tg w' A' n ((List.range n).map tg) ∧ n ≤ c' ∧ c' ≤ maxLen) ∧ (∀ o, A' = some o → w.heap.size ≤ o.block) ∧ St n w' ∧ KF q0 w w' := by
  have hmf : ∀ (fn : Fn) (first cap : Array Value) (w : World), (Instr.makeFunc fn first cap).run Try.prog w = .ok (.func fn first cap) w := fun _ _ _ _ => rfl
  obtain ⟨i0, hi, hz0, hz1, hz2⟩ := info_parts Try.info_tag
  have hg := C.lt 0 w hst
  have hq0 : q0 < w.heap.size := Nat.lt_of_le_of_lt hqg hg
  have HS := Lib.hid hst
  have HT := Lib.hid hyt
  have HA := Lib.hid hya
  have HTag := Lib.hid htag
  have hl32 : ∀ i, Long32 ((List.range i).map tg) := fun i t ht => by
    obtain ⟨k, _, rfl⟩ := List.mem_map.1 ht
    exact htl k
  have hsn : ∀ i, rows ((List.range i).map tg) ++ vs (tg i) = rows ((List.range (i + 1)).map tg) := fun i => by
    rw [← rows_snoc, List.range_succ, List.map_append]
    rfl
  clear hst hyt hya htag
  go_enter_defers Try.func58, Try.ntmps58
  go_wp2
  obtain ⟨b8, hb8⟩ : ∃ b8, b8 = w.heap.size := ⟨_, rfl⟩
  have hB0 : Blk (w.alloc (.cells #[.slice none 0 0] 32)) b8 32 [.slice none 0 0] := Blk.fresh hb8 rfl
  have hx0 : Below w.heap.size w (w.alloc (.cells #[.slice none 0 0] 32)) := (Below.refl _ w).alloc (Nat.le_refl _) _
  have hS0 := C.below _ _ _ HS.out hx0
  have h8w : w.heap.size ≤ b8 := by omega
  have h8g : b8 ≠ q0 := by omega
  have hg8 : g < b8 := by omega
  have hgb : g < b8 + 1 := by omega
  rw [← hb8]
  go_loopw [16] (fun iv wr => ∃ (i : Nat) (v : Value), i ≤ n ∧ iv = .int .i64 i ∧ St i wr ∧ Blk wr b8 32 [v] ∧ wr.ownsRow (b8 + 1) 73 32 v i (rows ((List.range i).map tg)) ∧ KF q0 w wr) (fun iv _ => n - (intOf iv).toNat)
  case atStart => exact ⟨0, .slice none 0 0, Nat.zero_le _, rfl, hS0, hB0, World.ownsRow_nil _ _ _ _, KF.of_below hq0 hx0⟩
  case round =>
    obtain ⟨i, v, hin, rfl, hs, hb, ho, hf⟩ := hrel
    have KS := Lib.hid hs
    have KB := Lib.hid hb
    have KO := Lib.hid ho
    have KX := Lib.hid hf
    have hsz : b8 + 1 ≤ wr.heap.size := KB.out.lt
    clear hs hb ho hf hS0 hB0 hx0 hb8
    by_cases hlt : i < n
    · obtain ⟨ba, oa, rfl, hqa, hca⟩ := (HA.out.kf KX.out hQ').cell (by omega)
      have hci := hca i hlt
      have htg := HTag.out
      have hcall := fun W => HTag.out W i hlt
      clear htg hca
      obtain ⟨u, hu⟩ : ∃ u, u = tos.getD i 0 := ⟨_, rfl⟩
      rw [← hu] at hci hcall
      obtain ⟨q, hq⟩ : ∃ q, q = vs (tg i) := ⟨_, rfl⟩
      have hql : q.length = 32 := by rw [hq, vs_length, htl]
      have hqo : ∀ u ∈ q, u.oneCell' = true := fun u hu => by rw [hq] at hu; exact vs_one u hu
      have hsi := hsn i
      rw [← hq] at hcall hsi
      have HCall := Lib.hid hcall
      have HQl := Lib.hid hql
      have HQo := Lib.hid hqo
      have HSn := Lib.hid hsi
      clear hcall hu hq hql hqo hsi
      go_wp2
      try dsimp only [Act.put]
      have HSp := Lib.hid (C.below _ _ _ KS.out ((Below.refl _ wr).drew))
      have HBp := Lib.hid KB.out.drew
      have HOp : Hid (wr.drew.ownsRow (b8 + 1) 73 32 v i (rows ((List.range i).map tg))) := Lib.hid KO.out
      refine wp_region_held_drew (S := fun _ => True) (by kernel_rfl) trivial (fun hHeld => ?_)
      change wpAnyH _ _ _ _ _ _ #[false, false, false, false, false, false, false, false, false] _ _
      refine wpAnyH_take (i := 1) (v := (.iface 30 (.pointer (some ⟨g, 0, none⟩)))) rfl (by kernel_rfl) (by kernel_rfl) (by kernel_rfl) (fun _ _ _ h => tags_panic (d := 21) (by decide) h) (Or.inl ⟨by kernel_rfl, fun w hSw => ?_⟩) (by assumption) ?_
      · (try dsimp only at hSw); go_simp <;> (try rfl)
      change wpAnyH _ _ _ _ _ _ _ (Act.put _ (some (21 : Nat)) (.iface 30 (.pointer (some ⟨g, 0, none⟩)))) _
      simp only [Act.put, List.setIfInBounds_toArray, List.set_cons_zero, List.set_cons_succ]
      refine wpAnyH_take (i := 2) (v := (.int .i64 f)) rfl (by kernel_rfl) (by kernel_rfl) (by kernel_rfl) (fun _ _ _ h => tags_panic (d := 22) (by decide) h) (Or.inl ⟨by kernel_rfl, fun w hSw => ?_⟩) (by assumption) ?_
      · (try dsimp only at hSw); go_simp <;> (try rfl)
      change wpAnyH _ _ _ _ _ _ _ (Act.put _ (some (22 : Nat)) (.int .i64 f)) _
      simp only [Act.put, List.setIfInBounds_toArray, List.set_cons_zero, List.set_cons_succ]
      refine wpAnyH_take (i := 3) (v := (.int .i64 u)) rfl (by kernel_rfl) (by kernel_rfl) (by kernel_rfl) (fun _ _ _ h => tags_panic (d := 23) (by decide) h) (Or.inl ⟨by kernel_rfl, fun w hSw => ?_⟩) (by assumption) ?_
      · (try dsimp only at hSw); go_simp <;> (try rfl)
      change wpAnyH _ _ _ _ _ _ _ (Act.put _ (some (23 : Nat)) (.int .i64 u)) _
      simp only [Act.put, List.setIfInBounds_toArray, List.set_cons_zero, List.set_cons_succ]
      refine wpAnyH_take (i := 4) (v := (.slice T tn tc)) rfl (by kernel_rfl) (by kernel_rfl) (by kernel_rfl) (fun _ _ _ h => tags_panic (d := 24) (by decide) h) (Or.inl ⟨by kernel_rfl, fun w hSw => ?_⟩) (by assumption) ?_
      · (try dsimp only at hSw); go_simp <;> (try rfl)
      change wpAnyH _ _ _ _ _ _ _ (Act.put _ (some (24 : Nat)) (.slice T tn tc)) _
      simp only [Act.put, List.setIfInBounds_toArray, List.set_cons_zero, List.set_cons_succ]
      refine wpAnyH_ready (rs := [0, 5]) (by kernel_rfl) (by simp) ?_
      refine AllReadyH.cons (o := ⟨some 20, .load 32 (.tmp 8), _, _, _, none⟩) rfl (fun K hK => ?_) (AllReadyH.cons rfl (fun K hK => ?_) AllReadyH.nil)
      · as_aux_lemma =>
        refine step_load_at rfl 32 (.tmp 8) rfl (.pointer (some ⟨b8, 0, none⟩)) (by simp [Act.eval]) v (load_one' (Try.agg_tags _) (HBp.out.cellAt rfl)) ?_
        refine hK.out _ _ trivial (fun hHeld1 => ?_)
        clear hHeld hK K
        have hHeld := hHeld1
        clear hHeld1
        change wpAnyH _ _ _ _ _ _ _ (Act.put _ (some (20 : Nat)) v) _
        simp only [Act.put, List.setIfInBounds_toArray, List.set_cons_zero, List.set_cons_succ]
        refine wpAnyH_ready (rs := [5]) (by kernel_rfl) (by simp) ?_
        refine AllReadyH.cons rfl (fun K hK => ?_) AllReadyH.nil
        go_simp
        refine (HCall.out _ HSp.out (HT.out.kf KX.out hQ).drew).mono ?_
        rintro e wa ⟨rfl, hs, hf⟩; have HSa := Lib.hid hs; have HBa := Lib.hid (hf.blk HBp.out h8g); have HOa := Lib.hid (own_at HOp.out (fun k hk _ hc _ => hf.cells k (by omega) ⟨_, _, _, hc.choose_spec.choose_spec⟩)); have HXa := Lib.hid (KX.out.drew.trans hf); have hza : b8 + 1 ≤ wa.heap.size := HBa.out.lt; clear hs hf
        go_wp2_with fail
        refine hK.out _ _ trivial (fun hHeld1 => ?_)
        clear hHeld hK K
        have hHeld := hHeld1
        clear hHeld1
        refine wpAnyH_ready (rs := [6]) (by kernel_rfl) (by simp) ?_
        refine AllReadyH.cons (o := ⟨some 26, .buildSlice 32 1 #[(0, .tmp 25)], _, _, _, none⟩) rfl (fun K hK => ?_) AllReadyH.nil
        refine step_build_one (by kernel_rfl) 32 (.tmp 25) rfl (.agg q.toArray) (by simp [Act.eval]) (.slice (some ⟨wa.heap.size, 0, none⟩) 1 1) (wa.alloc (.cells q.toArray 73)) (run_build_tag wa q HQl.out) ?_; have HSb := Lib.hid (C.below _ _ _ HSa.out ((Below.refl _ wa).alloc (Nat.le_refl _) (.cells q.toArray 73))); have HBb := Lib.hid (HBa.out.alloc (.cells q.toArray 73)); have HOb := Lib.hid (own_at (w' := wa.alloc (.cells q.toArray 73)) HOa.out (fun k _ hl _ _ => Below.heap_alloc wa _ k hl)); have HXb := Lib.hid (HXa.out.alloc hq0 (.cells q.toArray 73))
        refine hK.out _ _ trivial (fun hHeld1 => ?_)
        clear hHeld hK K
        have hHeld := hHeld1
        clear hHeld1
        change wpAnyH _ _ _ _ _ _ _ (Act.put _ (some (26 : Nat)) (.slice (some ⟨wa.heap.size, 0, none⟩) 1 1)) _
        simp only [Act.put, List.setIfInBounds_toArray, List.set_cons_zero, List.set_cons_succ]
        refine wpAnyH_ready (rs := [7]) (by kernel_rfl) (by simp) ?_
        refine AllReadyH.cons (o := ⟨some 27, .call { callee := .builtin .append, args := #[.tmp 20, .tmp 26], argTypes := #[32, 32] }, _, _, _, none⟩) rfl (fun K hK => ?_) AllReadyH.nil
        refine step_append_lies (wa.alloc (.cells q.toArray 73)) rfl (.tmp 20) (.tmp 26) 32 rfl (b8 + 1) 73 i0 _ 32 32 Try.underlying32 hi hz0 hz1 hz2 (by kernel_rfl) (by decide) v i _ (by simp [Act.eval]) HOb.out ⟨wa.heap.size, 0, none⟩ 1 1 q (by simp [Act.eval]) (by rw [HQl.out]) (fun j y hy => row_cell (Blk.fresh rfl rfl) j y hy) HQo.out (by omega) (by unfold maxLen; omega) (by omega) (by simp; omega) _ rfl ?_; intro gc cap wc hoc hgc _ _; have HSc := Lib.hid (C.grown HSb.out HOb.out hgb hgc); have HBc := Lib.hid (HBb.out.grown hgc (fun e => by have := (own_formS HOb.out).choose_spec.choose_spec.2.2.2 _ e.symm; omega)); rw [HSn.out] at hoc; have HOc := Lib.hid hoc; have HXc := Lib.hid (HXb.out.grownOwn HOb.out hgc (by omega) hq0); clear hoc hgc
        refine hK.out _ _ trivial (fun hHeld1 => ?_)
        clear hHeld hK K
        have hHeld := hHeld1
        clear hHeld1
        change wpAnyH _ _ _ _ _ _ _ (Act.put _ (some (27 : Nat)) (.slice (some ⟨gc, 0, none⟩) (i + 1) cap)) _
        simp only [Act.put, List.setIfInBounds_toArray, List.set_cons_zero, List.set_cons_succ]
        refine wpAnyH_ready (rs := [8]) (by kernel_rfl) (by simp) ?_
        refine AllReadyH.cons (o := ⟨none, .store 32 (.tmp 8) (.tmp 27), _, _, _, none⟩) rfl (fun K hK => ?_) AllReadyH.nil
        refine step_store_cell (by kernel_rfl) 32 (.tmp 8) (.tmp 27) rfl b8 0 (by simp [Act.eval]) (.slice (some ⟨gc, 0, none⟩) (i + 1) cap) (by simp [Act.eval]) rfl rfl Try.size_tags 32 [v] HBc.out (by simp) ?_; intro wd hbd hgd; have HBd : Hid (Blk wd b8 32 [.slice (some ⟨gc, 0, none⟩) (i + 1) cap]) := Lib.hid hbd; have HSd := Lib.hid (C.cell _ _ _ _ HSc.out ⟨_, _, _, HBc.out⟩ hgd hg8); have HOd := Lib.hid (own_at HOc.out (fun k hk hl _ _ => hgd.block k hl (fun e => by have := Option.some.inj e; omega))); have HXd := Lib.hid (HXc.out.grownB hgd h8w hq0); clear hbd hgd
        refine hK.out _ _ trivial (fun hHeld1 => ?_)
        clear hHeld hK K
        have hHeld := hHeld1
        clear hHeld1
        change wpAnyH _ _ _ _ _ _ _ (Act.put _ none undef) _
        simp only [Act.put]
        refine wpAnyH_done (by kernel_rfl) ?_ _
        go_wp2
        go_roundw
        case rel => exact ⟨i + 1, _, by omega, by go_num, HSd.out, HBd.out, HOd.out, HXd.out⟩
        case measure => simp [intOf]; omega
      · as_aux_lemma =>
        go_simp
        refine (HCall.out _ HSp.out (HT.out.kf KX.out hQ).drew).mono ?_
        rintro e wa ⟨rfl, hs, hf⟩; have HSa := Lib.hid hs; have HBa := Lib.hid (hf.blk HBp.out h8g); have HOa := Lib.hid (own_at HOp.out (fun k hk _ hc _ => hf.cells k (by omega) ⟨_, _, _, hc.choose_spec.choose_spec⟩)); have HXa := Lib.hid (KX.out.drew.trans hf); have hza : b8 + 1 ≤ wa.heap.size := HBa.out.lt; clear hs hf
        go_wp2_with fail
        refine hK.out _ _ trivial (fun hHeld1 => ?_)
        clear hHeld hK K
        have hHeld := hHeld1
        clear hHeld1
        refine wpAnyH_ready (rs := [0, 6]) (by kernel_rfl) (by simp) ?_
        refine AllReadyH.cons (o := ⟨some 20, .load 32 (.tmp 8), _, _, _, none⟩) rfl (fun K hK => ?_) (AllReadyH.cons (o := ⟨some 26, .buildSlice 32 1 #[(0, .tmp 25)], _, _, _, none⟩) rfl (fun K hK => ?_) AllReadyH.nil)
        · as_aux_lemma =>
          refine step_load_at rfl 32 (.tmp 8) rfl (.pointer (some ⟨b8, 0, none⟩)) (by simp [Act.eval]) v (load_one' (Try.agg_tags _) (HBa.out.cellAt rfl)) ?_
          refine hK.out _ _ trivial (fun hHeld1 => ?_)
          clear hHeld hK K
          have hHeld := hHeld1
          clear hHeld1
          change wpAnyH _ _ _ _ _ _ _ (Act.put _ (some (20 : Nat)) v) _
          simp only [Act.put, List.setIfInBounds_toArray, List.set_cons_zero, List.set_cons_succ]
          refine wpAnyH_ready (rs := [6]) (by kernel_rfl) (by simp) ?_
          refine AllReadyH.cons (o := ⟨some 26, .buildSlice 32 1 #[(0, .tmp 25)], _, _, _, none⟩) rfl (fun K hK => ?_) AllReadyH.nil
          refine step_build_one (by kernel_rfl) 32 (.tmp 25) rfl (.agg q.toArray) (by simp [Act.eval]) (.slice (some ⟨wa.heap.size, 0, none⟩) 1 1) (wa.alloc (.cells q.toArray 73)) (run_build_tag wa q HQl.out) ?_; have HSb := Lib.hid (C.below _ _ _ HSa.out ((Below.refl _ wa).alloc (Nat.le_refl _) (.cells q.toArray 73))); have HBb := Lib.hid (HBa.out.alloc (.cells q.toArray 73)); have HOb := Lib.hid (own_at (w' := wa.alloc (.cells q.toArray 73)) HOa.out (fun k _ hl _ _ => Below.heap_alloc wa _ k hl)); have HXb := Lib.hid (HXa.out.alloc hq0 (.cells q.toArray 73))
          refine hK.out _ _ trivial (fun hHeld1 => ?_)
          clear hHeld hK K
          have hHeld := hHeld1
          clear hHeld1
          change wpAnyH _ _ _ _ _ _ _ (Act.put _ (some (26 : Nat)) (.slice (some ⟨wa.heap.size, 0, none⟩) 1 1)) _
          simp only [Act.put, List.setIfInBounds_toArray, List.set_cons_zero, List.set_cons_succ]
          refine wpAnyH_ready (rs := [7]) (by kernel_rfl) (by simp) ?_
          refine AllReadyH.cons (o := ⟨some 27, .call { callee := .builtin .append, args := #[.tmp 20, .tmp 26], argTypes := #[32, 32] }, _, _, _, none⟩) rfl (fun K hK => ?_) AllReadyH.nil
          refine step_append_lies (wa.alloc (.cells q.toArray 73)) rfl (.tmp 20) (.tmp 26) 32 rfl (b8 + 1) 73 i0 _ 32 32 Try.underlying32 hi hz0 hz1 hz2 (by kernel_rfl) (by decide) v i _ (by simp [Act.eval]) HOb.out ⟨wa.heap.size, 0, none⟩ 1 1 q (by simp [Act.eval]) (by rw [HQl.out]) (fun j y hy => row_cell (Blk.fresh rfl rfl) j y hy) HQo.out (by omega) (by unfold maxLen; omega) (by omega) (by simp; omega) _ rfl ?_; intro gc cap wc hoc hgc _ _; have HSc := Lib.hid (C.grown HSb.out HOb.out hgb hgc); have HBc := Lib.hid (HBb.out.grown hgc (fun e => by have := (own_formS HOb.out).choose_spec.choose_spec.2.2.2 _ e.symm; omega)); rw [HSn.out] at hoc; have HOc := Lib.hid hoc; have HXc := Lib.hid (HXb.out.grownOwn HOb.out hgc (by omega) hq0); clear hoc hgc
          refine hK.out _ _ trivial (fun hHeld1 => ?_)
          clear hHeld hK K
          have hHeld := hHeld1
          clear hHeld1
          change wpAnyH _ _ _ _ _ _ _ (Act.put _ (some (27 : Nat)) (.slice (some ⟨gc, 0, none⟩) (i + 1) cap)) _
          simp only [Act.put, List.setIfInBounds_toArray, List.set_cons_zero, List.set_cons_succ]
          refine wpAnyH_ready (rs := [8]) (by kernel_rfl) (by simp) ?_
          refine AllReadyH.cons (o := ⟨none, .store 32 (.tmp 8) (.tmp 27), _, _, _, none⟩) rfl (fun K hK => ?_) AllReadyH.nil
          refine step_store_cell (by kernel_rfl) 32 (.tmp 8) (.tmp 27) rfl b8 0 (by simp [Act.eval]) (.slice (some ⟨gc, 0, none⟩) (i + 1) cap) (by simp [Act.eval]) rfl rfl Try.size_tags 32 [v] HBc.out (by simp) ?_; intro wd hbd hgd; have HBd : Hid (Blk wd b8 32 [.slice (some ⟨gc, 0, none⟩) (i + 1) cap]) := Lib.hid hbd; have HSd := Lib.hid (C.cell _ _ _ _ HSc.out ⟨_, _, _, HBc.out⟩ hgd hg8); have HOd := Lib.hid (own_at HOc.out (fun k hk hl _ _ => hgd.block k hl (fun e => by have := Option.some.inj e; omega))); have HXd := Lib.hid (HXc.out.grownB hgd h8w hq0); clear hbd hgd
          refine hK.out _ _ trivial (fun hHeld1 => ?_)
          clear hHeld hK K
          have hHeld := hHeld1
          clear hHeld1
          change wpAnyH _ _ _ _ _ _ _ (Act.put _ none undef) _
          simp only [Act.put]
          refine wpAnyH_done (by kernel_rfl) ?_ _
          go_wp2
          go_roundw
          case rel => exact ⟨i + 1, _, by omega, by go_num, HSd.out, HBd.out, HOd.out, HXd.out⟩
          case measure => simp [intOf]; omega
        · as_aux_lemma =>
          refine step_build_one (by kernel_rfl) 32 (.tmp 25) rfl (.agg q.toArray) (by simp [Act.eval]) (.slice (some ⟨wa.heap.size, 0, none⟩) 1 1) (wa.alloc (.cells q.toArray 73)) (run_build_tag wa q HQl.out) ?_; have HSb := Lib.hid (C.below _ _ _ HSa.out ((Below.refl _ wa).alloc (Nat.le_refl _) (.cells q.toArray 73))); have HBb := Lib.hid (HBa.out.alloc (.cells q.toArray 73)); have HOb := Lib.hid (own_at (w' := wa.alloc (.cells q.toArray 73)) HOa.out (fun k _ hl _ _ => Below.heap_alloc wa _ k hl)); have HXb := Lib.hid (HXa.out.alloc hq0 (.cells q.toArray 73))
          refine hK.out _ _ trivial (fun hHeld1 => ?_)
          clear hHeld hK K
          have hHeld := hHeld1
          clear hHeld1
          change wpAnyH _ _ _ _ _ _ _ (Act.put _ (some (26 : Nat)) (.slice (some ⟨wa.heap.size, 0, none⟩) 1 1)) _
          simp only [Act.put, List.setIfInBounds_toArray, List.set_cons_zero, List.set_cons_succ]
          refine wpAnyH_ready (rs := [0]) (by kernel_rfl) (by simp) ?_
          refine AllReadyH.cons (o := ⟨some 20, .load 32 (.tmp 8), _, _, _, none⟩) rfl (fun K hK => ?_) AllReadyH.nil
          refine step_load_at rfl 32 (.tmp 8) rfl (.pointer (some ⟨b8, 0, none⟩)) (by simp [Act.eval]) v (load_one' (Try.agg_tags _) (HBb.out.cellAt rfl)) ?_
          refine hK.out _ _ trivial (fun hHeld1 => ?_)
          clear hHeld hK K
          have hHeld := hHeld1
          clear hHeld1
          change wpAnyH _ _ _ _ _ _ _ (Act.put _ (some (20 : Nat)) v) _
          simp only [Act.put, List.setIfInBounds_toArray, List.set_cons_zero, List.set_cons_succ]
          refine wpAnyH_ready (rs := [7]) (by kernel_rfl) (by simp) ?_
          refine AllReadyH.cons (o := ⟨some 27, .call { callee := .builtin .append, args := #[.tmp 20, .tmp 26], argTypes := #[32, 32] }, _, _, _, none⟩) rfl (fun K hK => ?_) AllReadyH.nil
          refine step_append_lies (wa.alloc (.cells q.toArray 73)) rfl (.tmp 20) (.tmp 26) 32 rfl (b8 + 1) 73 i0 _ 32 32 Try.underlying32 hi hz0 hz1 hz2 (by kernel_rfl) (by decide) v i _ (by simp [Act.eval]) HOb.out ⟨wa.heap.size, 0, none⟩ 1 1 q (by simp [Act.eval]) (by rw [HQl.out]) (fun j y hy => row_cell (Blk.fresh rfl rfl) j y hy) HQo.out (by omega) (by unfold maxLen; omega) (by omega) (by simp; omega) _ rfl ?_; intro gc cap wc hoc hgc _ _; have HSc := Lib.hid (C.grown HSb.out HOb.out hgb hgc); have HBc := Lib.hid (HBb.out.grown hgc (fun e => by have := (own_formS HOb.out).choose_spec.choose_spec.2.2.2 _ e.symm; omega)); rw [HSn.out] at hoc; have HOc := Lib.hid hoc; have HXc := Lib.hid (HXb.out.grownOwn HOb.out hgc (by omega) hq0); clear hoc hgc
          refine hK.out _ _ trivial (fun hHeld1 => ?_)
          clear hHeld hK K
          have hHeld := hHeld1
          clear hHeld1
          change wpAnyH _ _ _ _ _ _ _ (Act.put _ (some (27 : Nat)) (.slice (some ⟨gc, 0, none⟩) (i + 1) cap)) _
          simp only [Act.put, List.setIfInBounds_toArray, List.set_cons_zero, List.set_cons_succ]
          refine wpAnyH_ready (rs := [8]) (by kernel_rfl) (by simp) ?_
          refine AllReadyH.cons (o := ⟨none, .store 32 (.tmp 8) (.tmp 27), _, _, _, none⟩) rfl (fun K hK => ?_) AllReadyH.nil
          refine step_store_cell (by kernel_rfl) 32 (.tmp 8) (.tmp 27) rfl b8 0 (by simp [Act.eval]) (.slice (some ⟨gc, 0, none⟩) (i + 1) cap) (by simp [Act.eval]) rfl rfl Try.size_tags 32 [v] HBc.out (by simp) ?_; intro wd hbd hgd; have HBd : Hid (Blk wd b8 32 [.slice (some ⟨gc, 0, none⟩) (i + 1) cap]) := Lib.hid hbd; have HSd := Lib.hid (C.cell _ _ _ _ HSc.out ⟨_, _, _, HBc.out⟩ hgd hg8); have HOd := Lib.hid (own_at HOc.out (fun k hk hl _ _ => hgd.block k hl (fun e => by have := Option.some.inj e; omega))); have HXd := Lib.hid (HXc.out.grownB hgd h8w hq0); clear hbd hgd
          refine hK.out _ _ trivial (fun hHeld1 => ?_)
          clear hHeld hK K
          have hHeld := hHeld1
          clear hHeld1
          change wpAnyH _ _ _ _ _ _ _ (Act.put _ none undef) _
          simp only [Act.put]
          refine wpAnyH_done (by kernel_rfl) ?_ _
          go_wp2
          go_roundw
          case rel => exact ⟨i + 1, _, by omega, by go_num, HSd.out, HBd.out, HOd.out, HXd.out⟩
          case measure => simp [intOf]; omega
    · obtain rfl : i = n := by omega
      obtain ⟨A1, c1, rfl, _, _, hblk⟩ := own_formS KO.out
      have hc8 : wr.cell? ⟨b8, 0, none⟩ = some (.slice A1 i c1) := KB.out.cellAt rfl
      go_wp2_with (refine wpList_store_cell rfl 32 (.tmp 8) (.tmp 29) rfl b8 0 rfl (.slice A1 i c1) rfl rfl rfl Try.size_tags 32 [.slice A1 i c1] KB.out (by simp) ?_; intro w1 hb1 hg1; have HB1 : Hid (Blk w1 b8 32 [.slice A1 i c1]) := Lib.hid hb1; have HS1 := Lib.hid (C.cell _ _ _ _ KS.out ⟨_, _, _, KB.out⟩ hg1 hg8); have HO1 := Lib.hid (own_at KO.out (fun k hk hl _ _ => hg1.block k hl (fun e => by have := Option.some.inj e; omega))); have HX1 := Lib.hid (KX.out.grownB hg1 h8w hq0); clear hb1 hg1)
      refine leaves_cons (f := 86) (args := #[.pointer (some ⟨b8, 0, none⟩)]) (by simp) (by simp [go_sem]) ?_
      refine (tags1_idle _ _).mono ?_
      rintro e u' w'' ⟨rfl, rfl, rfl⟩
      exact ⟨_, results_cell_one rfl _ _ ⟨b8, 0, none⟩ (.slice A1 i c1) (Try.agg_tags _) rfl (HB1.out.cellAt rfl), A1, c1, rfl, ⟨Tg.of_own (hl32 i) HO1.out, own_caps_ HO1.out⟩, fun oo eo => (by subst eo; have h1 := (hblk _ rfl).1; show w.heap.size ≤ oo.block; have h2 : b8 + 1 ≤ oo.block := h1; omega), HS1.out, HX1.out⟩

set_option maxHeartbeats 4000000 in
set_option maxRecDepth 100000 in
theorem sign_I (St : Nat → World → Prop) (g : Nat) (C : Crypt St g) (q0 : Nat) (hqg : q0 ≤ g) (k f : Int) (body : List UInt8) (tos : List Int) (tg : Nat → List UInt8) (htl : ∀ i, (tg i).length = 32) (Q Q' : Nat → Prop) (hQ' : ∀ k, Q' k → k ≠ q0)
    (B : Option Addr) (nb cb : Nat) (hnb : nb ≤ 100000) (A : Option Addr) (n c : Nat) (hn : n ≤ 100000) (w : World) (hst : St 0 w) (hyb : By w Q B nb body) (hya : Iv w Q' A n tos)
    (htag : ∀ T tc W i, i < n → St i W → By W (fun b => b ≠ q0) T (1 + nb) (kb k :: body) → Calls Try.prog 114 #[.pointer (some ⟨g, 0, none⟩), .int .i64 f, .int .i64 (tos.getD i 0), .slice T (1 + nb) tc] W fun e w' => e = .returned (.agg (vs (tg i)).toArray) ∧ St (i + 1) w' ∧ KF q0 W w') :
    Calls Try.prog 26 #[.iface 30 (.pointer (some ⟨g, 0, none⟩)), .int .i64 k, .int .i64 f, .slice B nb cb, .slice A n c] w fun e w' => ∃ B1 c1 A1 c2, e = .returned (.agg #[.int .i64 k, .int .i64 f, .slice B1 nb c1, .slice A1 n c2]) ∧ By w' (fun b => w.heap.size ≤ b) B1 nb body ∧ (Tg w' A1 n ((List.range n).map tg) ∧ n ≤ c2 ∧ c2 ≤ maxLen) ∧ (∀ o, A1 = some o → w.heap.size ≤ o.block) ∧ St n w' ∧ KF q0 w w' := by
  have hg := C.lt 0 w hst
  have hq0 : q0 < w.heap.size := Nat.lt_of_le_of_lt hqg hg
  have htags : ∀ W T tc, w.heap.size ≤ W.heap.size → St 0 W → By W (fun b => b ≠ q0) T (1 + nb) (kb k :: body) → Iv W Q' A n tos → Calls Try.prog 58 #[.iface 30 (.pointer (some ⟨g, 0, none⟩)), .int .i64 f, .slice T (1 + nb) tc, .slice A n c] W fun e w' => ∃ A' c', e = .returned (.slice A' n c') ∧ (Tg w' A' n ((List.range n).map tg) ∧ n ≤ c' ∧ c' ≤ maxLen) ∧ (∀ o, A' = some o → W.heap.size ≤ o.block) ∧ St n w' ∧ KF q0 W w' := fun W T tc _ h1 h2 h3 =>
    tags_I St g C q0 hqg f _ tos tg htl _ Q' (fun _ h => h) hQ' T (1 + nb) tc A n c hn W h1 h2 h3 (fun W i hi h4 h5 => htag T tc W i hi h4 h5)
  have HS := Lib.hid hst
  have HB := Lib.hid hyb
  have HA := Lib.hid hya
  have HTags := Lib.hid htags
  clear hst hyb hya htag htags
  go_enter Try.func26, Try.ntmps26
  go_wp2_with (first
    | (go_at_call 57; (with_reducible refine (clone_any Q B nb cb body _ (HB.out.alloc _) (by omega)).mono ?_); rintro e w1 ⟨v1, rfl, ho1, hb1⟩; have HX1 : Hid (Below w.heap.size w w1) := Lib.hid (((Below.refl _ w).alloc (Nat.le_refl _) _).trans (hb1.mono (by simp))); have HM1 : Hid (Blk w1 w.heap.size 65 [.int .i64 0, .int .i64 0, .slice none 0 0, .slice none 0 0]) := Lib.hid ((Blk.fresh rfl (by kernel_rfl)).through hb1); obtain ⟨B1, c1, rfl, _⟩ := own_form ho1; have HC1 := Lib.hid ((By.of_own (own_weak ho1 (by simp))).weak (Q' := fun b => w.heap.size + 1 ≤ b) fun _ h => h.1); clear ho1 hb1)
    | (go_at_call 37; (with_reducible refine (text_any Q k body B nb cb _ (HB.out.through HX1.out) (by omega)).mono ?_); rintro e w2 ⟨T2, c2, rfl, hy2, hb2⟩; have HX2 := Lib.hid (HX1.out.trans (hb2.mono HX1.out.size)); have HM2 := Lib.hid (HM1.out.through hb2); have HC2 := Lib.hid (HC1.out.through hb2); have HT2 := Lib.hid (hy2.weak (Q' := fun b => b ≠ q0) fun _ h => Nat.ne_of_gt (Nat.lt_of_lt_of_le hq0 (Nat.le_trans HX1.out.size h.1))); clear hy2 hb2)
    | (go_at_call 58; (with_reducible refine (HTags.out _ T2 c2 HX2.out.size (C.below _ _ _ HS.out HX2.out) HT2.out (HA.out.through HX2.out)).mono ?_); rintro e w3 ⟨A3, c3, rfl, ⟨ht3, hcp3⟩, hn3, hs3, hf3⟩; have HCp3 := Lib.hid hcp3; have HT3 := Lib.hid ht3; have HN3 := Lib.hid hn3; have HS3 := Lib.hid hs3; have HM3 := Lib.hid (hf3.blk HM2.out (Nat.ne_of_gt hq0)); have HC3 := Lib.hid (HC2.out.kf hf3 (fun b h => by omega)); have HX3 := Lib.hid ((KF.of_below hq0 HX2.out).trans hf3); clear ht3 hn3 hs3 hf3 hcp3)
    | (refine wpList_store_blk rfl 65 (.tmp 10) (.tmp 22) rfl w.heap.size [.int .i64 k, .int .i64 f, .slice B1 nb c1, .slice A3 n c3] rfl rfl 65 [.int .i64 0, .int .i64 0, .slice none 0 0, .slice none 0 0] HM3.out (by kernel_rfl) rfl (by simp [Value.oneCell']) ?_; intro w4 hb4 hg4; have HM4 := Lib.hid hb4; have HT4 := Lib.hid (HT3.out.keep (fun k hk _ ⟨o, e⟩ => hg4.block k hk (fun e' => by have := HN3.out _ e; have := Option.some.inj e'; have := HX2.out.size; have := HM2.out.lt; simp only at *; omega))); have HC4 := Lib.hid ((HC3.out.lt.keep (fun k hk => hg4.block k hk.2 (fun e => by have := hk.1; have := Option.some.inj e; omega))).weak (Q' := fun b => w.heap.size ≤ b) fun _ h => by have := h.1; omega); have HS4 := Lib.hid (C.cell _ _ _ _ HS3.out ⟨_, _, _, HM3.out⟩ hg4 hg); have HX4 := Lib.hid (HX3.out.grownB hg4 (Nat.le_refl _) hq0); clear hb4 hg4))
  exact bodyPost_ret (v := .agg #[.int .i64 k, .int .i64 f, .slice B1 nb c1, .slice A3 n c3]) (results_cell_row rfl _ _ w.heap.size 65 _ (0, 0) _ rfl HM4.out Try.underlying65 rfl (by kernel_rfl)) rfl ⟨B1, c1, A3, c3, rfl, HC4.out, ⟨HT4.out, HCp3.out⟩, fun o e => Nat.le_trans HX2.out.size (HN3.out o e), HS4.out, HX4.out⟩

end Go.Proofs.Ytgbobemhogeeeaa
