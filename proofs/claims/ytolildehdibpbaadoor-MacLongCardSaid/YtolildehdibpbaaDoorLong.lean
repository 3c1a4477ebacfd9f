/-
  MacLong, walked.
-/
import Derived.Test.YtolildehdibpbaaDoorZeros
import Derived.Test.YtolildehdibpbaaDoorTags
namespace Go.Proofs.YtolildehdibpbaaDoor
open Go.RowKit

/-- 'append(s, make([]byte, m)...)', as the walk takes it. -/
theorem wpList_append_zeros {P : Program} {w : World} {ops : Array Oper} {rest : List Oper} {o : Oper} {a : Act} {Q : Exit → Act → World → Prop} (hgd : o.guard = none) (s x : Operand) (t ti : TypeId)
    (ho : o.op = .call { callee := .builtin .append, args := #[s, x], argTypes := #[t, ti] })
    (base : Nat) (i : TypeInfo) (ht : P.underlying t = some (.slice 5)) (hti : P.underlying ti = some (.int .i64)) (hi : P.info? 5 = some i) (hz : i.zero = some (.int .u8 0)) (hsize : i.size = 1) (hby : i.bytes = 1)
    (A : Option Addr) (n c : Nat) (xs : List UInt8) (hs : a.eval s = .slice A n c) (hown : w.ownsRow base 5 1 (.slice A n c) n (vs xs)) (m : Nat) (hx : a.eval x = .int .i64 (m : Int)) (hm : n + m ≤ 1000000000) (hbase : base ≤ w.heap.size)
    (h : ∀ A' c' w', w'.ownsRow base 5 1 (.slice A' (n + m) c') (n + m) (vs (xs ++ List.replicate m 0)) → Below base w w' → wpList P ops Q rest (a.put o.dst (.slice A' (n + m) c')) w') : wpList P ops Q (o :: rest) a w :=
  wpList_plain hgd fun K hK => by
    obtain ⟨A', c', w', hrun, h2, h3⟩ := run_append_zeros (P := P) w base t ti o.type i ht hti hi hz hsize hby A n c xs hown m hm hbase
    unfold Oper.wp execOp
    simp only [ho, resolve, invoke, builtin, Sem.run_bind, Sem.run_pure, Result.andThen_ok, List.map_toArray, List.map_cons, List.map_nil, hs, hx, hrun]
    exact hK _ _ (h A' c' w' h2 ((Below.refl _ w).grown h3 hbase (fun k hk => (hown.lt k hk).1)))

theorem short_long (k : List UInt8) (h : 64 < k.length) : key64 k = key64 (sha k) := by
  have h1 : short k = sha k := by unfold short; rw [if_pos h]
  have h2 : short (sha k) = sha k := by unfold short; rw [if_neg (by rw [sha_length]; omega)]
  unfold key64
  rw [h1, h2]
theorem hmac_long (k text : List UInt8) (h : 64 < k.length) : hmac k text = hmac (sha k) text := by
  unfold hmac
  rw [short_long k h]
theorem short_pad (k : List UInt8) (m : Nat) (h : k.length + m ≤ 64) : key64 (k ++ List.replicate m 0) = key64 k := by
  have h1 : short k = k := by unfold short; rw [if_neg (by omega)]
  have h2 : short (k ++ List.replicate m 0) = k ++ List.replicate m 0 := by unfold short; rw [if_neg (by simp; omega)]
  unfold key64
  rw [h1, h2, List.length_append, List.length_replicate, List.append_assoc, List.replicate_append_replicate]
  congr 2
  omega
theorem hmac_pad (k text : List UInt8) (m : Nat) (h : k.length + m ≤ 64) : hmac (k ++ List.replicate m 0) text = hmac k text := by
  unfold hmac
  rw [short_pad k m h]

theorem own_caps {w : World} {base n c : Nat} {A : Option Addr} {ys : List Value} (h : w.ownsRow base 5 1 (.slice A n c) n ys) : n ≤ c ∧ c ≤ maxLen := by
  obtain ⟨_, _, e, h1, h2, _⟩ := own_form h
  injection e with _ _ e
  subst e
  exact ⟨h1, h2⟩
/-- Bytes stand, where only a new block was written. -/
theorem long_keep {w9 w8 : World} {o : Obj} {A : Option Addr} {n : Nat} {xs : List UInt8} (h : By w9 (fun _ => True) A n xs) (ho : (w9.alloc o).grownBy w8 (some w9.heap.size)) : By w8 (fun _ => True) A n xs :=
  (h.lt.keep fun g hg => (ho.block g (by simp; omega) (fun e => absurd (Option.some.inj e) (Nat.ne_of_lt hg.2))).trans (Below.heap_alloc w9 o g hg.2)).weak fun _ _ => trivial
/-- The same, at a step of a region that draws. -/
theorem step_append_zeros {P : Program} {ops : Array Oper} {o : Oper} {a : Act} {w : World} {K : Act → World → Prop} {R : Exit → Act → World → Prop} {E : Prop} (hw : Region.wanted o (yielded ops a.tmps) = true) (s x : Operand) (t ti : TypeId)
    (ho : o.op = .call { callee := .builtin .append, args := #[s, x], argTypes := #[t, ti] })
    (base : Nat) (i : TypeInfo) (ht : P.underlying t = some (.slice 5)) (hti : P.underlying ti = some (.int .i64)) (hi : P.info? 5 = some i) (hz : i.zero = some (.int .u8 0)) (hsize : i.size = 1) (hby : i.bytes = 1)
    (A : Option Addr) (n c : Nat) (xs : List UInt8) (hs : a.eval s = .slice A n c) (hown : w.ownsRow base 5 1 (.slice A n c) n (vs xs)) (m : Nat) (hx : a.eval x = .int .i64 (m : Int)) (hm : n + m ≤ 1000000000) (hbase : base ≤ w.heap.size)
    (h : ∀ A' c' w', w'.ownsRow base 5 1 (.slice A' (n + m) c') (n + m) (vs (xs ++ List.replicate m 0)) → Below base w w' → K (a.put o.dst (.slice A' (n + m) c')) w') :
    if Region.wanted o (yielded ops a.tmps) = true then Oper.wp P o a w K R else E := by
  rw [if_pos hw]
  obtain ⟨A', c', w', hrun, h2, h3⟩ := run_append_zeros (P := P) w base t ti o.type i ht hti hi hz hsize hby A n c xs hown m hm hbase
  unfold Oper.wp execOp
  simp only [ho, resolve, invoke, builtin, Sem.run_bind, Sem.run_pure, Result.andThen_ok, List.map_toArray, List.map_cons, List.map_nil, hs, hx, hrun]
  exact h A' c' w' h2 ((Below.refl _ w).grown h3 hbase (fun k hk => (hown.lt k hk).1))
theorem made_step8 {v W : World} (h : Below v.heap.size v W) : Below v.heap.size v (W.alloc (.cells #[] 5)) ∧ (W.alloc (.cells #[] 5)).ownsRow v.heap.size 5 1 (.slice (some ⟨W.heap.size, 0, none⟩) 0 0) 0 (vs []) :=
  ⟨h.alloc h.size _, own_weak (World.ownsRow_made W #[] 0 (Nat.le_refl _) (Nat.zero_le _) rfl) h.size⟩
theorem tag_neq (xs : List UInt8) (hx : xs.length = 32) (w : World) : (binOp .neq 28 (.agg (vs xs).toArray) (.agg (vs xs).toArray)).run Tryd.prog w = .ok (.bool false) w := by
  have h := tag_eql xs xs hx hx w
  rw [run_eql_struct] at h
  rw [run_neq_struct]
  cases hq : (Op.equalIn 10000 28 (.agg (vs xs).toArray) (.agg (vs xs).toArray)).run Tryd.prog w with
  | ok b w' =>
    rw [hq] at h
    simp at h
    obtain ⟨h1, h2⟩ := h
    subst h2
    simp [h1]
  | _ => rw [hq] at h; simp [Result.andThen] at h

set_option maxHeartbeats 16000000 in
set_option maxRecDepth 100000 in
theorem long_any (Q Q' : Nat → Prop) (key text : List UInt8) (y : Nat) (hy : y < 256) (A A' : Option Addr) (n c n' c' : Nat) (w : World) (ht : Tab w) (hby : By w Q A n key) (hnc : n ≤ c) (hcm : c ≤ maxLen) (hby' : By w Q' A' n' text) (hnc' : n' ≤ c') (hcm' : c' ≤ maxLen) :
    Calls Tryd.prog 6 #[.slice A n c, .slice A' n' c', .int .u8 (y : Int)] w fun e w' => e = .returned (.bool true) ∧ Below w.heap.size w w' := by
  have HT := Lib.hid ht
  have HBy := Lib.hid hby
  have HBy' := Lib.hid hby'
  by_cases hn : 200 < n
  · have hd : decide (200 < (n : Int)) = true := by simp; omega
    clear ht hby hby'
    go_enter Tryd.func6, Tryd.ntmps6
    go_wp2_with (go_at_call 12; refine (mfixed_any _ HT.out).mono ?_; rintro e w1 ⟨rfl, hx1⟩)
    go_ret
    exact ⟨rfl, hx1⟩
  by_cases hn' : 200 < n'
  · have hd : decide (200 < (n : Int)) = false := by simp; omega
    have hd' : decide (200 < (n' : Int)) = true := by simp; omega
    clear ht hby hby'
    go_enter Tryd.func6, Tryd.ntmps6
    go_wp2_with (go_at_call 12; refine (mfixed_any _ HT.out).mono ?_; rintro e w1 ⟨rfl, hx1⟩)
    go_ret
    exact ⟨rfl, hx1⟩
  have hd : decide (200 < (n : Int)) = false := by simp; omega
  have hd' : decide (200 < (n' : Int)) = false := by simp; omega
  obtain ⟨i0, hi, hz0, hz1, hz2⟩ := info_parts Tryd.info_u8
  have hmk := fun (w : World) => (show (Instr.buildSlice 22 0 #[]).run Tryd.prog w = .ok (.slice (some ⟨w.heap.size, 0, none⟩) 0 0) (w.alloc (.cells #[] 5)) by kernel_rfl)
  have HLk := Lib.hid hby.len
  obtain ⟨long, hlong⟩ : ∃ long, long = key ++ List.replicate 65 0 := ⟨_, rfl⟩
  have hll : long.length = n + 65 := by rw [hlong, List.length_append, List.length_replicate, HLk.out]
  obtain ⟨q, hq⟩ : ∃ q, q = vs (sha long) := ⟨_, rfl⟩
  have hql : q.length = 32 := by rw [hq, vs_length, sha_length]
  have hqo : q.toArray.all (·.oneCell') = true := by rw [hq]; exact one_u8
  obtain ⟨r, hr⟩ : ∃ r, r = vs (hmac long text) := ⟨_, rfl⟩
  obtain ⟨r2, hr2⟩ : ∃ r2, r2 = vs (hmac key text) := ⟨_, rfl⟩
  have hlg : hmac long text = hmac (sha long) text := hmac_long long text (by omega)
  have hsum : ∀ W A7 c7, By W (fun _ => True) A7 (n + 65) long → Calls Tryd.prog 11 #[.slice A7 (n + 65) c7] W fun e w' => e = .returned (.agg q.toArray) ∧ Below W.heap.size W w' := fun W A7 c7 h => by
    rw [hq]; exact rsum_any _ long A7 _ c7 W h (by omega)
  have hof1 : ∀ W A7 c7, n + 65 ≤ c7 → c7 ≤ maxLen → By W (fun _ => True) A7 (n + 65) long → By W Q' A' n' text → Tab W → Calls Tryd.prog 13 #[.slice A7 (n + 65) c7, .slice A' n' c'] W fun e w' => e = .returned (.agg r.toArray) ∧ Below W.heap.size W w' := fun W A7 c7 hc1 hc2 h1 h2 h3 => by
    rw [hr]; exact of_any _ Q' long text A7 A' _ c7 n' c' W h1 hc1 hc2 h2 hnc' hcm' h3 (by omega) (by omega)
  have hof2 : ∀ W g, By W (fun _ => True) (some ⟨g, 0, none⟩) 32 (sha long) → By W Q' A' n' text → Tab W → Calls Tryd.prog 13 #[.slice (some ⟨g, 0, none⟩) 32 32, .slice A' n' c'] W fun e w' => e = .returned (.agg r.toArray) ∧ Below W.heap.size W w' := fun W g h1 h2 h3 => by
    rw [hr, hlg]; exact of_any _ Q' (sha long) text _ A' 32 32 n' c' W h1 (Nat.le_refl _) (by unfold maxLen; omega) h2 hnc' hcm' h3 (by omega) (by omega)
  have hof4 : ∀ W, By W Q A n key → By W Q' A' n' text → Tab W → Calls Tryd.prog 13 #[.slice A n c, .slice A' n' c'] W fun e w' => e = .returned (.agg r2.toArray) ∧ Below W.heap.size W w' := fun W h1 h2 h3 => by
    rw [hr2]; exact of_any Q Q' key text A A' n c n' c' W h1 hnc hcm h2 hnc' hcm' h3 (by omega) (by omega)
  have hneq : ∀ W, (binOp .neq 28 (.agg r.toArray) (.agg r.toArray)).run Tryd.prog W = .ok (.bool false) W := fun W => by
    rw [hr]; exact tag_neq _ (hmac_length _ _) W
  have heql : ∀ W, (binOp .eql 28 (.agg r2.toArray) (.agg r2.toArray)).run Tryd.prog W = .ok (.bool true) W := fun W => by
    rw [hr2, tag_eql _ _ (hmac_length _ _) (hmac_length _ _), beq_self_eq_true]
  have hqb : ∀ W g, Blk W g 25 q → By W (fun _ => True) (some ⟨g, 0, none⟩) 32 (sha long) := fun W g h => by
    rw [hq] at h; exact By.of_blk_n h (sha_length _) trivial
  have HSum := Lib.hid hsum
  have HOf1' := Lib.hid hof1
  have HOf2 := Lib.hid hof2
  have HOf4 := Lib.hid hof4
  have HQl := Lib.hid hql
  have HQo := Lib.hid hqo
  have HQb := Lib.hid hqb
  have HR2 := Lib.hid hr2
  have HLg := Lib.hid hlong
  clear ht hby hby' hlong hll hq hql hqo hr hr2 hlg hsum hof1 hof2 hof4 hqb
  go_enter Tryd.func6, Tryd.ntmps6
  go_wp2_with (first
    | (go_at_call 12; refine (mfixed_any _ HT.out).mono ?_; rintro e w1 ⟨rfl, hx1⟩; have HX1 := Lib.hid hx1; clear hx1)
    | (at_builtin; refine wpList_append_by _ rfl (.tmp 20) (.tmp 21) 22 rfl w1.heap.size i0 Tryd.underlying22 hi hz0 hz1 hz2 _ 0 (vs []) rfl (World.ownsRow_made w1 #[] 0 (Nat.le_refl _) (Nat.zero_le _) rfl) Q A n c key rfl ((HBy.out.through HX1.out).alloc _) (by omega) (by simp) ?_; intro v2 w2 hown2 hgrow2 _; have HX2 := Lib.hid (((Below.refl _ w1).alloc (Nat.le_refl _) _).grown hgrow2 (by simp) (fun g hg => ((World.ownsRow_made (e := 5) (size := 1) w1 #[] 0 (Nat.le_refl _) (Nat.zero_le _) rfl).lt g hg).1)); rw [Nat.zero_add] at hown2; obtain ⟨A2, c2, rfl, _, _, _⟩ := own_form hown2; have HO2 : Hid (w2.ownsRow w1.heap.size 5 1 (.slice A2 n c2) n (vs key)) := Lib.hid hown2; clear hown2 hgrow2)
    | (refine wpList_append_zeros rfl (.tmp 22) (.const (.int .i64 65)) 22 3 rfl w1.heap.size i0 Tryd.underlying22 Tryd.underlying3 hi hz0 hz1 hz2 A2 n c2 key rfl HO2.out 65 rfl (by omega) HX2.out.size ?_; intro A7 c7 w7 ho7 hb7; obtain ⟨hc7, hm7⟩ := own_caps ho7; have HX7 : Hid (Below w.heap.size w w7) := Lib.hid (HX1.out.trans ((HX2.out.trans hb7).mono HX1.out.size)); have HL7 : Hid (By w7 (fun _ => True) A7 (n + 65) long) := Lib.hid (by rw [HLg.out]; exact (By.of_own ho7).weak fun _ _ => trivial); clear ho7 hb7)
    | (go_at_call 11; (with_reducible refine (HSum.out _ _ _ HL7.out).mono ?_); rintro e w9 ⟨rfl, hb9⟩; have HX9 := Lib.hid (HX7.out.trans (hb9.mono HX7.out.size)); have HL9 := Lib.hid (HL7.out.through hb9); clear hb9)
    | (refine wpList_store_blk rfl 25 (.tmp 8) (.tmp 25) rfl w9.heap.size q rfl rfl 25 (vs zero32) (Blk.fresh rfl (by kernel_rfl)) (by rw [HQl.out]; kernel_rfl) (by rw [HQl.out]; rfl) HQo.out ?_; intro w8 hb8 ho8; have HX8 := Lib.hid ((HX9.out.alloc HX9.out.size _).grown ho8 (Nat.le_trans HX9.out.size (by simp)) (fun g hg => Option.some.inj hg ▸ HX9.out.size)); have HL8 := Lib.hid (long_keep HL9.out ho8); have HS8 := Lib.hid (HQb.out w8 w9.heap.size hb8); clear hb8 ho8))
  have HOf1 := Lib.hid (fun W h1 h2 h3 => HOf1'.out W A7 c7 hc7 hm7 h1 h2 h3)
  obtain ⟨g8, hg8⟩ : ∃ g8, g8 = w9.heap.size := ⟨_, rfl⟩
  rw [← hg8] at HS8
  rw [← hg8]
  clear hg8 HOf1' hc7 hm7
  refine wp_region_held_drew (S := fun W => Below w.heap.size w W) (by kernel_rfl) HX8.out.drew (fun hHeld => ?_)
  change wpAnyH _ _ _ _ _ _ #[false, false, false, false, false, false, false] _ _
  refine wpAnyH_take (i := 0) (v := (.slice A7 (n + 65) c7)) rfl (by kernel_rfl) (by kernel_rfl) (by kernel_rfl) (fun _ _ _ h => h) (Or.inl ⟨by kernel_rfl, fun w hSw => ?_⟩) (by assumption) ?_
  · (try dsimp only at hSw); go_simp <;> (try rfl)
  change wpAnyH _ _ _ _ _ _ _ (Act.put _ (some (26 : Nat)) (.slice A7 (n + 65) c7)) _
  simp only [Act.put, List.setIfInBounds_toArray, List.set_cons_zero, List.set_cons_succ]
  refine wpAnyH_take (i := 1) (v := (.slice A' n' c')) rfl (by kernel_rfl) (by kernel_rfl) (by kernel_rfl) (fun _ _ _ h => h) (Or.inl ⟨by kernel_rfl, fun w hSw => ?_⟩) (by assumption) ?_
  · (try dsimp only at hSw); go_simp <;> (try rfl)
  change wpAnyH _ _ _ _ _ _ _ (Act.put _ (some (27 : Nat)) (.slice A' n' c')) _
  simp only [Act.put, List.setIfInBounds_toArray, List.set_cons_zero, List.set_cons_succ]
  refine wpAnyH_take (i := 3) (v := (.slice (some ⟨g8, 0, none⟩) 32 32)) rfl (by kernel_rfl) (by kernel_rfl) (by kernel_rfl) (fun _ _ _ h => h) (Or.inl ⟨by kernel_rfl, fun w hSw => ?_⟩) (by assumption) ?_
  · (try dsimp only at hSw); go_simp <;> (try rfl)
  change wpAnyH _ _ _ _ _ _ _ (Act.put _ (some (29 : Nat)) (.slice (some ⟨g8, 0, none⟩) 32 32)) _
  simp only [Act.put, List.setIfInBounds_toArray, List.set_cons_zero, List.set_cons_succ]
  refine wpAnyH_take (i := 4) (v := (.slice A' n' c')) rfl (by kernel_rfl) (by kernel_rfl) (by kernel_rfl) (fun _ _ _ h => h) (Or.inl ⟨by kernel_rfl, fun w hSw => ?_⟩) (by assumption) ?_
  · (try dsimp only at hSw); go_simp <;> (try rfl)
  change wpAnyH _ _ _ _ _ _ _ (Act.put _ (some (30 : Nat)) (.slice A' n' c')) _
  simp only [Act.put, List.setIfInBounds_toArray, List.set_cons_zero, List.set_cons_succ]
  refine wpAnyH_ready (rs := [2]) (by kernel_rfl) (by simp) ?_
  refine AllReadyH.cons rfl (fun K hK => ?_) AllReadyH.nil
  go_simp
  refine (HOf1.out _ (HL8.out.drew) ((HBy'.out.through HX8.out).drew) (HT.out.through HX8.out.drew)).mono ?_
  rintro e wa ⟨rfl, hb⟩; have HXa := Lib.hid (HX8.out.drew.trans (hb.mono HX8.out.size)); have HSa := Lib.hid (HS8.out.drew.through hb); clear hb
  go_wp2_with fail
  refine hK.out _ _ HXa.out (fun hHeld1 => ?_)
  clear hHeld hK K
  have hHeld := hHeld1
  clear hHeld1
  refine wpAnyH_ready (rs := [5]) (by kernel_rfl) (by simp) ?_
  refine AllReadyH.cons rfl (fun K hK => ?_) AllReadyH.nil
  go_simp
  refine (HOf2.out _ _ HSa.out (HBy'.out.through HXa.out) (HT.out.through HXa.out)).mono ?_
  rintro e wb ⟨rfl, hb⟩; have HXb := Lib.hid (HXa.out.trans (hb.mono HXa.out.size)); clear hb
  go_wp2_with fail
  refine hK.out _ _ HXb.out (fun hHeld1 => ?_)
  clear hHeld hK K
  have hHeld := hHeld1
  clear hHeld1
  refine wpAnyH_take (i := 6) (v := (.bool false)) rfl (by kernel_rfl) (by kernel_rfl) (by kernel_rfl) (fun _ _ _ h => h) (Or.inl ⟨by kernel_rfl, fun w hSw => ?_⟩) (by assumption) ?_
  · (try dsimp only at hSw); go_simp <;> (try rfl)
  change wpAnyH _ _ _ _ _ _ _ (Act.put _ (some (32 : Nat)) (.bool false)) _
  simp only [Act.put, List.setIfInBounds_toArray, List.set_cons_zero, List.set_cons_succ]
  refine wpAnyH_done (by kernel_rfl) ?_ _
  go_wp2
  · go_ret
    exact ⟨rfl, HXb.out⟩
  · have h64 : n ≤ 64 := by omega
    obtain ⟨m, hm⟩ : ∃ m, m = y % (65 - n) := ⟨_, rfl⟩
    have hml : n + m ≤ 64 := by have := Nat.mod_lt y (show 0 < 65 - n by omega); omega
    have hsub : (65 - (n : Int)) = ((65 - n : Nat) : Int) := by omega
    have hrem : (y : Int) % (65 - (n : Int)) = (m : Int) := by rw [hsub, hm]; simp
    clear hsub
    have hwy : IntKind.i64.wrap (y : Int) = (y : Int) := IntWalk.i64_in _ (by omega)
    have hws : IntKind.i64.wrap (65 - (n : Int)) = 65 - (n : Int) := IntWalk.i64_in _ (by omega)
    have hwm : IntKind.i64.wrap (m : Int) = (m : Int) := IntWalk.i64_in _ (by omega)
    have hnz : ¬ (65 - (n : Int) = 0) := by omega
    have hrem' : (y : Int).tmod (65 - (n : Int)) = (m : Int) := by rw [Int.tmod_eq_emod_of_nonneg (by omega)]; exact hrem
    have hpad := hmac_pad key text m (by rw [HLk.out]; exact hml)
    have HOfF : Hid (∀ W nf Af cf, nf ≤ cf → cf ≤ maxLen → nf ≤ 1000 → By W (fun _ => True) Af nf (key ++ List.replicate m 0) → By W Q' A' n' text → Tab W → Calls Tryd.prog 13 #[.slice Af nf cf, .slice A' n' c'] W fun e w' => e = .returned (.agg r2.toArray) ∧ Below W.heap.size W w') := Lib.hid (fun W nf Af cf hc1 hc2 hc3 h1 h2 h3 => by rw [HR2.out, ← hpad]; exact of_any _ Q' _ text Af A' nf cf n' c' W h1 hc1 hc2 h2 hnc' hcm' h3 (by omega) (by omega))
    clear hm hpad
    go_wp2
    refine wp_region_held_drew (S := fun W => Below w.heap.size w W) (by kernel_rfl) HXb.out.drew (fun hHeld => ?_)
    change wpAnyH _ _ _ _ _ _ #[false, false, false, false, false, false, false, false, false, false, false] _ _
    refine wpAnyH_take (i := 1) (v := (.slice A n c)) rfl (by kernel_rfl) (by kernel_rfl) (by kernel_rfl) (fun _ _ _ h => h) (Or.inl ⟨by kernel_rfl, fun w hSw => ?_⟩) (by assumption) ?_
    · (try dsimp only at hSw); go_simp <;> (try rfl)
    change wpAnyH _ _ _ _ _ _ _ (Act.put _ (some (37 : Nat)) (.slice A n c)) _
    simp only [Act.put, List.setIfInBounds_toArray, List.set_cons_zero, List.set_cons_succ]
    refine wpAnyH_take (i := 3) (v := (.int .u8 (y : Int))) rfl (by kernel_rfl) (by kernel_rfl) (by kernel_rfl) (fun _ _ _ h => h) (Or.inl ⟨by kernel_rfl, fun w hSw => ?_⟩) (by assumption) ?_
    · (try dsimp only at hSw); go_simp <;> (try rfl)
    change wpAnyH _ _ _ _ _ _ _ (Act.put _ (some (39 : Nat)) (.int .u8 (y : Int))) _
    simp only [Act.put, List.setIfInBounds_toArray, List.set_cons_zero, List.set_cons_succ]
    refine wpAnyH_take (i := 4) (v := (.int .i64 (y : Int))) rfl (by kernel_rfl) (by kernel_rfl) (by kernel_rfl) (fun _ _ _ h => h) (Or.inl ⟨by kernel_rfl, fun w hSw => ?_⟩) (by assumption) ?_
    · (try dsimp only at hSw); go_simp <;> (try rfl)
    change wpAnyH _ _ _ _ _ _ _ (Act.put _ (some (40 : Nat)) (.int .i64 (y : Int))) _
    simp only [Act.put, List.setIfInBounds_toArray, List.set_cons_zero, List.set_cons_succ]
    refine wpAnyH_take (i := 5) (v := (.slice A n c)) rfl (by kernel_rfl) (by kernel_rfl) (by kernel_rfl) (fun _ _ _ h => h) (Or.inl ⟨by kernel_rfl, fun w hSw => ?_⟩) (by assumption) ?_
    · (try dsimp only at hSw); go_simp <;> (try rfl)
    change wpAnyH _ _ _ _ _ _ _ (Act.put _ (some (41 : Nat)) (.slice A n c)) _
    simp only [Act.put, List.setIfInBounds_toArray, List.set_cons_zero, List.set_cons_succ]
    refine wpAnyH_take (i := 6) (v := (.int .i64 (n : Int))) rfl (by kernel_rfl) (by kernel_rfl) (by kernel_rfl) (fun _ _ _ h => h) (Or.inl ⟨by kernel_rfl, fun w hSw => ?_⟩) (by assumption) ?_
    · (try dsimp only at hSw); go_simp <;> (try rfl)
    change wpAnyH _ _ _ _ _ _ _ (Act.put _ (some (42 : Nat)) (.int .i64 (n : Int))) _
    simp only [Act.put, List.setIfInBounds_toArray, List.set_cons_zero, List.set_cons_succ]
    refine wpAnyH_take (i := 7) (v := (.int .i64 (65 - (n : Int)))) rfl (by kernel_rfl) (by kernel_rfl) (by kernel_rfl) (fun _ _ _ h => h) (Or.inl ⟨by kernel_rfl, fun w hSw => ?_⟩) (by assumption) ?_
    · (try dsimp only at hSw); go_simp <;> (try rfl)
    change wpAnyH _ _ _ _ _ _ _ (Act.put _ (some (43 : Nat)) (.int .i64 (65 - (n : Int)))) _
    simp only [Act.put, List.setIfInBounds_toArray, List.set_cons_zero, List.set_cons_succ]
    refine wpAnyH_take (i := 8) (v := (.int .i64 (m : Int))) rfl (by kernel_rfl) (by kernel_rfl) (by kernel_rfl) (fun _ _ _ h => h) (Or.inl ⟨by kernel_rfl, fun w hSw => ?_⟩) (by assumption) ?_
    · (try dsimp only at hSw); go_simp <;> (try rfl)
    change wpAnyH _ _ _ _ _ _ _ (Act.put _ (some (44 : Nat)) (.int .i64 (m : Int))) _
    simp only [Act.put, List.setIfInBounds_toArray, List.set_cons_zero, List.set_cons_succ]
    refine wpAnyH_ready (rs := [0]) (by kernel_rfl) (by simp) ?_
    refine AllReadyH.cons (o := ⟨some 36, .buildSlice 22 0 #[], _, _, _, _⟩) rfl (fun K hK => ?_) AllReadyH.nil
    refine step_build_empty (by kernel_rfl) 22 rfl (.slice (some ⟨_, 0, none⟩) 0 0) _ (hmk _) ?_; have HB12 := Lib.hid (made_step8 hHeld).1; have O12 := Lib.hid (made_step8 hHeld).2
    refine hK.out _ _ HB12.out (fun hHeld1 => ?_)
    clear hHeld hK K
    have hHeld := hHeld1
    clear hHeld1
    change wpAnyH _ _ _ _ _ _ _ (Act.put _ (some (36 : Nat)) (.slice (some ⟨_, 0, none⟩) 0 0)) _
    simp only [Act.put, List.setIfInBounds_toArray, List.set_cons_zero, List.set_cons_succ]
    refine wpAnyH_ready (rs := [2]) (by kernel_rfl) (by simp) ?_
    refine AllReadyH.cons (o := ⟨some 38, .call { callee := .builtin .append, args := #[.tmp 36, .tmp 37], argTypes := #[22, 22] }, _, _, _, none⟩) rfl (fun K hK => ?_) AllReadyH.nil
    refine step_append_by (by kernel_rfl) (.tmp 36) (.tmp 37) 22 rfl w.heap.size i0 Tryd.underlying22 hi hz0 hz1 hz2 (.slice (some ⟨_, 0, none⟩) 0 0) 0 [] (by simp [Act.eval]) O12.out Q A n c key (by simp [Act.eval]) (HBy.out.through HB12.out) (by omega) HB12.out.size n (by omega) key rfl ?_; intro A9 c9 w9 ho9 _ _ hb9; have HB9 := Lib.hid (HB12.out.trans hb9); have O9 := Lib.hid ho9; clear ho9 hb9
    refine hK.out _ _ HB9.out (fun hHeld1 => ?_)
    clear hHeld hK K
    have hHeld := hHeld1
    clear hHeld1
    change wpAnyH _ _ _ _ _ _ _ (Act.put _ (some (38 : Nat)) (.slice A9 n c9)) _
    simp only [Act.put, List.setIfInBounds_toArray, List.set_cons_zero, List.set_cons_succ]
    refine wpAnyH_ready (rs := [9]) (by kernel_rfl) (by simp) ?_
    refine AllReadyH.cons (o := ⟨some 45, .call { callee := .builtin .append, args := #[.tmp 38, .tmp 44], argTypes := #[22, 3] }, _, _, _, none⟩) rfl (fun K hK => ?_) AllReadyH.nil
    refine step_append_zeros (by kernel_rfl) (.tmp 38) (.tmp 44) 22 3 rfl w.heap.size i0 Tryd.underlying22 Tryd.underlying3 hi hz0 hz1 hz2 A9 n c9 key (by simp [Act.eval]) O9.out m (by simp [Act.eval]) (by omega) HB9.out.size ?_; intro Af cf wf hof hbf; have HXf := Lib.hid (HB9.out.trans hbf); have HOf9 := Lib.hid hof; clear hof hbf
    refine hK.out _ _ HXf.out (fun hHeld1 => ?_)
    clear hHeld hK K
    have hHeld := hHeld1
    clear hHeld1
    change wpAnyH _ _ _ _ _ _ _ (Act.put _ (some (45 : Nat)) (.slice Af (n + m) cf)) _
    simp only [Act.put, List.setIfInBounds_toArray, List.set_cons_zero, List.set_cons_succ]
    refine wpAnyH_take (i := 10) (v := (.slice Af (n + m) cf)) rfl (by kernel_rfl) (by kernel_rfl) (by kernel_rfl) (fun _ _ _ h => h) (Or.inl ⟨by kernel_rfl, fun w hSw => ?_⟩) (by assumption) ?_
    · (try dsimp only at hSw); go_simp <;> (try rfl)
    change wpAnyH _ _ _ _ _ _ _ (Act.put _ (some (9 : Nat)) (.slice Af (n + m) cf)) _
    simp only [Act.put, List.setIfInBounds_toArray, List.set_cons_zero, List.set_cons_succ]
    refine wpAnyH_done (by kernel_rfl) ?_ _
    obtain ⟨nf, hnf⟩ : ∃ nf, nf = n + m := ⟨_, rfl⟩
    have HF9 : Hid (By wf (fun _ => True) Af nf (key ++ List.replicate m 0)) := Lib.hid (by rw [hnf]; exact (By.of_own HOf9.out).weak fun _ _ => trivial)
    have hcf : nf ≤ cf ∧ cf ≤ maxLen := by rw [hnf]; exact own_caps HOf9.out
    have HOf3 := Lib.hid (fun W h1 h2 h3 => HOfF.out W nf Af cf hcf.1 hcf.2 (by rw [hnf]; omega) h1 h2 h3)
    rw [← hnf]
    clear hnf HOf9 hHeld
    go_wp2_with (first
    | (go_at_call 13; (with_reducible refine (HOf3.out _ HF9.out (HBy'.out.through HXf.out) (HT.out.through HXf.out)).mono ?_); rintro e wc ⟨rfl, hb⟩; have HXc := Lib.hid (HXf.out.trans (hb.mono HXf.out.size)); clear hb)
    | (go_at_call 13; (with_reducible refine (HOf4.out _ (HBy.out.through HXc.out) (HBy'.out.through HXc.out) (HT.out.through HXc.out)).mono ?_); rintro e wd ⟨rfl, hb⟩; have HXd := Lib.hid (HXc.out.trans (hb.mono HXc.out.size)); clear hb))
    go_ret
    exact ⟨rfl, HXd.out⟩

end Go.Proofs.YtolildehdibpbaaDoor
