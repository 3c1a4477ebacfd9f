/-
  The program's Digest, Tag, Check and New.
-/
import Derived.Test.YtolildehdibpbaaDoorKeyT
import Derived.Test.YtolildehdibpbaaDoorCheck
namespace Go.Proofs.YtolildehdibpbaaDoor
open Go.RowKit

set_option maxHeartbeats 2000000 in
set_option maxRecDepth 100000 in
theorem digest_any (Q : Nat → Prop) (p : Value) (k : Int) (text : List UInt8) (A : Option Addr) (n c : Nat) (w : World) (hby : By w Q A n text) (ht : Tab w) (hn : n ≤ 1000000) :
    Calls Tryd.prog 36 #[p, .int .i64 k, .slice A n c] w fun e w' => e = .returned (.agg (vs (digK k text)).toArray) ∧ Below w.heap.size w w' := by
  obtain ⟨i0, hi, hz0, hz1, hz2⟩ := info_parts Tryd.info_u8
  have HBy := Lib.hid hby
  have HT := Lib.hid ht
  have hwa : IntKind.u64.wrap k = k % 18446744073709551616 := IntKind.wrap_u64 k
  obtain ⟨r, hr⟩ : ∃ r, r = vs (digK k text) := ⟨_, rfl⟩
  have hrl : r.length = 32 := by rw [hr, vs_length]; exact sha_length _
  have hro : r.toArray.all (·.oneCell') = true := by rw [hr]; exact one_u8
  have hput : ∀ W, Calls Tryd.prog 51 #[.slice none 0 0, .int .u64 (k % 18446744073709551616), .int .i64 1] W fun e w' => ∃ A' c', e = .returned (.slice A' 1 c') ∧ w'.ownsRow W.heap.size 5 1 (.slice A' 1 c') 1 (vs (beB (k % 256).toNat 1)) ∧ Below W.heap.size W w' := fun W => by
    refine (put_any (fun _ => True) none 0 0 [] _ 1 (by omega) (by omega) W By.none_ (by omega) (by omega)).mono ?_
    rintro e w' ⟨v, rfl, ho, hb⟩
    have e1 : putN 0 1 = 1 := rfl
    have e2 : putB [] (k % 18446744073709551616).toNat 1 = beB (k % 256).toNat 1 := by
      show [] ++ beB _ 1 = _
      rw [List.nil_append]
      exact beB_mod1 _ _ (by omega)
    rw [e1, e2] at ho
    obtain ⟨A', c', rfl, _⟩ := own_form ho
    exact ⟨A', c', rfl, ho, hb⟩
  have hsum : ∀ W A' c', By W (fun _ => True) A' (1 + n) (beB (k % 256).toNat 1 ++ text) → 1 + n ≤ c' → c' ≤ maxLen → Tab W → Calls Tryd.prog 10 #[.slice A' (1 + n) c'] W fun e w' => e = .returned (.agg r.toArray) ∧ Below W.heap.size W w' := fun W A' c' h1 h2 h3 h4 => by
    rw [hr]; exact sumb_any _ _ A' _ c' W h1 h2 h3 h4 (by omega)
  have HPut := Lib.hid hput
  have HSum := Lib.hid hsum
  have HRl := Lib.hid hrl
  have HRo := Lib.hid hro
  rw [← hr]
  clear hby ht hr hrl hro hput hsum
  go_enter Tryd.func36, Tryd.ntmps36
  go_wp2_with (first
    | (go_at_call 51; (with_reducible refine (HPut.out _).mono ?_); rintro e w1 ⟨A1, c1, rfl, ho1, hb1⟩; have HX1 : Hid (Below w.heap.size w w1) := Lib.hid (((Below.refl _ w).alloc (Nat.le_refl _) _).trans (hb1.mono (by simp))); have HB1 : Hid (Blk w1 w.heap.size 25 (vs zero32)) := Lib.hid ((Blk.fresh rfl (by kernel_rfl)).through hb1); have HO1 : Hid (w1.ownsRow (w.heap.size + 1) 5 1 (.slice A1 1 c1) 1 (vs (beB (k % 256).toNat 1))) := Lib.hid (own_weak ho1 (by simp)); clear ho1 hb1)
    | (at_builtin; refine wpList_append_by _ rfl (.tmp 9) (.tmp 10) 22 rfl (w.heap.size + 1) i0 Tryd.underlying22 hi hz0 hz1 hz2 (.slice A1 1 c1) 1 (vs (beB (k % 256).toNat 1)) rfl HO1.out Q A n c text rfl (HBy.out.through HX1.out) (by omega) HB1.out.lt ?_; intro v2 w2 hown2 hgrow2 _; have HX2 := Lib.hid (HX1.out.grown hgrow2 HX1.out.size (fun g hg => Nat.le_of_succ_le (HO1.out.lt g hg).1)); have HB2 := Lib.hid (HB1.out.grown hgrow2 (fun e => absurd (HO1.out.lt _ e.symm).1 (Nat.not_succ_le_self _))); rw [vs_append] at hown2; obtain ⟨A2, c2, rfl, hc2, hm2, _⟩ := own_form hown2; have HY2 := Lib.hid ((By.of_own hown2).weak (Q' := fun _ => True) fun _ _ => trivial); clear hown2 hgrow2)
    | (go_at_call 10; (with_reducible refine (HSum.out _ A2 c2 HY2.out hc2 hm2 (HT.out.through HX2.out)).mono ?_); rintro e w3 ⟨rfl, hb3⟩; have HX3 := Lib.hid (HX2.out.trans (hb3.mono HX2.out.size)); have HB3 := Lib.hid (HB2.out.through hb3); clear hb3)
    | (refine wpList_store_row rfl 25 (.tmp 6) (.tmp 12) rfl w.heap.size r.toArray rfl rfl 25 (vs zero32).toArray HB3.out (by rw [List.size_toArray, HRl.out]; kernel_rfl) (by rw [List.size_toArray, List.size_toArray, HRl.out]; rfl) HRo.out ?_))
  refine bodyPost_ret (v := .agg r.toArray) (results_cell_row rfl _ _ w.heap.size 25 _ (0, 0) _ rfl (HB3.out.row _) Tryd.underlying25 rfl ?r1) rfl ⟨rfl, below_row HX3.out _ (Nat.le_refl _) _⟩
  rw [List.size_toArray, HRl.out]; kernel_rfl

theorem below_new {w w' : World} {o : Obj} (ho : (w.alloc o).grownBy w' (some w.heap.size)) : Below w.heap.size w w' :=
  ((Below.refl _ w).alloc (Nat.le_refl _) o).grown ho (by simp) (fun k hk => Option.some.inj hk ▸ Nat.le_refl _)
theorem Tab.kf {w w' : World} {g : Nat} (h : Tab w) (hf : KF g w w') (h0 : 0 < g) (h1 : 1 < g) : Tab w' := by
  refine ⟨fun i hi => ?_, fun i hi => ?_⟩
  · rw [World.cell?_of_block (a := ⟨0, i, none⟩) (hf.1.block _ h0)]
    exact h.1 i hi
  · rw [World.cell?_of_block (a := ⟨1, i, none⟩) (hf.1.block _ h1)]
    exact h.2 i hi
theorem TS.grown {w w' : World} {g b : Nat} {seed : List UInt8} {t : TypeId} {cs : List Value} (h : TS w g seed) (hb : Blk w b t cs) (ho : w.grownBy w' (some b)) (hg : g < b) : TS w' g seed := by
  obtain ⟨m, As, ns, c, hk, hy, h1, h2, hm⟩ := h
  exact ⟨m, As, ns, c, hk.grown ho (fun e => absurd (Option.some.inj e) (Nat.ne_of_lt hg)), hy.lt.keep (fun k hk => ho.block k hk.2 (fun e => by have := Option.some.inj e; omega)) |>.weak (fun _ h => h.1), h1, h2, map_grown hm hb ho⟩
theorem KF.grownB {g b : Nat} {w W W' : World} (h : KF g w W) (ho : W.grownBy W' (some b)) (hb : w.heap.size ≤ b) (hg : g ≤ w.heap.size) : KF g w W' :=
  ⟨h.1.grown ho (Nat.le_trans hg h.size) (fun k hk => Option.some.inj hk ▸ Nat.le_trans hg hb), fun k hk hc => by
    have e := h.2 k hk hc
    obtain ⟨_, _, _, hc⟩ := hc
    have hl := (Array.getElem?_eq_some_iff.1 hc).1
    exact (ho.block k (Nat.lt_of_lt_of_le hl h.size) (fun e' => by have := Option.some.inj e'; omega)).trans e⟩

set_option maxHeartbeats 8000000 in
set_option maxRecDepth 100000 in
theorem tag_nil (Q : Nat → Prop) (a b : Int) (text : List UInt8) (A : Option Addr) (n c : Nat) (w : World) (hby : By w Q A n text) (ht : Tab w) (hn : n ≤ 1000000) :
    Calls Tryd.prog 23 #[.pointer none, .int .i64 a, .int .i64 b, .slice A n c] w fun e w' => e = .returned (.agg (vs (tagAB [] a b text)).toArray) ∧ Below w.heap.size w w' := by
  have HBy := Lib.hid hby
  have HT := Lib.hid ht
  obtain ⟨r, hr⟩ : ∃ r, r = vs (tagAB [] a b text) := ⟨_, rfl⟩
  have hrl : r.length = 32 := by rw [hr, vs_length, tagAB_length]
  have hro : r.toArray.all (·.oneCell') = true := by rw [hr]; exact one_u8
  obtain ⟨q, hq⟩ : ∃ q, q = vs (keyAB [] a b) := ⟨_, rfl⟩
  have hql : q.length = 32 := by rw [hq, vs_length, keyAB_length]
  have hqo : q.toArray.all (·.oneCell') = true := by rw [hq]; exact one_u8
  have hqb : ∀ W k, Blk W k 28 q → By W (fun _ => True) (some ⟨k, 0, none⟩) 32 (keyAB [] a b) := fun W k h => by rw [hq] at h; exact By.of_blk_n h (keyAB_length _ _ _) trivial
  have hadr : ∀ W, By W Q A n text → Calls Tryd.prog 41 #[.int .i64 a, .int .i64 b, .slice A n c] W fun e w' => ∃ A' c', e = .returned (.slice A' (4 + n) c') ∧ w'.ownsRow W.heap.size 5 1 (.slice A' (4 + n) c') (4 + n) (vs (addr a b text)) ∧ 4 + n ≤ c' ∧ c' ≤ maxLen ∧ Below W.heap.size W w' := fun W h => addressed_any Q a b text A n c W h hn
  have hkey : ∀ W, Tab W → Calls Tryd.prog 19 #[.pointer none, .int .i64 a, .int .i64 b] W fun e w' => e = .returned (.agg q.toArray) ∧ Below W.heap.size W w' := fun W h1 => by rw [hq]; exact key_nil a b W h1
  have hof : ∀ W k A' c', By W (fun _ => True) (some ⟨k, 0, none⟩) 32 (keyAB [] a b) → By W (fun _ => True) A' (4 + n) (addr a b text) → 4 + n ≤ c' → c' ≤ maxLen → Tab W → Calls Tryd.prog 13 #[.slice (some ⟨k, 0, none⟩) 32 32, .slice A' (4 + n) c'] W fun e w' => e = .returned (.agg r.toArray) ∧ Below W.heap.size W w' := fun W k A' c' h1 h2 h3 h4 h5 => by
    rw [hr]; exact of_any _ _ (keyAB [] a b) (addr a b text) _ A' 32 32 _ c' W h1 (Nat.le_refl _) (by unfold maxLen; omega) h2 h3 h4 h5 (by omega) (by omega)
  have HKey := Lib.hid hkey
  have HAdr := Lib.hid hadr
  have HOf := Lib.hid hof
  have HQl := Lib.hid hql
  have HQo := Lib.hid hqo
  have HQb := Lib.hid hqb
  have HRl := Lib.hid hrl
  have HRo := Lib.hid hro
  rw [← hr]
  clear hby ht hr hrl hro hq hql hqo hqb hkey hadr hof
  go_enter Tryd.func23, Tryd.ntmps23
  go_wp2_with (first
    | (go_at_call 19; (with_reducible refine (HKey.out _ (HT.out.through ((Below.refl _ w).alloc (Nat.le_refl _) _))).mono ?_); rintro e w1 ⟨rfl, hb1⟩; have HX1 : Hid (Below w.heap.size w w1) := Lib.hid (((Below.refl _ w).alloc (Nat.le_refl _) _).trans (hb1.mono (by simp))); have HB1 : Hid (Blk w1 w.heap.size 28 (vs zero32)) := Lib.hid ((Blk.fresh rfl (by kernel_rfl)).through hb1); have hg1 : w.heap.size < w1.heap.size := Nat.lt_of_lt_of_le (by simp) hb1.size; have HY1 := Lib.hid (HBy.out.through HX1.out); have HTb1 := Lib.hid (HT.out.through HX1.out); clear hb1)
    | (refine wpList_store_blk rfl 28 (.tmp 9) (.tmp 13) rfl w1.heap.size q rfl rfl 28 (vs zero32) (Blk.fresh rfl (by kernel_rfl)) (by rw [HQl.out]; kernel_rfl) (by rw [HQl.out]; rfl) HQo.out ?_; intro w2 hb2 ho2; have hx2 := below_new ho2; have HB2 := Lib.hid (HB1.out.through hx2); have HQ2 := Lib.hid hb2; have HY2 := Lib.hid (HY1.out.through hx2); have HTb2 := Lib.hid (HTb1.out.through hx2); have HX2 := Lib.hid (HX1.out.trans ((hx2).mono HX1.out.size)); clear hb2 ho2 hx2))
  obtain ⟨b9, hb9⟩ : ∃ b9, b9 = w1.heap.size := ⟨_, rfl⟩
  rw [← hb9] at HQ2
  rw [← hb9]
  obtain ⟨b8, hb8⟩ : ∃ b8, b8 = w.heap.size := ⟨_, rfl⟩
  rw [← hb8] at HB2
  have h89 : b8 < b9 := by rw [hb8, hb9]; exact hg1
  have h8w : w.heap.size ≤ b8 := by rw [hb8]; exact Nat.le_refl _

  rw [← hb8]
  clear hb8 hb9 hg1
  try dsimp only [Act.put]
  refine wp_region_held_drew (S := fun W => Blk W b9 28 q) (by kernel_rfl) HQ2.out.drew (fun hHeld => ?_)
  change wpAnyH _ _ _ _ _ _ #[false, false, false, false, false, false, false] _ _
  refine wpAnyH_take (i := 0) (v := (.slice (some ⟨b9, 0, none⟩) 32 32)) rfl (by kernel_rfl) (by kernel_rfl) (by kernel_rfl) (fun _ _ _ h => h) (Or.inl ⟨by kernel_rfl, fun w hSw => ?_⟩) (by assumption) ?_
  · (try dsimp only at hSw); go_simp <;> (try rfl)
  change wpAnyH _ _ _ _ _ _ _ (Act.put _ (some (14 : Nat)) (.slice (some ⟨b9, 0, none⟩) 32 32)) _
  simp only [Act.put, List.setIfInBounds_toArray, List.set_cons_zero, List.set_cons_succ]
  refine wpAnyH_take (i := 1) (v := (.int .i64 a)) rfl (by kernel_rfl) (by kernel_rfl) (by kernel_rfl) (fun _ _ _ h => h) (Or.inl ⟨by kernel_rfl, fun w hSw => ?_⟩) (by assumption) ?_
  · (try dsimp only at hSw); go_simp <;> (try rfl)
  change wpAnyH _ _ _ _ _ _ _ (Act.put _ (some (15 : Nat)) (.int .i64 a)) _
  simp only [Act.put, List.setIfInBounds_toArray, List.set_cons_zero, List.set_cons_succ]
  refine wpAnyH_take (i := 2) (v := (.int .i64 b)) rfl (by kernel_rfl) (by kernel_rfl) (by kernel_rfl) (fun _ _ _ h => h) (Or.inl ⟨by kernel_rfl, fun w hSw => ?_⟩) (by assumption) ?_
  · (try dsimp only at hSw); go_simp <;> (try rfl)
  change wpAnyH _ _ _ _ _ _ _ (Act.put _ (some (16 : Nat)) (.int .i64 b)) _
  simp only [Act.put, List.setIfInBounds_toArray, List.set_cons_zero, List.set_cons_succ]
  refine wpAnyH_take (i := 3) (v := (.slice A n c)) rfl (by kernel_rfl) (by kernel_rfl) (by kernel_rfl) (fun _ _ _ h => h) (Or.inl ⟨by kernel_rfl, fun w hSw => ?_⟩) (by assumption) ?_
  · (try dsimp only at hSw); go_simp <;> (try rfl)
  change wpAnyH _ _ _ _ _ _ _ (Act.put _ (some (17 : Nat)) (.slice A n c)) _
  simp only [Act.put, List.setIfInBounds_toArray, List.set_cons_zero, List.set_cons_succ]
  refine wpAnyH_ready (rs := [4]) (by kernel_rfl) (by simp) ?_
  refine AllReadyH.cons rfl (fun K hK => ?_) AllReadyH.nil
  go_simp
  refine (HAdr.out _ HY2.out.drew).mono ?_
  rintro e wa ⟨Aa, ca, rfl, hoa, hca, hma, hb⟩; have HXwa := Lib.hid (HX2.out.drew.trans (hb.mono HX2.out.size)); have HBwa := Lib.hid (HB2.out.drew.through hb); have HQwa := Lib.hid (HQ2.out.drew.through hb); have HTbwa := Lib.hid (HTb2.out.drew_.through hb); have HYa := Lib.hid ((By.of_own hoa).weak (Q' := fun _ => True) fun _ _ => trivial); clear hoa hb
  go_wp2_with fail
  refine hK.out _ _ HQwa.out (fun hHeld1 => ?_)
  clear hHeld hK K
  have hHeld := hHeld1
  clear hHeld1
  refine wpAnyH_ready (rs := [5]) (by kernel_rfl) (by simp) ?_
  refine AllReadyH.cons rfl (fun K hK => ?_) AllReadyH.nil
  go_simp
  refine (HOf.out _ b9 Aa ca (HQb.out _ _ HQwa.out) HYa.out hca hma HTbwa.out).mono ?_
  rintro e wb ⟨rfl, hb⟩; have HXwb := Lib.hid (HXwa.out.trans ((hb).mono HXwa.out.size)); have HBwb := Lib.hid (HBwa.out.through hb); have HQwb := Lib.hid (HQwa.out.through hb); have HTbwb := Lib.hid (HTbwa.out.through hb); clear hb
  go_wp2_with fail
  refine hK.out _ _ HQwb.out (fun hHeld1 => ?_)
  clear hHeld hK K
  have hHeld := hHeld1
  clear hHeld1
  refine wpAnyH_ready (rs := [6]) (by kernel_rfl) (by simp) ?_
  refine AllReadyH.cons (o := ⟨none, .store 28 (.tmp 8) (.tmp 19), _, _, _, none⟩) rfl (fun K hK => ?_) AllReadyH.nil
  refine step_store_blk rfl 28 (.tmp 8) (.tmp 19) rfl b8 r (by simp [Act.eval]) (by simp [Act.eval]) 28 (vs zero32) HBwb.out (by rw [HRl.out]; kernel_rfl) (by rw [HRl.out]; rfl) HRo.out ?_; intro wc hbc hoc; have HQc := Lib.hid (HQwb.out.grown hoc (fun e => absurd (Option.some.inj e) (Nat.ne_of_gt h89))); have HBc := Lib.hid hbc; have HGc := Lib.hid hoc; clear hbc hoc
  refine hK.out _ _ HQc.out (fun hHeld1 => ?_)
  clear hHeld hK K
  have hHeld := hHeld1
  clear hHeld1
  change wpAnyH _ _ _ _ _ _ _ (Act.put _ none undef) _
  simp only [Act.put]
  refine wpAnyH_done (by kernel_rfl) ?_ _
  go_wp2
  refine bodyPost_ret (v := .agg r.toArray) (results_cell_row rfl _ _ b8 28 _ (0, 0) _ rfl HBc.out Tryd.underlying28 rfl ?r1) rfl ⟨rfl, HXwb.out.grown HGc.out HXwb.out.size (fun k hk => Option.some.inj hk ▸ h8w)⟩
  rw [List.size_toArray, HRl.out]; kernel_rfl

set_option maxHeartbeats 8000000 in
set_option maxRecDepth 100000 in
theorem tag_tab (g : Nat) (seed : List UInt8) (a b : Int) (text : List UInt8) (A : Option Addr) (n c : Nat) (w : World) (hts : TS w g seed) (hs : seed.length ≤ 1000000) (hgl0 : 0 < g) (hgl1 : 1 < g) (hby : By w (fun k => k < g) A n text) (ht : Tab w) (hn : n ≤ 1000000) :
    Calls Tryd.prog 23 #[.pointer (some ⟨g, 0, none⟩), .int .i64 a, .int .i64 b, .slice A n c] w fun e w' => e = .returned (.agg (vs (tagAB seed a b text)).toArray) ∧ TS w' g seed ∧ KF g w w' := by
  have hgw' := hts.lt
  have hgw := Nat.le_of_lt hgw'
  have HTS := Lib.hid hts
  have hg0 := hgl0
  have hg1' := hgl1
  have HBy := Lib.hid hby
  have HT := Lib.hid ht
  obtain ⟨r, hr⟩ : ∃ r, r = vs (tagAB seed a b text) := ⟨_, rfl⟩
  have hrl : r.length = 32 := by rw [hr, vs_length, tagAB_length]
  have hro : r.toArray.all (·.oneCell') = true := by rw [hr]; exact one_u8
  obtain ⟨q, hq⟩ : ∃ q, q = vs (keyAB seed a b) := ⟨_, rfl⟩
  have hql : q.length = 32 := by rw [hq, vs_length, keyAB_length]
  have hqo : q.toArray.all (·.oneCell') = true := by rw [hq]; exact one_u8
  have hqb : ∀ W k, Blk W k 28 q → By W (fun _ => True) (some ⟨k, 0, none⟩) 32 (keyAB seed a b) := fun W k h => by rw [hq] at h; exact By.of_blk_n h (keyAB_length _ _ _) trivial
  have hadr : ∀ W, By W (fun k => k < g) A n text → Calls Tryd.prog 41 #[.int .i64 a, .int .i64 b, .slice A n c] W fun e w' => ∃ A' c', e = .returned (.slice A' (4 + n) c') ∧ w'.ownsRow W.heap.size 5 1 (.slice A' (4 + n) c') (4 + n) (vs (addr a b text)) ∧ 4 + n ≤ c' ∧ c' ≤ maxLen ∧ Below W.heap.size W w' := fun W h => addressed_any (fun k => k < g) a b text A n c W h hn
  have hkey : ∀ W, Tab W → TS W g seed → Calls Tryd.prog 19 #[.pointer (some ⟨g, 0, none⟩), .int .i64 a, .int .i64 b] W fun e w' => e = .returned (.agg q.toArray) ∧ TS w' g seed ∧ KF g W w' := fun W h1 h2 => by rw [hq]; exact key_tab g seed a b W h1 h2 hs
  have hof : ∀ W k A' c', By W (fun _ => True) (some ⟨k, 0, none⟩) 32 (keyAB seed a b) → By W (fun _ => True) A' (4 + n) (addr a b text) → 4 + n ≤ c' → c' ≤ maxLen → Tab W → Calls Tryd.prog 13 #[.slice (some ⟨k, 0, none⟩) 32 32, .slice A' (4 + n) c'] W fun e w' => e = .returned (.agg r.toArray) ∧ Below W.heap.size W w' := fun W k A' c' h1 h2 h3 h4 h5 => by
    rw [hr]; exact of_any _ _ (keyAB seed a b) (addr a b text) _ A' 32 32 _ c' W h1 (Nat.le_refl _) (by unfold maxLen; omega) h2 h3 h4 h5 (by omega) (by omega)
  have HKey := Lib.hid hkey
  have HAdr := Lib.hid hadr
  have HOf := Lib.hid hof
  have HQl := Lib.hid hql
  have HQo := Lib.hid hqo
  have HQb := Lib.hid hqb
  have HRl := Lib.hid hrl
  have HRo := Lib.hid hro
  rw [← hr]
  clear hby ht hr hrl hro hq hql hqo hqb hkey hadr hof
  go_enter Tryd.func23, Tryd.ntmps23
  go_wp2_with (first
    | (go_at_call 19; (with_reducible refine (HKey.out _ (HT.out.through ((Below.refl _ w).alloc (Nat.le_refl _) _)) (HTS.out.through ((Below.refl _ w).alloc (Nat.le_refl _) _))).mono ?_); rintro e w1 ⟨rfl, hts1, hkf1⟩; have HX1 : Hid (KF g w w1) := Lib.hid ((KF.of_below hgw ((Below.refl _ w).alloc (Nat.le_refl _) _)).trans hkf1); have HB1 : Hid (Blk w1 w.heap.size 28 (vs zero32)) := Lib.hid (hkf1.blk (Blk.fresh rfl (by kernel_rfl)) (Nat.ne_of_gt hgw')); have hg1 : w.heap.size < w1.heap.size := Nat.lt_of_lt_of_le (by simp) hkf1.size; have HS1 := Lib.hid hts1; have HY1 := Lib.hid ((HBy.out.alloc _).kf hkf1); have HTb1 := Lib.hid ((HT.out.through ((Below.refl _ w).alloc (Nat.le_refl _) _)).kf hkf1 hg0 hg1'); clear hts1 hkf1)
    | (refine wpList_store_blk rfl 28 (.tmp 9) (.tmp 13) rfl w1.heap.size q rfl rfl 28 (vs zero32) (Blk.fresh rfl (by kernel_rfl)) (by rw [HQl.out]; kernel_rfl) (by rw [HQl.out]; rfl) HQo.out ?_; intro w2 hb2 ho2; have hx2 := below_new ho2; have HB2 := Lib.hid (HB1.out.through hx2); have HQ2 := Lib.hid hb2; have HY2 := Lib.hid (HY1.out.through hx2); have HTb2 := Lib.hid (HTb1.out.through hx2); have HX2 := Lib.hid (HX1.out.trans (KF.of_below (Nat.le_of_lt HS1.out.lt) hx2)); have HS2 := Lib.hid (HS1.out.through hx2); clear hb2 ho2 hx2))
  obtain ⟨b9, hb9⟩ : ∃ b9, b9 = w1.heap.size := ⟨_, rfl⟩
  rw [← hb9] at HQ2
  rw [← hb9]
  obtain ⟨b8, hb8⟩ : ∃ b8, b8 = w.heap.size := ⟨_, rfl⟩
  rw [← hb8] at HB2
  have h89 : b8 < b9 := by rw [hb8, hb9]; exact hg1
  have h8w : w.heap.size ≤ b8 := by rw [hb8]; exact Nat.le_refl _
  have hg8 : g < b8 := by rw [hb8]; exact hgw'
  rw [← hb8]
  clear hb8 hb9 hg1
  try dsimp only [Act.put]
  refine wp_region_held_drew (S := fun W => Blk W b9 28 q) (by kernel_rfl) HQ2.out.drew (fun hHeld => ?_)
  change wpAnyH _ _ _ _ _ _ #[false, false, false, false, false, false, false] _ _
  refine wpAnyH_take (i := 0) (v := (.slice (some ⟨b9, 0, none⟩) 32 32)) rfl (by kernel_rfl) (by kernel_rfl) (by kernel_rfl) (fun _ _ _ h => h) (Or.inl ⟨by kernel_rfl, fun w hSw => ?_⟩) (by assumption) ?_
  · (try dsimp only at hSw); go_simp <;> (try rfl)
  change wpAnyH _ _ _ _ _ _ _ (Act.put _ (some (14 : Nat)) (.slice (some ⟨b9, 0, none⟩) 32 32)) _
  simp only [Act.put, List.setIfInBounds_toArray, List.set_cons_zero, List.set_cons_succ]
  refine wpAnyH_take (i := 1) (v := (.int .i64 a)) rfl (by kernel_rfl) (by kernel_rfl) (by kernel_rfl) (fun _ _ _ h => h) (Or.inl ⟨by kernel_rfl, fun w hSw => ?_⟩) (by assumption) ?_
  · (try dsimp only at hSw); go_simp <;> (try rfl)
  change wpAnyH _ _ _ _ _ _ _ (Act.put _ (some (15 : Nat)) (.int .i64 a)) _
  simp only [Act.put, List.setIfInBounds_toArray, List.set_cons_zero, List.set_cons_succ]
  refine wpAnyH_take (i := 2) (v := (.int .i64 b)) rfl (by kernel_rfl) (by kernel_rfl) (by kernel_rfl) (fun _ _ _ h => h) (Or.inl ⟨by kernel_rfl, fun w hSw => ?_⟩) (by assumption) ?_
  · (try dsimp only at hSw); go_simp <;> (try rfl)
  change wpAnyH _ _ _ _ _ _ _ (Act.put _ (some (16 : Nat)) (.int .i64 b)) _
  simp only [Act.put, List.setIfInBounds_toArray, List.set_cons_zero, List.set_cons_succ]
  refine wpAnyH_take (i := 3) (v := (.slice A n c)) rfl (by kernel_rfl) (by kernel_rfl) (by kernel_rfl) (fun _ _ _ h => h) (Or.inl ⟨by kernel_rfl, fun w hSw => ?_⟩) (by assumption) ?_
  · (try dsimp only at hSw); go_simp <;> (try rfl)
  change wpAnyH _ _ _ _ _ _ _ (Act.put _ (some (17 : Nat)) (.slice A n c)) _
  simp only [Act.put, List.setIfInBounds_toArray, List.set_cons_zero, List.set_cons_succ]
  refine wpAnyH_ready (rs := [4]) (by kernel_rfl) (by simp) ?_
  refine AllReadyH.cons rfl (fun K hK => ?_) AllReadyH.nil
  go_simp
  refine (HAdr.out _ HY2.out.drew).mono ?_
  rintro e wa ⟨Aa, ca, rfl, hoa, hca, hma, hb⟩; have HXwa := Lib.hid (HX2.out.drew.trans (KF.of_below (Nat.le_of_lt HS2.out.lt) hb)); have HSwa := Lib.hid (TS.through (w := w2.drew) HS2.out hb); have HBwa := Lib.hid (HB2.out.drew.through hb); have HQwa := Lib.hid (HQ2.out.drew.through hb); have HTbwa := Lib.hid (HTb2.out.drew_.through hb); have HYa := Lib.hid ((By.of_own hoa).weak (Q' := fun _ => True) fun _ _ => trivial); clear hoa hb
  go_wp2_with fail
  refine hK.out _ _ HQwa.out (fun hHeld1 => ?_)
  clear hHeld hK K
  have hHeld := hHeld1
  clear hHeld1
  refine wpAnyH_ready (rs := [5]) (by kernel_rfl) (by simp) ?_
  refine AllReadyH.cons rfl (fun K hK => ?_) AllReadyH.nil
  go_simp
  refine (HOf.out _ b9 Aa ca (HQb.out _ _ HQwa.out) HYa.out hca hma HTbwa.out).mono ?_
  rintro e wb ⟨rfl, hb⟩; have HXwb := Lib.hid (HXwa.out.trans (KF.of_below (Nat.le_of_lt HSwa.out.lt) hb)); have HSwb := Lib.hid (HSwa.out.through hb); have HBwb := Lib.hid (HBwa.out.through hb); have HQwb := Lib.hid (HQwa.out.through hb); have HTbwb := Lib.hid (HTbwa.out.through hb); clear hb
  go_wp2_with fail
  refine hK.out _ _ HQwb.out (fun hHeld1 => ?_)
  clear hHeld hK K
  have hHeld := hHeld1
  clear hHeld1
  refine wpAnyH_ready (rs := [6]) (by kernel_rfl) (by simp) ?_
  refine AllReadyH.cons (o := ⟨none, .store 28 (.tmp 8) (.tmp 19), _, _, _, none⟩) rfl (fun K hK => ?_) AllReadyH.nil
  refine step_store_blk rfl 28 (.tmp 8) (.tmp 19) rfl b8 r (by simp [Act.eval]) (by simp [Act.eval]) 28 (vs zero32) HBwb.out (by rw [HRl.out]; kernel_rfl) (by rw [HRl.out]; rfl) HRo.out ?_; intro wc hbc hoc; have HQc := Lib.hid (HQwb.out.grown hoc (fun e => absurd (Option.some.inj e) (Nat.ne_of_gt h89))); have HBc := Lib.hid hbc; have HGc := Lib.hid hoc; clear hbc hoc
  refine hK.out _ _ HQc.out (fun hHeld1 => ?_)
  clear hHeld hK K
  have hHeld := hHeld1
  clear hHeld1
  change wpAnyH _ _ _ _ _ _ _ (Act.put _ none undef) _
  simp only [Act.put]
  refine wpAnyH_done (by kernel_rfl) ?_ _
  go_wp2
  refine bodyPost_ret (v := .agg r.toArray) (results_cell_row rfl _ _ b8 28 _ (0, 0) _ rfl HBc.out Tryd.underlying28 rfl ?r1) rfl ⟨rfl, TS.grown HSwb.out HBwb.out HGc.out hg8, KF.grownB HXwb.out HGc.out h8w (Nat.le_of_lt hgw')⟩
  rw [List.size_toArray, HRl.out]; kernel_rfl

end Go.Proofs.YtolildehdibpbaaDoor
