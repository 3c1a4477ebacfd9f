/-
  MacChecks, walked.
-/
import Derived.Test.YtolildehdibpbaaDoorTags
namespace Go.Proofs.YtolildehdibpbaaDoor
open Go.RowKit

theorem bent_eq (own : List UInt8) (k : Nat) (hk : k < own.length) (x : UInt8) : (own == own.set k (own[k] ^^^ x)) = ((x.toNat : Int) == 0) := by
  rw [Bool.eq_iff_iff]
  simp only [beq_iff_eq]
  constructor
  · intro h
    have h2 := congrArg (fun l => l[k]?) h
    simp only [List.getElem?_set_self hk, List.getElem?_eq_getElem hk, Option.some.injEq] at h2
    have h3 := congrArg UInt8.toNat h2
    rw [UInt8.toNat_xor] at h3
    have h4 : own[k].toNat ^^^ own[k].toNat = own[k].toNat ^^^ (own[k].toNat ^^^ x.toNat) := congrArg (own[k].toNat ^^^ ·) h3
    rw [Nat.xor_self, ← Nat.xor_assoc, Nat.xor_self, Nat.zero_xor] at h4
    omega
  · intro h
    have hx : x = 0 := UInt8.toNat_inj.1 (by simp; omega)
    subst hx
    rw [show own[k] ^^^ (0 : UInt8) = own[k] from UInt8.toNat_inj.1 (by rw [UInt8.toNat_xor]; simp), List.set_getElem_self]
theorem str_beq (xs ys : List UInt8) : ((⟨xs.toArray⟩ : ByteArray) == ⟨ys.toArray⟩) = (xs == ys) := by
  show (xs.toArray == ys.toArray) = (xs == ys)
  simp
theorem str_dec (xs ys : List UInt8) : decide ((⟨xs.toArray⟩ : ByteArray) = ⟨ys.toArray⟩) = (xs == ys) := by
  rw [Bool.eq_iff_iff]
  simp

set_option maxHeartbeats 16000000 in
set_option maxRecDepth 100000 in
theorem checks_any (Q Q' : Nat → Prop) (key text tg : List UInt8) (htg : tg.length = 32) (a : Nat) (ha : a < 256) (x : UInt8) (A A' : Option Addr) (n c n' c' : Nat) (w : World) (ht : Tab w) (hby : By w Q A n key) (hnc : n ≤ c) (hcm : c ≤ maxLen) (hby' : By w Q' A' n' text) (hnc' : n' ≤ c') (hcm' : c' ≤ maxLen) :
    Calls Tryd.prog 5 #[.slice A n c, .slice A' n' c', .agg (vs tg).toArray, .int .u8 (a : Int), .int .u8 (x.toNat : Int)] w fun e w' => e = .returned (.bool true) ∧ Below w.heap.size w w' := by
  have HT := Lib.hid ht
  have HBy := Lib.hid hby
  have HBy' := Lib.hid hby'
  obtain ⟨tq, htq⟩ : ∃ tq, tq = vs tg := ⟨_, rfl⟩
  have htl : tq.length = 32 := by rw [htq, vs_length, htg]
  have hgt : Blk (w.alloc (.cells tq.toArray 28)) w.heap.size 28 tq := Blk.fresh rfl rfl
  have HTl := Lib.hid htl
  have HGt := Lib.hid hgt
  rw [← htq]
  by_cases hn : 200 < n
  · have hd : decide (200 < (n : Int)) = true := by simp; omega
    clear ht hby hby' htq htl hgt
    go_enter Tryd.func5, Tryd.ntmps5
    go_wp2_with (go_at_call 12; refine (mfixed_any _ (HT.out.through ((Below.refl _ w).alloc (Nat.le_refl _) _))).mono ?_; rintro e w1 ⟨rfl, hx1⟩)
    go_ret
    exact ⟨rfl, ((Below.refl _ w).alloc (Nat.le_refl _) _).trans (hx1.mono (by simp))⟩
  by_cases hn' : 200 < n'
  · have hd : decide (200 < (n : Int)) = false := by simp; omega
    have hd' : decide (200 < (n' : Int)) = true := by simp; omega
    clear ht hby hby' htq htl hgt
    go_enter Tryd.func5, Tryd.ntmps5
    go_wp2_with (go_at_call 12; refine (mfixed_any _ (HT.out.through ((Below.refl _ w).alloc (Nat.le_refl _) _))).mono ?_; rintro e w1 ⟨rfl, hx1⟩)
    go_ret
    exact ⟨rfl, ((Below.refl _ w).alloc (Nat.le_refl _) _).trans (hx1.mono (by simp))⟩
  have hd : decide (200 < (n : Int)) = false := by simp; omega
  have hd' : decide (200 < (n' : Int)) = false := by simp; omega
  obtain ⟨own, hown⟩ : ∃ own, own = hmac key text := ⟨_, rfl⟩
  have hol : own.length = 32 := by rw [hown, hmac_length]
  obtain ⟨k, hk⟩ : ∃ k, k = a % 32 := ⟨_, rfl⟩
  have hk32 : k < 32 := by omega
  have hka : (a : Int) % 32 = (k : Int) := by omega
  have hko : k < own.length := by omega
  obtain ⟨z, hz⟩ : ∃ z, z = own[k] := ⟨_, rfl⟩
  have hxz := u8_xor_toNat z x
  obtain ⟨y, hy⟩ : ∃ y, y = z ^^^ x := ⟨_, rfl⟩
  rw [← hy] at hxz
  obtain ⟨bt, hbt⟩ : ∃ bt, bt = own.set k y := ⟨_, rfl⟩
  have hbtl : bt.length = 32 := by rw [hbt, List.length_set, hol]
  obtain ⟨r, hr⟩ : ∃ r, r = vs own := ⟨_, rfl⟩
  obtain ⟨bq, hbq⟩ : ∃ bq, bq = vs bt := ⟨_, rfl⟩
  have hrl : r.length = 32 := by rw [hr, vs_length, hol]
  have hbl : bq.length = 32 := by rw [hbq, vs_length, hbtl]
  have hro : r.toArray.all (·.oneCell') = true := by rw [hr]; exact one_u8
  have hrk : r[k]? = some (u8 z) := by rw [hr, vs_get, List.getElem?_eq_getElem hko, hz]; rfl
  have hset : r.set k (u8 y) = bq := by rw [hr, hbq, hbt]; simp [vs, List.map_set]
  obtain ⟨bx, hbx⟩ : ∃ bx, bx = ((x.toNat : Int) == 0) := ⟨_, rfl⟩
  obtain ⟨b3, hb3⟩ : ∃ b3, b3 = (tg == own) := ⟨_, rfl⟩
  obtain ⟨b4, hb4⟩ : ∃ b4, b4 = (key == text) := ⟨_, rfl⟩
  have hck : ∀ W t, t.length = 32 → By W Q A n key → By W Q' A' n' text → Tab W → Calls Tryd.prog 15 #[.slice A n c, .slice A' n' c', .agg (vs t).toArray] W fun e w' => e = .returned (.bool (own == t)) ∧ Below W.heap.size W w' := fun W t h0 h1 h2 h3 => by
    rw [hown]; exact check_any Q Q' key text t h0 A A' n c n' c' W h1 hnc hcm h2 hnc' hcm' h3 (by omega) (by omega)
  have hc1 : ∀ W, By W Q A n key → By W Q' A' n' text → Tab W → Calls Tryd.prog 15 #[.slice A n c, .slice A' n' c', .agg r.toArray] W fun e w' => e = .returned (.bool true) ∧ Below W.heap.size W w' := fun W h1 h2 h3 => by
    have h := hck W own hol h1 h2 h3
    rw [beq_self_eq_true] at h
    rw [hr]; exact h
  have hc2 : ∀ W, By W Q A n key → By W Q' A' n' text → Tab W → Calls Tryd.prog 15 #[.slice A n c, .slice A' n' c', .agg bq.toArray] W fun e w' => e = .returned (.bool bx) ∧ Below W.heap.size W w' := fun W h1 h2 h3 => by
    have h := hck W bt hbtl h1 h2 h3
    have e : (own == bt) = bx := by rw [hbt, hy, hz, hbx]; exact bent_eq own k hko x
    rw [e] at h
    rw [hbq]; exact h
  have hc3 : ∀ W, By W Q A n key → By W Q' A' n' text → Tab W → Calls Tryd.prog 15 #[.slice A n c, .slice A' n' c', .agg tq.toArray] W fun e w' => e = .returned (.bool b3) ∧ Below W.heap.size W w' := fun W h1 h2 h3 => by
    have h := hck W tg htg h1 h2 h3
    have e : (own == tg) = b3 := by rw [hb3, Bool.eq_iff_iff]; simp only [beq_iff_eq]; exact ⟨Eq.symm, Eq.symm⟩
    rw [e] at h
    rw [htq]; exact h
  have hc4 : ∀ W, By W Q A n key → By W Q' A' n' text → Calls Tryd.prog 16 #[.slice A n c, .slice A' n' c'] W fun e w' => e = .returned (.bool b4) ∧ Below W.heap.size W w' := fun W h1 h2 => by
    rw [hb4]; exact same_any Q Q' key text A A' n c n' c' W h1 h2 (by omega) (by omega)
  have hrof : ∀ W, By W Q A n key → By W Q' A' n' text → Calls Tryd.prog 14 #[.slice A n c, .slice A' n' c'] W fun e w' => e = .returned (.agg r.toArray) ∧ Below W.heap.size W w' := fun W h1 h2 => by
    rw [hr, hown]; exact rof_any Q Q' key text A A' n c n' c' W h1 h2 (by omega) (by omega)
  have hstr : ∀ W, By W Q A n key → (convert 22 9 (.slice A n c)).run Tryd.prog W = .ok (.string ⟨key.toArray⟩) W := fun W h =>
    run_string_by W 22 9 5 Tryd.underlying22 Tryd.underlying5 Tryd.underlying9 Q A n c key h
  have hstr' : ∀ W, By W Q' A' n' text → (convert 22 9 (.slice A' n' c')).run Tryd.prog W = .ok (.string ⟨text.toArray⟩) W := fun W h =>
    run_string_by W 22 9 5 Tryd.underlying22 Tryd.underlying5 Tryd.underlying9 Q' A' n' c' text h
  have heql : ∀ W, (binOp .eql 28 (.agg tq.toArray) (.agg r.toArray)).run Tryd.prog W = .ok (.bool b3) W := fun W => by
    rw [htq, hr, hb3]; exact tag_eql tg own htg hol W
  obtain ⟨ks, hks⟩ : ∃ ks : ByteArray, ks = ⟨key.toArray⟩ := ⟨_, rfl⟩
  obtain ⟨ts, hts⟩ : ∃ ts : ByteArray, ts = ⟨text.toArray⟩ := ⟨_, rfl⟩
  rw [← hks] at hstr
  rw [← hts] at hstr'
  have hse : (ks == ts) = b4 := by rw [hks, hts, hb4]; exact str_beq key text
  have hse3 : (ks.toList == ts.toList) = b4 := by rw [hks, hts, hb4, ByteArray.toList_eq, ByteArray.toList_eq]
  have hse2 : decide (ks = ts) = b4 := by rw [hks, hts, hb4]; exact str_dec key text
  have hbx' := hbx.symm
  have HC1 := Lib.hid hc1
  have HC2 := Lib.hid hc2
  have HC3 := Lib.hid hc3
  have HC4 := Lib.hid hc4
  have HROf := Lib.hid hrof
  have HStr := Lib.hid hstr
  have HStr' := Lib.hid hstr'
  have HRl := Lib.hid hrl
  have HBl := Lib.hid hbl
  have HRo := Lib.hid hro
  have HRk := Lib.hid hrk
  have HSet := Lib.hid hset
  have HK32 := Lib.hid hk32
  clear ht hby hby' htq htl hgt hown hol hk hko hz hy hbt hbtl hr hbq hrl hbl hro hrk hset hbx hb3 hb4 hck hc1 hc2 hc3 hc4 hrof hstr hstr' hks hts
  go_enter Tryd.func5, Tryd.ntmps5
  go_wp2_with (first
    | (go_at_call 12; refine (mfixed_any _ (HT.out.through ((Below.refl _ w).alloc (Nat.le_refl _) _))).mono ?_; rintro e w1 ⟨rfl, hx1⟩; have HX1 : Hid (Below w.heap.size w w1) := Lib.hid (((Below.refl _ w).alloc (Nat.le_refl _) _).trans (hx1.mono (by simp))); have HG1 := Lib.hid (HGt.out.through hx1); clear hx1)
    | (go_at_call 14; (with_reducible refine (HROf.out _ (HBy.out.through HX1.out) (HBy'.out.through HX1.out)).mono ?_); rintro e w2 ⟨rfl, hb2⟩; have HX2 := Lib.hid (HX1.out.trans (hb2.mono HX1.out.size)); have HG2 := Lib.hid (HG1.out.through hb2); clear hb2)
    | (refine wpList_store_blk rfl 28 (.tmp 11) (.tmp 25) rfl w2.heap.size r rfl rfl 28 (vs zero32) (Blk.fresh rfl (by kernel_rfl)) (by rw [HRl.out]; kernel_rfl) (by rw [HRl.out]; rfl) HRo.out ?_; intro w3 hb3 ho3; have HX3 := Lib.hid ((HX2.out.alloc HX2.out.size _).grown ho3 (Nat.le_trans HX2.out.size (by simp)) (fun g hg => Option.some.inj hg ▸ HX2.out.size)); have HG3 := Lib.hid ((HG2.out.alloc _).grown ho3 (fun e => absurd (Option.some.inj e) (Nat.ne_of_lt HG2.out.lt))); have HO3 := Lib.hid hb3; clear hb3 ho3)
    | (refine wpList_load_blk rfl 28 (.tmp 11) rfl w2.heap.size rfl 28 r _ HO3.out Tryd.underlying28 rfl (by rw [HRl.out]; kernel_rfl) ?_)
    | (refine wpList_store_blk rfl 28 (.tmp 12) (.tmp 26) rfl w3.heap.size r rfl rfl 28 (vs zero32) (Blk.fresh rfl (by kernel_rfl)) (by rw [HRl.out]; kernel_rfl) (by rw [HRl.out]; rfl) HRo.out ?_; intro w4 hb4 ho4; have HX4 := Lib.hid ((HX3.out.alloc HX3.out.size _).grown ho4 (Nat.le_trans HX3.out.size (by simp)) (fun g hg => Option.some.inj hg ▸ HX3.out.size)); have HG4 := Lib.hid ((HG3.out.alloc _).grown ho4 (fun e => absurd (Option.some.inj e) (Nat.ne_of_lt HG3.out.lt))); have HO4 := Lib.hid ((HO3.out.alloc _).grown ho4 (fun e => absurd (Option.some.inj e) (Nat.ne_of_lt HO3.out.lt))); have HE4 := Lib.hid hb4; have hcz := hb4.cellAt HRk.out; have hfz := hb4.frozen k; have hne1 := HG3.out.lt; have hne2 := HO3.out.lt; unfold u8 at hcz; clear hb4 ho4))
  obtain ⟨g11, hg11⟩ : ∃ g11, g11 = w2.heap.size := ⟨_, rfl⟩
  obtain ⟨g12, hg12⟩ : ∃ g12, g12 = w3.heap.size := ⟨_, rfl⟩
  rw [← hg11] at HO4 hne2
  rw [← hg12] at HE4 hne2
  rw [← hg11, ← hg12]
  obtain ⟨w5, hw5⟩ : ∃ w5, w5 = w4.setCell ⟨g12, k, none⟩ (.int .u8 (y.toNat : Int)) := ⟨_, rfl⟩
  have hE0 : Blk w5 g12 28 bq := by rw [hw5, ← HSet.out]; exact HE4.out.set_ k (u8 y)
  have hO0 : Blk w5 g11 28 r := by rw [hw5]; exact HO4.out.far (Nat.ne_of_lt hne2) _
  have hG0 : Blk w5 w.heap.size 28 tq := by rw [hw5]; exact HG4.out.far (by rw [hg12]; exact Nat.ne_of_lt (Nat.lt_of_lt_of_le hne1 (Nat.le_refl _))) _
  have hX0 : Below w.heap.size w w5 := by rw [hw5]; exact HX4.out.setCell (by rw [hg12]; exact Nat.le_of_lt hne1) _
  rw [← hw5]
  have HE0 := Lib.hid hE0
  have HO0 := Lib.hid hO0
  have HG0 := Lib.hid hG0
  have HX0 := Lib.hid hX0
  have HK0 := Lib.hid (HBy.out.through hX0)
  have HY0 := Lib.hid (HBy'.out.through hX0)
  clear hE0 hO0 hG0 hX0 hw5 hne1 hne2 hg11 hg12 hcz hfz

  refine wp_region_held_drew (S := fun W => (Blk W g11 28 r ∧ Blk W g12 28 bq ∧ Blk W w.heap.size 28 tq) ∧ By W Q A n key ∧ By W Q' A' n' text ∧ Below w.heap.size w W) (by kernel_rfl) ⟨⟨HO0.out.drew, HE0.out.drew, HG0.out.drew⟩, HK0.out.drew, HY0.out.drew, HX0.out.drew⟩ (fun hHeld => ?_)
  change wpAnyH _ _ _ _ _ _ #[false, false, false, false, false, false, false, false, false, false, false, false, false, false, false, false, false, false, false, false, false, false, false, false, false, false, false, false, false, false, false, false, false, false, false] _ _
  refine wpAnyH_take (i := 0) (v := (.slice A n c)) rfl (by kernel_rfl) (by kernel_rfl) (by kernel_rfl) (fun _ _ _ h => h) (Or.inl ⟨by kernel_rfl, fun w hSw => ?_⟩) (by assumption) ?_
  · (try dsimp only at hSw); go_simp <;> (try rfl)
  change wpAnyH _ _ _ _ _ _ _ (Act.put _ (some (34 : Nat)) (.slice A n c)) _
  simp only [Act.put, List.setIfInBounds_toArray, List.set_cons_zero, List.set_cons_succ]
  refine wpAnyH_take (i := 1) (v := (.slice A' n' c')) rfl (by kernel_rfl) (by kernel_rfl) (by kernel_rfl) (fun _ _ _ h => h) (Or.inl ⟨by kernel_rfl, fun w hSw => ?_⟩) (by assumption) ?_
  · (try dsimp only at hSw); go_simp <;> (try rfl)
  change wpAnyH _ _ _ _ _ _ _ (Act.put _ (some (35 : Nat)) (.slice A' n' c')) _
  simp only [Act.put, List.setIfInBounds_toArray, List.set_cons_zero, List.set_cons_succ]
  refine wpAnyH_take (i := 2) (v := (.agg r.toArray)) rfl (by kernel_rfl) (by kernel_rfl) (by kernel_rfl) (fun _ _ _ h => h) (yields_load_at (by kernel_rfl) 28 (.tmp 11) rfl (.pointer (some ⟨g11, 0, none⟩)) (by simp [Act.eval]) (.agg r.toArray) (fun W hW => hW.1.1.loadAt 28 _ Tryd.underlying28 rfl (by rw [HRl.out]; kernel_rfl))) (by assumption) ?_
  change wpAnyH _ _ _ _ _ _ _ (Act.put _ (some (36 : Nat)) (.agg r.toArray)) _
  simp only [Act.put, List.setIfInBounds_toArray, List.set_cons_zero, List.set_cons_succ]
  refine wpAnyH_ready (rs := [3]) (by kernel_rfl) (by simp) ?_
  refine AllReadyH.cons rfl (fun K hK => ?_) AllReadyH.nil
  go_simp
  refine (HC1.out _ HK0.out.drew HY0.out.drew (HT.out.through HX0.out).drew_).mono ?_
  rintro e wa ⟨rfl, hb⟩; have HOwa := Lib.hid (HO0.out.drew.through hb); have HEwa := Lib.hid (HE0.out.drew.through hb); have HGwa := Lib.hid (HG0.out.drew.through hb); have HKwa := Lib.hid (HK0.out.drew.through hb); have HYwa := Lib.hid (HY0.out.drew.through hb); have HXwa := Lib.hid (HX0.out.drew.trans (hb.mono HX0.out.size)); clear hb
  go_wp2_with fail
  refine hK.out _ _ ⟨⟨HOwa.out, HEwa.out, HGwa.out⟩, HKwa.out, HYwa.out, HXwa.out⟩ (fun hHeld1 => ?_)
  clear hHeld hK K
  have hHeld := hHeld1
  clear hHeld1
  refine wpAnyH_take (i := 4) (v := (.bool true)) rfl (by kernel_rfl) (by kernel_rfl) (by kernel_rfl) (fun _ _ _ h => h) (Or.inl ⟨by kernel_rfl, fun w hSw => ?_⟩) (by assumption) ?_
  · (try dsimp only at hSw); go_simp <;> (try rfl)
  change wpAnyH _ _ _ _ _ _ _ (Act.put _ (some (38 : Nat)) (.bool true)) _
  simp only [Act.put, List.setIfInBounds_toArray, List.set_cons_zero, List.set_cons_succ]
  refine wpAnyH_take (i := 5) (v := (.slice A n c)) rfl (by kernel_rfl) (by kernel_rfl) (by kernel_rfl) (fun _ _ _ h => h) (Or.inl ⟨by kernel_rfl, fun w hSw => ?_⟩) (by assumption) ?_
  · (try dsimp only at hSw); go_simp <;> (try rfl)
  change wpAnyH _ _ _ _ _ _ _ (Act.put _ (some (39 : Nat)) (.slice A n c)) _
  simp only [Act.put, List.setIfInBounds_toArray, List.set_cons_zero, List.set_cons_succ]
  refine wpAnyH_take (i := 6) (v := (.slice A' n' c')) rfl (by kernel_rfl) (by kernel_rfl) (by kernel_rfl) (fun _ _ _ h => h) (Or.inl ⟨by kernel_rfl, fun w hSw => ?_⟩) (by assumption) ?_
  · (try dsimp only at hSw); go_simp <;> (try rfl)
  change wpAnyH _ _ _ _ _ _ _ (Act.put _ (some (40 : Nat)) (.slice A' n' c')) _
  simp only [Act.put, List.setIfInBounds_toArray, List.set_cons_zero, List.set_cons_succ]
  refine wpAnyH_take (i := 7) (v := (.agg bq.toArray)) rfl (by kernel_rfl) (by kernel_rfl) (by kernel_rfl) (fun _ _ _ h => h) (yields_load_at (by kernel_rfl) 28 (.tmp 12) rfl (.pointer (some ⟨g12, 0, none⟩)) (by simp [Act.eval]) (.agg bq.toArray) (fun W hW => hW.1.2.1.loadAt 28 _ Tryd.underlying28 rfl (by rw [HBl.out]; kernel_rfl))) (by assumption) ?_
  change wpAnyH _ _ _ _ _ _ _ (Act.put _ (some (41 : Nat)) (.agg bq.toArray)) _
  simp only [Act.put, List.setIfInBounds_toArray, List.set_cons_zero, List.set_cons_succ]
  refine wpAnyH_take (i := 9) (v := (.int .u8 (x.toNat : Int))) rfl (by kernel_rfl) (by kernel_rfl) (by kernel_rfl) (fun _ _ _ h => h) (Or.inl ⟨by kernel_rfl, fun w hSw => ?_⟩) (by assumption) ?_
  · (try dsimp only at hSw); go_simp <;> (try rfl)
  change wpAnyH _ _ _ _ _ _ _ (Act.put _ (some (43 : Nat)) (.int .u8 (x.toNat : Int))) _
  simp only [Act.put, List.setIfInBounds_toArray, List.set_cons_zero, List.set_cons_succ]
  refine wpAnyH_take (i := 10) (v := (.bool bx)) rfl (by kernel_rfl) (by kernel_rfl) (by kernel_rfl) (fun _ _ _ h => h) (Or.inl ⟨by kernel_rfl, fun w hSw => ?_⟩) (by assumption) ?_
  · (try dsimp only at hSw); go_simp <;> (try rfl)
  change wpAnyH _ _ _ _ _ _ _ (Act.put _ (some (44 : Nat)) (.bool bx)) _
  simp only [Act.put, List.setIfInBounds_toArray, List.set_cons_zero, List.set_cons_succ]
  refine wpAnyH_ready (rs := [8]) (by kernel_rfl) (by simp) ?_
  refine AllReadyH.cons rfl (fun K hK => ?_) AllReadyH.nil
  go_simp
  refine (HC2.out _ HKwa.out HYwa.out (HT.out.through HXwa.out)).mono ?_
  rintro e wb ⟨rfl, hb⟩; have HOwb := Lib.hid (HOwa.out.through hb); have HEwb := Lib.hid (HEwa.out.through hb); have HGwb := Lib.hid (HGwa.out.through hb); have HKwb := Lib.hid (HKwa.out.through hb); have HYwb := Lib.hid (HYwa.out.through hb); have HXwb := Lib.hid (HXwa.out.trans (hb.mono HXwa.out.size)); clear hb
  go_wp2_with fail
  refine hK.out _ _ ⟨⟨HOwb.out, HEwb.out, HGwb.out⟩, HKwb.out, HYwb.out, HXwb.out⟩ (fun hHeld1 => ?_)
  clear hHeld hK K
  have hHeld := hHeld1
  clear hHeld1
  refine wpAnyH_take (i := 11) (v := (.bool true)) rfl (by kernel_rfl) (by kernel_rfl) (by kernel_rfl) (fun _ _ _ h => h) (Or.inl ⟨by kernel_rfl, fun w hSw => ?_⟩) (by assumption) ?_
  · (try dsimp only at hSw); go_simp <;> (try rfl)
  change wpAnyH _ _ _ _ _ _ _ (Act.put _ (some (45 : Nat)) (.bool true)) _
  simp only [Act.put, List.setIfInBounds_toArray, List.set_cons_zero, List.set_cons_succ]
  refine wpAnyH_take (i := 12) (v := (.bool true)) rfl (by kernel_rfl) (by kernel_rfl) (by kernel_rfl) (fun _ _ _ h => h) (Or.inl ⟨by kernel_rfl, fun w hSw => ?_⟩) (by assumption) ?_
  · (try dsimp only at hSw); go_simp <;> (try rfl)
  change wpAnyH _ _ _ _ _ _ _ (Act.put _ (some (46 : Nat)) (.bool true)) _
  simp only [Act.put, List.setIfInBounds_toArray, List.set_cons_zero, List.set_cons_succ]
  refine wpAnyH_take (i := 13) (v := (.bool true)) rfl (by kernel_rfl) (by kernel_rfl) (by kernel_rfl) (fun _ _ _ h => h) (Or.inl ⟨by kernel_rfl, fun w hSw => ?_⟩) (by assumption) ?_
  · (try dsimp only at hSw); go_simp <;> (try rfl)
  change wpAnyH _ _ _ _ _ _ _ (Act.put _ (some (47 : Nat)) (.bool true)) _
  simp only [Act.put, List.setIfInBounds_toArray, List.set_cons_zero, List.set_cons_succ]
  refine wpAnyH_take (i := 14) (v := (.slice A n c)) rfl (by kernel_rfl) (by kernel_rfl) (by kernel_rfl) (fun _ _ _ h => h) (Or.inl ⟨by kernel_rfl, fun w hSw => ?_⟩) (by assumption) ?_
  · (try dsimp only at hSw); go_simp <;> (try rfl)
  change wpAnyH _ _ _ _ _ _ _ (Act.put _ (some (48 : Nat)) (.slice A n c)) _
  simp only [Act.put, List.setIfInBounds_toArray, List.set_cons_zero, List.set_cons_succ]
  refine wpAnyH_take (i := 15) (v := (.slice A' n' c')) rfl (by kernel_rfl) (by kernel_rfl) (by kernel_rfl) (fun _ _ _ h => h) (Or.inl ⟨by kernel_rfl, fun w hSw => ?_⟩) (by assumption) ?_
  · (try dsimp only at hSw); go_simp <;> (try rfl)
  change wpAnyH _ _ _ _ _ _ _ (Act.put _ (some (49 : Nat)) (.slice A' n' c')) _
  simp only [Act.put, List.setIfInBounds_toArray, List.set_cons_zero, List.set_cons_succ]
  refine wpAnyH_take (i := 16) (v := (.agg tq.toArray)) rfl (by kernel_rfl) (by kernel_rfl) (by kernel_rfl) (fun _ _ _ h => h) (yields_load_at (by kernel_rfl) 28 (.tmp 7) rfl (.pointer (some ⟨w.heap.size, 0, none⟩)) (by simp [Act.eval]) (.agg tq.toArray) (fun W hW => hW.1.2.2.loadAt 28 _ Tryd.underlying28 rfl (by rw [HTl.out]; kernel_rfl))) (by assumption) ?_
  change wpAnyH _ _ _ _ _ _ _ (Act.put _ (some (50 : Nat)) (.agg tq.toArray)) _
  simp only [Act.put, List.setIfInBounds_toArray, List.set_cons_zero, List.set_cons_succ]
  refine wpAnyH_take (i := 18) (v := (.agg tq.toArray)) rfl (by kernel_rfl) (by kernel_rfl) (by kernel_rfl) (fun _ _ _ h => h) (yields_load_at (by kernel_rfl) 28 (.tmp 7) rfl (.pointer (some ⟨w.heap.size, 0, none⟩)) (by simp [Act.eval]) (.agg tq.toArray) (fun W hW => hW.1.2.2.loadAt 28 _ Tryd.underlying28 rfl (by rw [HTl.out]; kernel_rfl))) (by assumption) ?_
  change wpAnyH _ _ _ _ _ _ _ (Act.put _ (some (52 : Nat)) (.agg tq.toArray)) _
  simp only [Act.put, List.setIfInBounds_toArray, List.set_cons_zero, List.set_cons_succ]
  refine wpAnyH_take (i := 19) (v := (.agg r.toArray)) rfl (by kernel_rfl) (by kernel_rfl) (by kernel_rfl) (fun _ _ _ h => h) (yields_load_at (by kernel_rfl) 28 (.tmp 11) rfl (.pointer (some ⟨g11, 0, none⟩)) (by simp [Act.eval]) (.agg r.toArray) (fun W hW => hW.1.1.loadAt 28 _ Tryd.underlying28 rfl (by rw [HRl.out]; kernel_rfl))) (by assumption) ?_
  change wpAnyH _ _ _ _ _ _ _ (Act.put _ (some (53 : Nat)) (.agg r.toArray)) _
  simp only [Act.put, List.setIfInBounds_toArray, List.set_cons_zero, List.set_cons_succ]
  refine wpAnyH_take (i := 20) (v := (.bool b3)) rfl (by kernel_rfl) (by kernel_rfl) (by kernel_rfl) (fun _ _ _ h => h) (Or.inl ⟨by kernel_rfl, fun w hSw => ?_⟩) (by assumption) ?_
  · (try dsimp only at hSw); go_simp <;> (try rfl)
  change wpAnyH _ _ _ _ _ _ _ (Act.put _ (some (54 : Nat)) (.bool b3)) _
  simp only [Act.put, List.setIfInBounds_toArray, List.set_cons_zero, List.set_cons_succ]
  refine wpAnyH_ready (rs := [17]) (by kernel_rfl) (by simp) ?_
  refine AllReadyH.cons rfl (fun K hK => ?_) AllReadyH.nil
  go_simp
  refine (HC3.out _ HKwb.out HYwb.out (HT.out.through HXwb.out)).mono ?_
  rintro e wc ⟨rfl, hb⟩; have HOwc := Lib.hid (HOwb.out.through hb); have HEwc := Lib.hid (HEwb.out.through hb); have HGwc := Lib.hid (HGwb.out.through hb); have HKwc := Lib.hid (HKwb.out.through hb); have HYwc := Lib.hid (HYwb.out.through hb); have HXwc := Lib.hid (HXwb.out.trans (hb.mono HXwb.out.size)); clear hb
  go_wp2_with fail
  refine hK.out _ _ ⟨⟨HOwc.out, HEwc.out, HGwc.out⟩, HKwc.out, HYwc.out, HXwc.out⟩ (fun hHeld1 => ?_)
  clear hHeld hK K
  have hHeld := hHeld1
  clear hHeld1
  refine wpAnyH_take (i := 21) (v := (.bool true)) rfl (by kernel_rfl) (by kernel_rfl) (by kernel_rfl) (fun _ _ _ h => h) (Or.inl ⟨by kernel_rfl, fun w hSw => ?_⟩) (by assumption) ?_
  · (try dsimp only at hSw); go_simp <;> (try rfl)
  change wpAnyH _ _ _ _ _ _ _ (Act.put _ (some (55 : Nat)) (.bool true)) _
  simp only [Act.put, List.setIfInBounds_toArray, List.set_cons_zero, List.set_cons_succ]
  refine wpAnyH_take (i := 22) (v := (.bool true)) rfl (by kernel_rfl) (by kernel_rfl) (by kernel_rfl) (fun _ _ _ h => h) (Or.inl ⟨by kernel_rfl, fun w hSw => ?_⟩) (by assumption) ?_
  · (try dsimp only at hSw); go_simp <;> (try rfl)
  change wpAnyH _ _ _ _ _ _ _ (Act.put _ (some (56 : Nat)) (.bool true)) _
  simp only [Act.put, List.setIfInBounds_toArray, List.set_cons_zero, List.set_cons_succ]
  refine wpAnyH_take (i := 23) (v := (.bool true)) rfl (by kernel_rfl) (by kernel_rfl) (by kernel_rfl) (fun _ _ _ h => h) (Or.inl ⟨by kernel_rfl, fun w hSw => ?_⟩) (by assumption) ?_
  · (try dsimp only at hSw); go_simp <;> (try rfl)
  change wpAnyH _ _ _ _ _ _ _ (Act.put _ (some (57 : Nat)) (.bool true)) _
  simp only [Act.put, List.setIfInBounds_toArray, List.set_cons_zero, List.set_cons_succ]
  refine wpAnyH_take (i := 24) (v := (.slice A n c)) rfl (by kernel_rfl) (by kernel_rfl) (by kernel_rfl) (fun _ _ _ h => h) (Or.inl ⟨by kernel_rfl, fun w hSw => ?_⟩) (by assumption) ?_
  · (try dsimp only at hSw); go_simp <;> (try rfl)
  change wpAnyH _ _ _ _ _ _ _ (Act.put _ (some (58 : Nat)) (.slice A n c)) _
  simp only [Act.put, List.setIfInBounds_toArray, List.set_cons_zero, List.set_cons_succ]
  refine wpAnyH_take (i := 25) (v := (.slice A' n' c')) rfl (by kernel_rfl) (by kernel_rfl) (by kernel_rfl) (fun _ _ _ h => h) (Or.inl ⟨by kernel_rfl, fun w hSw => ?_⟩) (by assumption) ?_
  · (try dsimp only at hSw); go_simp <;> (try rfl)
  change wpAnyH _ _ _ _ _ _ _ (Act.put _ (some (59 : Nat)) (.slice A' n' c')) _
  simp only [Act.put, List.setIfInBounds_toArray, List.set_cons_zero, List.set_cons_succ]
  refine wpAnyH_take (i := 27) (v := (.slice A n c)) rfl (by kernel_rfl) (by kernel_rfl) (by kernel_rfl) (fun _ _ _ h => h) (Or.inl ⟨by kernel_rfl, fun w hSw => ?_⟩) (by assumption) ?_
  · (try dsimp only at hSw); go_simp <;> (try rfl)
  change wpAnyH _ _ _ _ _ _ _ (Act.put _ (some (61 : Nat)) (.slice A n c)) _
  simp only [Act.put, List.setIfInBounds_toArray, List.set_cons_zero, List.set_cons_succ]
  refine wpAnyH_take (i := 28) (v := (.string ks)) rfl (by kernel_rfl) (by kernel_rfl) (by kernel_rfl) (fun _ _ _ h => h) (yields_conv (by kernel_rfl) 22 9 (.tmp 61) rfl (.slice A n c) (by simp [Act.eval]) (.string ks) (fun W hW => HStr.out W hW.2.1)) (by assumption) ?_
  change wpAnyH _ _ _ _ _ _ _ (Act.put _ (some (62 : Nat)) (.string ks)) _
  simp only [Act.put, List.setIfInBounds_toArray, List.set_cons_zero, List.set_cons_succ]
  refine wpAnyH_take (i := 29) (v := (.slice A' n' c')) rfl (by kernel_rfl) (by kernel_rfl) (by kernel_rfl) (fun _ _ _ h => h) (Or.inl ⟨by kernel_rfl, fun w hSw => ?_⟩) (by assumption) ?_
  · (try dsimp only at hSw); go_simp <;> (try rfl)
  change wpAnyH _ _ _ _ _ _ _ (Act.put _ (some (63 : Nat)) (.slice A' n' c')) _
  simp only [Act.put, List.setIfInBounds_toArray, List.set_cons_zero, List.set_cons_succ]
  refine wpAnyH_take (i := 30) (v := (.string ts)) rfl (by kernel_rfl) (by kernel_rfl) (by kernel_rfl) (fun _ _ _ h => h) (yields_conv (by kernel_rfl) 22 9 (.tmp 63) rfl (.slice A' n' c') (by simp [Act.eval]) (.string ts) (fun W hW => HStr'.out W hW.2.2.1)) (by assumption) ?_
  change wpAnyH _ _ _ _ _ _ _ (Act.put _ (some (64 : Nat)) (.string ts)) _
  simp only [Act.put, List.setIfInBounds_toArray, List.set_cons_zero, List.set_cons_succ]
  refine wpAnyH_take (i := 31) (v := (.bool b4)) rfl (by kernel_rfl) (by kernel_rfl) (by kernel_rfl) (fun _ _ _ h => h) (Or.inl ⟨by kernel_rfl, fun w hSw => ?_⟩) (by assumption) ?_
  · (try dsimp only at hSw); go_simp <;> (try rfl)
  change wpAnyH _ _ _ _ _ _ _ (Act.put _ (some (65 : Nat)) (.bool b4)) _
  simp only [Act.put, List.setIfInBounds_toArray, List.set_cons_zero, List.set_cons_succ]
  refine wpAnyH_ready (rs := [26]) (by kernel_rfl) (by simp) ?_
  refine AllReadyH.cons rfl (fun K hK => ?_) AllReadyH.nil
  go_simp
  refine (HC4.out _ HKwc.out HYwc.out).mono ?_
  rintro e wd ⟨rfl, hb⟩; have HOwd := Lib.hid (HOwc.out.through hb); have HEwd := Lib.hid (HEwc.out.through hb); have HGwd := Lib.hid (HGwc.out.through hb); have HKwd := Lib.hid (HKwc.out.through hb); have HYwd := Lib.hid (HYwc.out.through hb); have HXwd := Lib.hid (HXwc.out.trans (hb.mono HXwc.out.size)); clear hb
  go_wp2_with fail
  refine hK.out _ _ ⟨⟨HOwd.out, HEwd.out, HGwd.out⟩, HKwd.out, HYwd.out, HXwd.out⟩ (fun hHeld1 => ?_)
  clear hHeld hK K
  have hHeld := hHeld1
  clear hHeld1
  refine wpAnyH_take (i := 32) (v := (.bool true)) rfl (by kernel_rfl) (by kernel_rfl) (by kernel_rfl) (fun _ _ _ h => h) (Or.inl ⟨by kernel_rfl, fun w hSw => ?_⟩) (by assumption) ?_
  · (try dsimp only at hSw); go_simp <;> (try rfl)
  change wpAnyH _ _ _ _ _ _ _ (Act.put _ (some (66 : Nat)) (.bool true)) _
  simp only [Act.put, List.setIfInBounds_toArray, List.set_cons_zero, List.set_cons_succ]
  refine wpAnyH_take (i := 33) (v := (.bool true)) rfl (by kernel_rfl) (by kernel_rfl) (by kernel_rfl) (fun _ _ _ h => h) (Or.inl ⟨by kernel_rfl, fun w hSw => ?_⟩) (by assumption) ?_
  · (try dsimp only at hSw); go_simp <;> (try rfl)
  change wpAnyH _ _ _ _ _ _ _ (Act.put _ (some (67 : Nat)) (.bool true)) _
  simp only [Act.put, List.setIfInBounds_toArray, List.set_cons_zero, List.set_cons_succ]
  refine wpAnyH_take (i := 34) (v := (.bool true)) rfl (by kernel_rfl) (by kernel_rfl) (by kernel_rfl) (fun _ _ _ h => h) (Or.inl ⟨by kernel_rfl, fun w hSw => ?_⟩) (by assumption) ?_
  · (try dsimp only at hSw); go_simp <;> (try rfl)
  change wpAnyH _ _ _ _ _ _ _ (Act.put _ (some (10 : Nat)) (.bool true)) _
  simp only [Act.put, List.setIfInBounds_toArray, List.set_cons_zero, List.set_cons_succ]
  refine wpAnyH_done (by kernel_rfl) ?_ _
  go_wp2
  go_ret
  exact ⟨rfl, HXwd.out⟩

end Go.Proofs.YtolildehdibpbaaDoor
