/-
  The table's digests; batches digested by a table.
-/
import Derived.Test.YtgbobemhogeeeaaDoorDH
import Derived.Test.YtgbobemhogeeeaaDoorLB
import Derived.RegionTactic
import Derived.ChangeAlike
import Derived.StillTailTactics
import Derived.Deep.QuietTactic
import Derived.Outline
import Derived.Recover
namespace Go.Proofs.YtgbobemhogeeeaaDoor
open Go.RowKit

theorem ofNat_mod (v w : Nat) (h : v % 256 = w % 256) : UInt8.ofNat v = UInt8.ofNat w := by
  apply UInt8.toNat_inj.1
  rw [UInt8.toNat_ofNat', UInt8.toNat_ofNat']
  omega
theorem beB_mod1 (v w : Nat) (h : v % 256 = w % 256) : beB v 1 = beB w 1 := by
  simp only [beB, List.nil_append]
  rw [ofNat_mod v w h]
def digK (k : Int) (t : List UInt8) : List UInt8 := sha (beB (k % 256).toNat 1 ++ t)

set_option maxHeartbeats 2000000 in
set_option maxRecDepth 100000 in
theorem digest_any (Q : Nat → Prop) (p : Value) (k : Int) (text : List UInt8) (A : Option Addr) (n c : Nat) (w : World) (hby : By w Q A n text) (ht : Tab w) (hn : n ≤ 1000000) :
    Calls Tryd.prog 11 #[p, .int .i64 k, .slice A n c] w fun e w' => e = .returned (.agg (vs (digK k text)).toArray) ∧ Below w.heap.size w w' := by
  obtain ⟨i0, hi, hz0, hz1, hz2⟩ := info_parts Tryd.info_u8
  have HBy := Lib.hid hby
  have HT := Lib.hid ht
  have hwa : IntKind.u64.wrap k = k % 18446744073709551616 := IntKind.wrap_u64 k
  obtain ⟨r, hr⟩ : ∃ r, r = vs (digK k text) := ⟨_, rfl⟩
  have hrl : r.length = 32 := by rw [hr, vs_length]; exact sha_length _
  have hro : r.toArray.all (·.oneCell') = true := by rw [hr]; exact one_u8
  have hput : ∀ W, Calls Tryd.prog 21 #[.slice none 0 0, .int .u64 (k % 18446744073709551616), .int .i64 1] W fun e w' => ∃ A' c', e = .returned (.slice A' 1 c') ∧ w'.ownsRow W.heap.size 5 1 (.slice A' 1 c') 1 (vs (beB (k % 256).toNat 1)) ∧ Below W.heap.size W w' := fun W => by
    refine (put_any (fun _ => True) none 0 0 [] _ 1 (by omega) (by omega) W By.none_ (by omega) (by omega)).mono ?_
    rintro e w' ⟨v, rfl, ho, hb⟩
    have e1 : putN 0 1 = 1 := rfl
    have e2 : putB [] (k % 18446744073709551616).toNat 1 = beB (k % 256).toNat 1 := by
      show [] ++ beB _ 1 = _
      rw [List.nil_append]
      exact beB_mod1 _ _ (by omega)
    rw [e1, e2] at ho
    obtain ⟨A', c', rfl, _⟩ := own_form ho
    exact ⟨A', c', rfl, ho, hb⟩
  have hsum : ∀ W A' c', By W (fun _ => True) A' (1 + n) (beB (k % 256).toNat 1 ++ text) → 1 + n ≤ c' → c' ≤ maxLen → Tab W → Calls Tryd.prog 20 #[.slice A' (1 + n) c'] W fun e w' => e = .returned (.agg r.toArray) ∧ Below W.heap.size W w' := fun W A' c' h1 h2 h3 h4 => by
    rw [hr]; exact sumb_any _ _ A' _ c' W h1 h2 h3 h4 (by omega)
  have HPut := Lib.hid hput
  have HSum := Lib.hid hsum
  have HRl := Lib.hid hrl
  have HRo := Lib.hid hro
  rw [← hr]
  clear hby ht hr hrl hro hput hsum
  go_enter Tryd.func11, Tryd.ntmps11
  go_wp2_with (first
    | (go_at_call 21; (with_reducible refine (HPut.out _).mono ?_); rintro e w1 ⟨A1, c1, rfl, ho1, hb1⟩; have HX1 : Hid (Below w.heap.size w w1) := Lib.hid (((Below.refl _ w).alloc (Nat.le_refl _) _).trans (hb1.mono (by simp))); have HB1 : Hid (Blk w1 w.heap.size 30 (vs zero32)) := Lib.hid ((Blk.fresh rfl (by kernel_rfl)).through hb1); have HO1 : Hid (w1.ownsRow (w.heap.size + 1) 5 1 (.slice A1 1 c1) 1 (vs (beB (k % 256).toNat 1))) := Lib.hid (own_weak ho1 (by simp)); clear ho1 hb1)
    | (at_builtin; refine wpList_append_by _ rfl (.tmp 9) (.tmp 10) 34 rfl (w.heap.size + 1) i0 Tryd.underlying34 hi hz0 hz1 hz2 (.slice A1 1 c1) 1 (vs (beB (k % 256).toNat 1)) rfl HO1.out Q A n c text rfl (HBy.out.through HX1.out) (by omega) HB1.out.lt ?_; intro v2 w2 hown2 hgrow2 _; have HX2 := Lib.hid (HX1.out.grown hgrow2 HX1.out.size (fun g hg => Nat.le_of_succ_le (HO1.out.lt g hg).1)); have HB2 := Lib.hid (HB1.out.grown hgrow2 (fun e => absurd (HO1.out.lt _ e.symm).1 (Nat.not_succ_le_self _))); rw [vs_append] at hown2; obtain ⟨A2, c2, rfl, hc2, hm2, _⟩ := own_form hown2; have HY2 := Lib.hid ((By.of_own hown2).weak (Q' := fun _ => True) fun _ _ => trivial); clear hown2 hgrow2)
    | (go_at_call 20; (with_reducible refine (HSum.out _ A2 c2 HY2.out hc2 hm2 (HT.out.through HX2.out)).mono ?_); rintro e w3 ⟨rfl, hb3⟩; have HX3 := Lib.hid (HX2.out.trans (hb3.mono HX2.out.size)); have HB3 := Lib.hid (HB2.out.through hb3); clear hb3)
    | (refine wpList_store_row rfl 30 (.tmp 6) (.tmp 12) rfl w.heap.size r.toArray rfl rfl 30 (vs zero32).toArray HB3.out (by rw [List.size_toArray, HRl.out]; kernel_rfl) (by rw [List.size_toArray, List.size_toArray, HRl.out]; rfl) HRo.out ?_))
  refine bodyPost_ret (v := .agg r.toArray) (results_cell_row rfl _ _ w.heap.size 30 _ (0, 0) _ rfl (HB3.out.row _) Tryd.underlying30 rfl ?r1) rfl ⟨rfl, below_row HX3.out _ (Nat.le_refl _) _⟩
  rw [List.size_toArray, HRl.out]; kernel_rfl


theorem knew_nil (w : World) : Calls Tryd.prog 7 #[.slice none 0 0] w fun e w' => ∃ g : Nat, e = .returned (.pointer (some ⟨g, 0, none⟩)) ∧ Below w.heap.size w w' := by
  have hclone : ∀ W, Calls Tryd.prog 17 #[.slice none 0 0] W fun e w' => ∃ A' n' c', e = .returned (.slice A' n' c') ∧ Below W.heap.size W w' := fun W => by
    refine (clone_any (fun _ => True) none 0 0 [] W By.none_ (by omega)).mono ?_
    rintro e w' ⟨v, rfl, ho, hb⟩
    obtain ⟨A', c', rfl, _⟩ := own_form ho
    exact ⟨A', _, c', rfl, hb⟩
  have HCl := Lib.hid hclone
  clear hclone
  go_enter Tryd.func7, Tryd.ntmps7
  go_wp2_with (first
    | (go_at_call 17; (with_reducible refine (HCl.out _).mono ?_); rintro e w1 ⟨A1, n1, c1, rfl, hb1⟩; have HX1 := Lib.hid hb1; clear hb1))
  go_ret
  exact ⟨w1.heap.size, rfl, HX1.out.alloc HX1.out.size _⟩

set_option maxHeartbeats 8000000 in
set_option maxRecDepth 100000 in
theorem digest_table (g : Nat) (es : List Ey) (A : Option Addr) (k c : Nat) (w : World) (ht : Tab w) (hI : EysIn w A k es) (hk : k ≤ 1000000) (hl : ∀ y ∈ es, y.co.lt.length ≤ 1000000 ∧ y.co.tx.length ≤ 1000000) (hL : (encB es).length ≤ 1000000) :
    Calls Tryd.prog 8 #[(.iface 27 (.pointer (some ⟨g, 0, none⟩))), .slice A k c] w fun e w' => e = .returned (.agg (vs (digK 101 (encB es))).toArray) ∧ Below w.heap.size w w' := by
  have hmf : ∀ (fn : Fn) (first cap : Array Value) (w : World), (Instr.makeFunc fn first cap).run Tryd.prog w = .ok (.func fn first cap) w := fun _ _ _ _ => rfl
  obtain ⟨r1, hr1⟩ : ∃ r1, r1 = vs zero32 := ⟨_, rfl⟩
  have hz : ∀ W, (zeroValue 30).run Tryd.prog W = .ok (.agg r1.toArray) W := fun W => by rw [hr1]; exact Tryd.zero_dig W
  have HR1l : Hid (r1.length = 32) := Lib.hid (by rw [hr1]; rfl)
  obtain ⟨r2, hr2⟩ : ∃ r2, r2 = vs (digK 101 (encB es)) := ⟨_, rfl⟩
  have HR2l : Hid (r2.length = 32) := Lib.hid (by rw [hr2, vs_length]; exact sha_length _)
  have HR2o : Hid (r2.toArray.all (·.oneCell') = true) := Lib.hid (by rw [hr2]; exact one_u8)
  rw [← hr2]
  have HBy : Hid (∀ W : World, Below (w.alloc (.cells r1.toArray 30)).heap.size (w.alloc (.cells r1.toArray 30)) W → Calls Tryd.prog 15 #[.slice A k c] W (Byt W (encB es))) := Lib.hid (fun W hW => bytesB_any es A k c W ((hI.alloc _).through hW) hk hl (by omega))
  have HDg : Hid (∀ (W : World) (B : Option Addr) (n d : Nat), Tab W → By W (fun _ => True) B n (encB es) → Calls Tryd.prog 11 #[.pointer (some ⟨g, 0, none⟩), .int .i64 101, .slice B n d] W fun e w' => e = .returned (.agg r2.toArray) ∧ Below W.heap.size W w') := Lib.hid (fun W B n d hT hY => by
    rw [hr2]
    exact digest_any (fun _ => True) _ 101 (encB es) B n d W hY hT (by rw [← hY.len]; exact hL))
  have HA0 : Hid (Blk (w.alloc (.cells r1.toArray 30)) w.heap.size 30 r1) := Lib.hid (Blk.fresh rfl rfl)
  have HX0 : Hid (Below w.heap.size w (w.alloc (.cells r1.toArray 30))) := Lib.hid ((Below.refl _ w).alloc (Nat.le_refl _) _)
  have HT0 : Hid (Tab (w.alloc (.cells r1.toArray 30))) := Lib.hid (ht.through HX0.out)
  clear ht hI hl hL hr1 hr2
  go_enter_defers Tryd.func8, Tryd.ntmps8
  go_upto_region 4 with fail
  have HBy1 := Lib.hid (HBy.out _ (Below.refl _ _).drew)
  generalize hw1 : w.alloc (.cells r1.toArray 30) = w1 at *
  clear hw1
  have HA1 := Lib.hid HA0.out.drew
  have HX1 := Lib.hid HX0.out.drew
  have HT1 := Lib.hid (HT0.out.through (Below.refl _ _).drew)
  refine wp_region_held_drew (S := fun _ => True) (by kernel_rfl) trivial (fun hHeld => ?_)
  change wpAnyH _ _ _ _ _ _ #[false, false, false, false, false, false, false] _ _
  refine wpAnyH_take (i := 0) (v := (.iface 27 (.pointer (some ⟨g, 0, none⟩)))) rfl (by kernel_rfl) (by kernel_rfl) (by kernel_rfl) (fun _ _ _ h => dig_panic (d := 9) (by decide) h) (Or.inl ⟨by kernel_rfl, fun w hSw => ?_⟩) (by assumption) ?_
  · (try dsimp only at hSw); go_simp <;> (try rfl)
  change wpAnyH _ _ _ _ _ _ _ (Act.put _ (some (9 : Nat)) (.iface 27 (.pointer (some ⟨g, 0, none⟩)))) _
  simp only [Act.put, List.setIfInBounds_toArray, List.set_cons_zero, List.set_cons_succ]
  refine wpAnyH_take (i := 1) (v := (.slice A k c)) rfl (by kernel_rfl) (by kernel_rfl) (by kernel_rfl) (fun _ _ _ h => dig_panic (d := 10) (by decide) h) (Or.inl ⟨by kernel_rfl, fun w hSw => ?_⟩) (by assumption) ?_
  · (try dsimp only at hSw); go_simp <;> (try rfl)
  change wpAnyH _ _ _ _ _ _ _ (Act.put _ (some (10 : Nat)) (.slice A k c)) _
  simp only [Act.put, List.setIfInBounds_toArray, List.set_cons_zero, List.set_cons_succ]
  refine wpAnyH_take (i := 3) (v := (.iface 27 (.pointer (some ⟨g, 0, none⟩)))) rfl (by kernel_rfl) (by kernel_rfl) (by kernel_rfl) (fun _ _ _ h => dig_panic (d := 12) (by decide) h) (Or.inl ⟨by kernel_rfl, fun w hSw => ?_⟩) (by assumption) ?_
  · (try dsimp only at hSw); go_simp <;> (try rfl)
  change wpAnyH _ _ _ _ _ _ _ (Act.put _ (some (12 : Nat)) (.iface 27 (.pointer (some ⟨g, 0, none⟩)))) _
  simp only [Act.put, List.setIfInBounds_toArray, List.set_cons_zero, List.set_cons_succ]
  refine wpAnyH_take (i := 4) (v := (.iface 27 (.pointer (some ⟨g, 0, none⟩)))) rfl (by kernel_rfl) (by kernel_rfl) (by kernel_rfl) (fun _ _ _ h => dig_panic (d := 13) (by decide) h) (Or.inl ⟨by kernel_rfl, fun w hSw => ?_⟩) (by assumption) ?_
  · (try dsimp only at hSw); go_simp <;> (try rfl)
  change wpAnyH _ _ _ _ _ _ _ (Act.put _ (some (13 : Nat)) (.iface 27 (.pointer (some ⟨g, 0, none⟩)))) _
  simp only [Act.put, List.setIfInBounds_toArray, List.set_cons_zero, List.set_cons_succ]
  refine wpAnyH_ready (rs := [2]) (by kernel_rfl) (by simp) ?_
  refine AllReadyH.cons rfl (fun K hK => ?_) AllReadyH.nil
  go_simp
  refine (HBy1.out).mono ?_
  rintro e w2 ⟨A2, n2, d2, rfl, hy2, hn2, hm2, hb2⟩; have HY2 := Lib.hid hy2; have HK2 := Lib.hid hb2; have HN2 := Lib.hid (And.intro hn2 hm2); clear hy2 hb2 hn2 hm2
  go_wp2_with fail
  refine hK.out _ _ trivial (fun hHeld1 => ?_)
  clear hHeld hK K
  have hHeld := hHeld1
  clear hHeld1
  refine wpAnyH_ready (rs := [5]) (by kernel_rfl) (by simp) ?_
  refine AllReadyH.cons rfl (fun K hK => ?_) AllReadyH.nil
  go_simp
  refine (HDg.out _ A2 n2 d2 (HT1.out.through HK2.out) HY2.out).mono ?_
  rintro e w3 ⟨rfl, hb3⟩; have HA3 := Lib.hid ((HA1.out.through HK2.out).through hb3); have HX3 := Lib.hid (below_step (below_step HX1.out HK2.out) hb3); clear hb3
  go_wp2_with fail
  refine hK.out _ _ trivial (fun hHeld1 => ?_)
  clear hHeld hK K
  have hHeld := hHeld1
  clear hHeld1
  refine wpAnyH_ready (rs := [6]) (by kernel_rfl) (by simp) ?_
  refine AllReadyH.cons (o := ⟨none, .store 30 (.tmp 4) (.tmp 14), _, _, _, none⟩) rfl (fun K hK => ?_) AllReadyH.nil
  refine step_store_blk rfl 30 (.tmp 4) (.tmp 14) rfl w.heap.size r2 (by simp [Act.eval]) (by simp [Act.eval]) 30 r1 HA3.out (by rw [HR2l.out]; kernel_rfl) (by rw [HR1l.out, HR2l.out]) HR2o.out ?_; intro w4 hb4 hg4; have HA4 := Lib.hid hb4; have HX4 : Hid (Below w.heap.size w w4) := Lib.hid (HX3.out.grown hg4 HX3.out.size (fun k hk => by have := Option.some.inj hk; omega)); clear hb4 hg4
  refine hK.out _ _ trivial (fun hHeld1 => ?_)
  clear hHeld hK K
  have hHeld := hHeld1
  clear hHeld1
  change wpAnyH _ _ _ _ _ _ _ (Act.put _ none undef) _
  simp only [Act.put]
  refine wpAnyH_done (by kernel_rfl) ?_ _
  go_wp2
  refine leaves_cons (f := 18) (args := #[.pointer (some ⟨w.heap.size, 0, none⟩)]) (by simp) (by simp [go_sem]) ?_
  refine (dig1_idle _ _).mono ?_
  rintro e u' w'' ⟨rfl, rfl, rfl⟩
  refine ⟨_, results_cell_row rfl _ _ w.heap.size 30 _ (0, 0) _ rfl HA4.out Tryd.underlying30 rfl ?r1, rfl, HX4.out⟩
  rw [List.size_toArray, HR2l.out]; kernel_rfl

end Go.Proofs.YtgbobemhogeeeaaDoor
