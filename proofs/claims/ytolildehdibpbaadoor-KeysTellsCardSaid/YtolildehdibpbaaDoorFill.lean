/-
  The program's fill: a key as long as a block.
-/
import Derived.Test.YtolildehdibpbaaDoorMacW
import Derived.Test.YtolildehdibpbaaDoorFix2
import Derived.Outline
namespace Go.Proofs.YtolildehdibpbaaDoor
open Go.RowKit

theorem fill_1 {w w1 : World} (hb1 : Below ((w.alloc (.cells (vs zero64).toArray 58)).alloc (.cells (vs zero64).toArray 58)).heap.size ((w.alloc (.cells (vs zero64).toArray 58)).alloc (.cells (vs zero64).toArray 58)) w1) :
    Blk w1 w.heap.size 58 (vs zero64) ∧ Blk w1 (w.heap.size + 1) 58 (vs zero64) ∧ w.heap.size + 2 ≤ w1.heap.size ∧ Below w.heap.size w w1 := by
  have hs := hb1.size
  simp at hs
  refine ⟨((Blk.fresh rfl rfl).alloc _).through hb1, (Blk.fresh (by simp) rfl).through hb1, by omega, (((Below.refl _ w).alloc (Nat.le_refl _) _).alloc (by simp) _).trans (hb1.mono ?_)⟩
  simp only [World.size_alloc] at *
  omega

set_option maxHeartbeats 2000000 in
set_option maxRecDepth 100000 in
theorem fill_any (Q : Nat → Prop) (xs : List UInt8) (A : Option Addr) (n c : Nat) (w : World) (hby : By w Q A n xs) (hnc : n ≤ c) (hcm : c ≤ maxLen) (ht : Tab w) (hlen : n ≤ 549755813888) :
    Calls Tryd.prog 32 #[.slice A n c] w fun e w' => e = .returned (.agg (vs (key64 xs)).toArray) ∧ Below w.heap.size w w' := by
  have hl := hby.len
  have HBy := Lib.hid hby
  have HT := Lib.hid ht
  obtain ⟨r, hr⟩ : ∃ r, r = vs (key64 xs) := ⟨_, rfl⟩
  have hrl : r.length = 64 := by rw [hr, vs_length, key64_length]
  have hone : r.toArray.all (·.oneCell') = true := by rw [hr]; exact one_u8
  have HRl := Lib.hid hrl
  have HO := Lib.hid hone
  by_cases h64 : 64 < n
  · have hsp : splice (vs zero64) 0 (vs (sha xs)) = r := by
      rw [splice_key, hr, key64]
      simp [short, hl, h64]
    obtain ⟨q, hq⟩ : ∃ q, q = vs (sha xs) := ⟨_, rfl⟩
    have hql : q.length = 32 := by rw [hq, vs_length, sha_length]
    have hqone : q.toArray.all (·.oneCell') = true := by rw [hq]; exact one_u8
    have hsum : ∀ W, By W Q A n xs → Tab W → Calls Tryd.prog 10 #[.slice A n c] W fun e w' => e = .returned (.agg q.toArray) ∧ Below W.heap.size W w' := fun W h1 h2 => by
      rw [hq]; exact sumb_any Q xs A n c W h1 hnc hcm h2 hlen
    have HSum := Lib.hid hsum
    have HQl := Lib.hid hql
    have HQo := Lib.hid hqone
    have HQ := Lib.hid hq
    rw [← hr]
    clear hby ht hr hrl hone hq hql hqone hsum
    go_enter Tryd.func32, Tryd.ntmps32
    have HSp := Lib.hid hsp
    clear hsp
    go_wp2_with (first
      | (go_at_call 10; refine (HSum.out _ ((HBy.out.alloc _).alloc _) (HT.out.through (((Below.refl _ w).alloc (Nat.le_refl _) _).alloc (by simp) _))).mono ?_; rintro e w1 ⟨rfl, hb1⟩; have hu := fill_1 hb1; have HX1 := Lib.hid hu.2.2.2; have HZ2 := Lib.hid hu.1; have HZ3 := Lib.hid hu.2.1; have h1s := hu.2.2.1; clear hu hb1)
      | (refine wpList_store_blk rfl 25 (.tmp 4) (.tmp 9) rfl w1.heap.size q rfl rfl 25 (vs zero32) (Blk.fresh rfl (by kernel_rfl)) (by rw [HQl.out]; kernel_rfl) (by rw [HQl.out]; rfl) HQo.out ?_; intro w2 hb2 ho2; have HX2 := Lib.hid ((HX1.out.alloc HX1.out.size _).grown ho2 (Nat.le_trans HX1.out.size (by simp)) (fun g hg => Option.some.inj hg ▸ HX1.out.size)); have HY2 := Lib.hid ((HZ2.out.alloc _).grown ho2 (by simp <;> omega)); have HY3 := Lib.hid ((HZ3.out.alloc _).grown ho2 (by simp <;> omega)); have HQb : Hid (By w2 (fun _ => True) (some ⟨w1.heap.size, 0, none⟩) 32 (sha xs)) := Lib.hid (by rw [HQ.out] at hb2; exact By.of_blk_n hb2 (sha_length xs) trivial); clear hb2 ho2)
      | (refine wpList_copy_splice rfl (.tmp 11) (.tmp 12) 22 22 rfl 5 Tryd.underlying22 (by kernel_rfl) _ (some ⟨w1.heap.size, 0, none⟩) 64 64 32 32 rfl rfl (w.heap.size + 1) 0 (vs zero64) 58 HY3.out (vs (sha xs)) (by rw [vs_length, sha_length]; decide) (fun hpos => ⟨rfl, HQb.out.srcAll hpos⟩) (by rw [vs_length, sha_length]; decide) vs_one (w.heap.size + 1) w2 (Below.refl _ _) (Nat.le_refl _) ?_; intro w3 hg3 hb3; have HB3' : Hid (Blk w3 (w.heap.size + 1) 58 r) := Lib.hid (by rw [← HSp.out]; exact hg3.out); have HB2' : Hid (Blk w3 w.heap.size 58 (vs zero64)) := Lib.hid ((HY2.out).below hb3 (Nat.lt_succ_self _)); have HX3 := Lib.hid ((HX2.out).trans (hb3.mono (Nat.le_succ _))); clear hg3 hb3)
      | (refine wpList_load_blk rfl 58 (.tmp 3) rfl (w.heap.size + 1) rfl 58 r _ HB3'.out Tryd.underlying58 rfl (by rw [HRl.out]; kernel_rfl) ?_)
      | (refine wpList_store_row rfl 58 (.tmp 2) (.tmp 14) rfl w.heap.size r.toArray rfl rfl 58 (vs zero64).toArray HB2'.out (by rw [List.size_toArray, HRl.out]; kernel_rfl) (by rw [List.size_toArray, List.size_toArray, HRl.out]; rfl) HO.out ?_))
    refine bodyPost_ret (v := .agg r.toArray) (results_cell_row rfl _ _ w.heap.size 58 _ (0, 0) _ rfl (HB2'.out.row _) Tryd.underlying58 rfl ?r1) rfl ⟨rfl, below_row HX3.out _ (Nat.le_refl _) _⟩
    rw [List.size_toArray, HRl.out]; kernel_rfl
  · have hsp : splice (vs zero64) 0 (vs xs) = r := by
      rw [splice_key, hr, key64]
      simp [short, hl, h64]
    have HSp := Lib.hid hsp
    have HL := Lib.hid hl
    have HM : Hid (xs.length = Nat.min n 64) := Lib.hid (by rw [hl]; exact (Nat.min_eq_left (by omega)).symm)
    rw [← hr]
    clear hby ht hr hrl hone hsp hl
    go_enter Tryd.func32, Tryd.ntmps32
    go_wp2_with (first
      | (refine wpList_copy_splice rfl (.tmp 11) (.tmp 12) 22 22 rfl 5 Tryd.underlying22 (by kernel_rfl) _ A 64 64 n c rfl rfl (w.heap.size + 1) 0 (vs zero64) 58 (Blk.fresh (by simp) (by kernel_rfl)) (vs xs) (by rw [vs_length]; exact HM.out) (fun hpos => ⟨rfl, ((HBy.out.alloc _).alloc _).srcAll hpos⟩) (by rw [vs_length, HL.out]; simp [zero64, vs]; omega) vs_one (w.heap.size + 1) _ (Below.refl _ _) (Nat.le_refl _) ?_; intro w3 hg3 hb3; have HB3' : Hid (Blk w3 (w.heap.size + 1) 58 r) := Lib.hid (by rw [← HSp.out]; exact hg3.out); have HB2' : Hid (Blk w3 w.heap.size 58 (vs zero64)) := Lib.hid (((Blk.fresh (t := 58) (cs := vs zero64) rfl (by kernel_rfl)).alloc _).below hb3 (Nat.lt_succ_self _)); have HX3 := Lib.hid ((((Below.refl _ w).alloc (Nat.le_refl _) _).alloc (by simp) _).trans (hb3.mono (Nat.le_succ _))); clear hg3 hb3)
      | (refine wpList_load_blk rfl 58 (.tmp 3) rfl (w.heap.size + 1) rfl 58 r _ HB3'.out Tryd.underlying58 rfl (by rw [HRl.out]; kernel_rfl) ?_)
      | (refine wpList_store_row rfl 58 (.tmp 2) (.tmp 14) rfl w.heap.size r.toArray rfl rfl 58 (vs zero64).toArray HB2'.out (by rw [List.size_toArray, HRl.out]; kernel_rfl) (by rw [List.size_toArray, List.size_toArray, HRl.out]; rfl) HO.out ?_))
    refine bodyPost_ret (v := .agg r.toArray) (results_cell_row rfl _ _ w.heap.size 58 _ (0, 0) _ rfl (HB2'.out.row _) Tryd.underlying58 rfl ?r2) rfl ⟨rfl, below_row HX3.out _ (Nat.le_refl _) _⟩
    rw [List.size_toArray, HRl.out]; kernel_rfl

end Go.Proofs.YtolildehdibpbaaDoor
