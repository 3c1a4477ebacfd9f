/-
  The program's numbered: a first byte, and a number at the end.
-/
import Derived.Test.YtgbobemhogeeeaaBookW
import Derived.RegionTactic
import Derived.ChangeAlike
import Derived.StillTailTactics
import Derived.Deep.QuietTactic
import Derived.Outline
namespace Go.Proofs.Ytgbobemhogeeeaa
open Go.RowKit

theorem numB_splice (f : UInt8) (n : Nat) : splice ((vs zero32).set 0 (.int .u8 (f.toNat : Int))) 24 (vs (beB n 8)) = vs (numB f n) := by
  have h : splice ((vs zero32).set 0 (.int .u8 (f.toNat : Int))) 24 (vs (beB n 8)) = ((vs zero32).set 0 (.int .u8 (f.toNat : Int))).take 24 ++ (vs (beB n 8) ++ ((vs zero32).set 0 (.int .u8 (f.toNat : Int))).drop (24 + (vs (beB n 8)).length)) := by simp [splice]
  rw [h, vs_length, beB_length]
  simp [zero32, vs, numB, u8, List.replicate]

set_option maxHeartbeats 4000000 in
set_option maxRecDepth 100000 in
theorem numbered_any (f : UInt8) (n : Nat) (hn : n < 18446744073709551616) (w : World) :
    Calls Try.prog 120 #[.int .u8 (f.toNat : Int), .int .u64 (n : Int)] w fun e w' => e = .returned (.agg (vs (numB f n)).toArray) ∧ Below w.heap.size w w' := by
  have hput : ∀ W, Calls Try.prog 41 #[.slice none 0 0, .int .u64 (n : Int), .int .i64 8] W fun e w' => ∃ A' c', e = .returned (.slice A' 8 c') ∧ By w' (fun _ => True) A' 8 (beB n 8) ∧ Below W.heap.size W w' := fun W => by
    refine (put_any (fun _ => True) none 0 0 [] _ 8 (by omega) (by omega) W By.none_ (by omega) (by omega)).mono ?_
    rintro e w' ⟨v, rfl, ho, hb⟩
    have e1 : putN 0 8 = 8 := rfl
    have e2 : putB [] (n : Int).toNat 8 = beB n 8 := by rw [Int.toNat_natCast]; rfl
    rw [e1, e2] at ho
    obtain ⟨A', c', rfl, _⟩ := own_form ho
    exact ⟨A', c', rfl, (By.of_own ho).weak fun _ _ => trivial, hb⟩
  obtain ⟨r, hr⟩ : ∃ r, r = vs (numB f n) := ⟨_, rfl⟩
  have hrl : r.length = 32 := by rw [hr, vs_length, numB_length]
  have hro : r.toArray.all (·.oneCell') = true := by rw [hr]; exact one_u8
  obtain ⟨z, hz⟩ : ∃ z, z = (vs zero32).set 0 (.int .u8 (f.toNat : Int)) := ⟨_, rfl⟩
  have hzl : z.length = 32 := by rw [hz]; simp [vs_length, zero32]
  have hsp : splice z 24 (vs (beB n 8)) = r := by rw [hz, hr]; exact numB_splice f n
  have hsz : ∀ W : World, (sizeOf 5).run Try.prog W = .ok 1 W := fun W => by kernel_rfl
  have hbl : (vs (beB n 8)).length = 8 := by rw [vs_length, beB_length]
  have HPut := Lib.hid hput
  have HRl := Lib.hid hrl
  have HRo := Lib.hid hro
  have HZl := Lib.hid hzl
  have HSp := Lib.hid hsp
  have HBl := Lib.hid hbl
  rw [← hr]
  clear hput hr hrl hro hzl hsp hbl
  go_enter Try.func120, Try.ntmps120
  go_wp2_with (refine wpList_store_cell rfl 5 (.tmp 7) (.tmp 6) rfl (w.heap.size + 1) 0 rfl (.int .u8 (f.toNat : Int)) rfl rfl rfl hsz 72 (vs zero32) (Blk.fresh (by simp) (by kernel_rfl)) (by decide) ?_; intro w1 hb1 ho1; rw [← hz] at hb1; have HB1 := Lib.hid hb1; have HA1 : Hid (Blk w1 w.heap.size 72 (vs zero32)) := Lib.hid (((Blk.fresh rfl (by kernel_rfl)).alloc _).grown ho1 (fun e => absurd (Option.some.inj e) (by omega))); have HX1 : Hid (Below w.heap.size w w1) := Lib.hid ((((Below.refl _ w).alloc (Nat.le_refl _) _).alloc (by simp) _).grown ho1 (by simp only [World.size_alloc]; omega) (fun k hk => Option.some.inj hk ▸ Nat.le_succ _)); clear hb1 ho1)
  obtain ⟨b4, hb4⟩ : ∃ b4, b4 = w.heap.size := ⟨_, rfl⟩
  rw [← hb4] at HB1 HA1
  rw [← hb4]
  obtain ⟨b5, hb5⟩ : ∃ b5, b5 = b4 + 1 := ⟨_, rfl⟩
  rw [← hb5] at HB1
  rw [← hb5]
  have h45 : b4 ≠ b5 := by omega
  have hw4 : w.heap.size ≤ b4 := by omega
  have hw5 : w.heap.size ≤ b5 := by omega
  clear hb4 hb5 hz
  have hsl : ∀ W : World, (Instr.sliceAt 72 (.pointer (some ⟨b5, 0, none⟩)) (some (.int .i64 24)) none none).run Try.prog W = .ok (.slice (some ⟨b5, 24, none⟩) 8 8) W := fun W => by
    have h := run_sliceArr_l (P := Try.prog) W 72 5 32 b5 0 .i64 24 Try.underlying72 (by kernel_rfl) (by omega) (by omega)
    simpa using h
  try dsimp only [Act.put]
  refine wp_region_held_drew (S := fun _ => True) (by kernel_rfl) trivial (fun hHeld => ?_)
  change wpAnyH _ _ _ _ _ _ #[false, false, false, false] _ _
  refine wpAnyH_take (i := 0) (v := (.slice (some ⟨b5, 24, none⟩) 8 8)) rfl (by kernel_rfl) (by kernel_rfl) (by kernel_rfl) (fun _ _ _ h => h) (Or.inl ⟨by kernel_rfl, fun w hSw => ?_⟩) (by assumption) ?_
  · (try dsimp only at hSw); go_simp <;> (try rfl)
  change wpAnyH _ _ _ _ _ _ _ (Act.put _ (some (8 : Nat)) (.slice (some ⟨b5, 24, none⟩) 8 8)) _
  simp only [Act.put, List.setIfInBounds_toArray, List.set_cons_zero, List.set_cons_succ]
  refine wpAnyH_take (i := 1) (v := (.int .u64 (n : Int))) rfl (by kernel_rfl) (by kernel_rfl) (by kernel_rfl) (fun _ _ _ h => h) (Or.inl ⟨by kernel_rfl, fun w hSw => ?_⟩) (by assumption) ?_
  · (try dsimp only at hSw); go_simp <;> (try rfl)
  change wpAnyH _ _ _ _ _ _ _ (Act.put _ (some (9 : Nat)) (.int .u64 (n : Int))) _
  simp only [Act.put, List.setIfInBounds_toArray, List.set_cons_zero, List.set_cons_succ]
  refine wpAnyH_ready (rs := [2]) (by kernel_rfl) (by simp) ?_
  refine AllReadyH.cons rfl (fun K hK => ?_) AllReadyH.nil
  go_simp
  refine (HPut.out _).mono ?_
  rintro e wa ⟨Aa, ca, rfl, hya, hb⟩; have HXa := Lib.hid (HX1.out.drew.trans (hb.mono HX1.out.size)); have HBa := Lib.hid (HB1.out.drew.through hb); have HAa := Lib.hid (HA1.out.drew.through hb); have HYa := Lib.hid hya; clear hb hya
  go_wp2_with fail
  refine hK.out _ _ trivial (fun hHeld1 => ?_)
  clear hHeld hK K
  have hHeld := hHeld1
  clear hHeld1
  refine wpAnyH_ready (rs := [3]) (by kernel_rfl) (by simp) ?_
  refine AllReadyH.cons (o := ⟨some 11, .call { callee := .builtin .copy, args := #[.tmp 8, .tmp 10], argTypes := #[40, 40] }, _, _, _, none⟩) rfl (fun K hK => ?_) AllReadyH.nil
  refine step_copy_blk rfl (.tmp 8) (.tmp 10) 40 40 rfl 5 Try.underlying40 (by kernel_rfl) b5 24 8 8 Aa 8 ca (by simp [Act.eval]) (by simp [Act.eval]) z 72 HBa.out (vs (beB n 8)) 8 HBl.out (by decide) (by omega) (HYa.out.srcAll (by rw [HBl.out]; omega)) (by rw [HZl.out]; omega) vs_one ?_; intro wb hbb hob; rw [HSp.out] at hbb; have HBb := Lib.hid hbb; have HAb := Lib.hid (HAa.out.grown hob (fun e => h45 (Option.some.inj e))); have HXb := Lib.hid (HXa.out.grown hob HXa.out.size (fun k hk => Option.some.inj hk ▸ hw5)); clear hbb hob
  refine hK.out _ _ trivial (fun hHeld1 => ?_)
  clear hHeld hK K
  have hHeld := hHeld1
  clear hHeld1
  change wpAnyH _ _ _ _ _ _ _ (Act.put _ (some (11 : Nat)) (.int .i64 8)) _
  simp only [Act.put, List.setIfInBounds_toArray, List.set_cons_zero, List.set_cons_succ]
  refine wpAnyH_done (by kernel_rfl) ?_ _
  go_wp2_with (first | (refine wpList_load_blk rfl 72 (.tmp 5) rfl b5 rfl 72 r _ HBb.out Try.underlying72 rfl (by rw [HRl.out]; kernel_rfl) ?_) | (refine wpList_store_row rfl 72 (.tmp 4) (.tmp 12) rfl b4 r.toArray rfl rfl 72 (vs zero32).toArray HAb.out (by rw [List.size_toArray, HRl.out]; kernel_rfl) (by rw [List.size_toArray, List.size_toArray, HRl.out]; rfl) HRo.out ?_))
  refine bodyPost_ret (v := .agg r.toArray) (results_cell_row rfl _ _ b4 72 _ (0, 0) _ rfl (HAb.out.row _) Try.underlying72 rfl ?r1) rfl ⟨rfl, below_row HXb.out _ hw4 _⟩
  rw [List.size_toArray, HRl.out]; kernel_rfl

end Go.Proofs.Ytgbobemhogeeeaa
