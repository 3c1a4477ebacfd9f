/-
  The facts that stand ahead of each statement of mac.
-/
import Derived.Test.YtolildehdibpbaaDoorCheck
import Derived.Test.YtolildehdibpbaaDoorFix2
import Derived.Test.YtolildehdibpbaaDoorRPut
import Derived.Outline
namespace Go.Proofs.YtolildehdibpbaaDoor
open Go.RowKit

theorem hmac_nil3 : (hmac [] []).take 3 = [182, 19, 103] := by decide +kernel
theorem hmac_nil_at : (hmac [] [])[0]? = some 182 ∧ (hmac [] [])[1]? = some 19 ∧ (hmac [] [])[2]? = some 103 := by
  have h := hmac_nil3
  have e : ∀ j, j < 3 → (hmac [] [])[j]? = ((hmac [] []).take 3)[j]? := fun j hj => by rw [List.getElem?_take, if_pos hj]
  refine ⟨?_, ?_, ?_⟩ <;> (rw [e _ (by omega), h]; rfl)

set_option maxHeartbeats 4000000 in
set_option maxRecDepth 100000 in
theorem mfixed_any (w : World) (ht : Tab w) :
    Calls Tryd.prog 12 #[] w fun e w' => e = .returned (.bool true) ∧ Below w.heap.size w w' := by
  have HT := Lib.hid ht
  obtain ⟨a0, a1, a2⟩ := hmac_nil_at
  obtain ⟨r, hr⟩ : ∃ r, r = vs (hmac [] []) := ⟨_, rfl⟩
  have r0 : r[0]? = some (.int .u8 182) := by rw [hr, vs_get, a0]; rfl
  have r1 : r[1]? = some (.int .u8 19) := by rw [hr, vs_get, a1]; rfl
  have r2 : r[2]? = some (.int .u8 103) := by rw [hr, vs_get, a2]; rfl
  have hrl : r.length = 32 := by rw [hr, vs_length, hmac_length]
  have hone : r.toArray.all (·.oneCell') = true := by rw [hr]; exact one_u8
  have hof : ∀ W, Tab W → Calls Tryd.prog 13 #[.slice none 0 0, .slice none 0 0] W fun e w' => e = .returned (.agg r.toArray) ∧ Below W.heap.size W w' := fun W h => by
    rw [hr]; exact of_any (fun _ => True) (fun _ => True) [] [] none none 0 0 0 0 W By.none_ (Nat.le_refl _) (by unfold maxLen; omega) By.none_ (Nat.le_refl _) (by unfold maxLen; omega) h (by omega) (by omega)
  have hck : ∀ W, Tab W → Calls Tryd.prog 15 #[.slice none 0 0, .slice none 0 0, .agg r.toArray] W fun e w' => e = .returned (.bool true) ∧ Below W.heap.size W w' := fun W h => by
    have h := check_any (fun _ => True) (fun _ => True) [] [] (hmac [] []) (hmac_length _ _) none none 0 0 0 0 W By.none_ (Nat.le_refl _) (by unfold maxLen; omega) By.none_ (Nat.le_refl _) (by unfold maxLen; omega) h (by omega) (by omega)
    rw [beq_self_eq_true] at h
    rw [hr]; exact h
  have hs1 : ∀ W, Calls Tryd.prog 16 #[.slice none 0 0, .slice none 0 0] W fun e w' => e = .returned (.bool true) ∧ Below W.heap.size W w' := fun W =>
    same_any (fun _ => True) (fun _ => True) [] [] none none 0 0 0 0 W By.none_ By.none_ (by omega) (by omega)
  have hs2 : ∀ W g, By W (fun _ => True) (some ⟨g, 0, none⟩) 1 [1] → Calls Tryd.prog 16 #[.slice (some ⟨g, 0, none⟩) 1 1, .slice none 0 0] W fun e w' => e = .returned (.bool false) ∧ Below W.heap.size W w' := fun W g h =>
    same_any (fun _ => True) (fun _ => True) [1] [] (some ⟨g, 0, none⟩) none 1 1 0 0 W h By.none_ (by omega) (by omega)
  have HOf := Lib.hid hof
  have HCk := Lib.hid hck
  have HS1 := Lib.hid hs1
  have HS2 := Lib.hid hs2
  have HRl := Lib.hid hrl
  have HO := Lib.hid hone
  have R0 := Lib.hid r0
  have R1 := Lib.hid r1
  have R2 := Lib.hid r2
  clear ht a0 a1 a2 hr r0 r1 r2 hrl hone hof hck hs1 hs2
  go_enter Tryd.func12, Tryd.ntmps12
  go_wp2_with (first
    | (go_at_call 13; (with_reducible refine (HOf.out _ HT.out).mono ?_); rintro e w1 ⟨rfl, hb1⟩; have HX1 := Lib.hid hb1; clear hb1)
    | (refine wpList_store_blk rfl 28 (.tmp 1) (.tmp 2) rfl w1.heap.size r rfl rfl 28 (vs zero32) (Blk.fresh rfl (by kernel_rfl)) (by rw [HRl.out]; kernel_rfl) (by rw [HRl.out]; rfl) HO.out ?_; intro w2 hb2 ho2; have c0 := hb2.cellAt R0.out; have c1 := hb2.cellAt R1.out; have c2 := hb2.cellAt R2.out; have HB2 := Lib.hid hb2; have HX2 : Hid (Below w.heap.size w w2) := Lib.hid ((HX1.out.alloc HX1.out.size _).grown ho2 (Nat.le_trans HX1.out.size (by simp)) (fun k hk => Option.some.inj hk ▸ HX1.out.size)); clear hb2 ho2)
    | (go_at_call 16; (with_reducible refine (HS1.out _).mono ?_); rintro e w3 ⟨rfl, hb3⟩; have HX3 := Lib.hid (HX2.out.trans (hb3.mono HX2.out.size)); have HB3 := Lib.hid (HB2.out.through hb3); clear hb3)
    | (go_at_call 16; (with_reducible refine (HS2.out _ _ (By.one _ trivial rfl)).mono ?_); rintro e w4 ⟨rfl, hb4⟩; have HX4 := Lib.hid ((HX3.out.alloc HX3.out.size _).trans (hb4.mono (Nat.le_trans HX3.out.size (by simp)))); have HB4 := Lib.hid ((HB3.out.alloc _).through hb4); clear hb4)
    | (refine wpList_load_blk_g 28 (.tmp 1) rfl (by kernel_rfl) w1.heap.size rfl 28 r _ HB4.out Tryd.underlying28 rfl (by rw [HRl.out]; kernel_rfl) ?_)
    | (go_at_call 15; (with_reducible refine (HCk.out _ (HT.out.through HX4.out)).mono ?_); rintro e w5 ⟨rfl, hb5⟩; have HX5 := Lib.hid (HX4.out.trans (hb5.mono HX4.out.size)); clear hb5))
  go_ret
  exact ⟨rfl, HX5.out⟩

end Go.Proofs.YtolildehdibpbaaDoor
