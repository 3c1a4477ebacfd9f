/-
  BatchBack.
-/
import Derived.Test.YtgbobemhogeeeaaBaL
import Derived.Test.YtgbobemhogeeeaaBaE
import Derived.Test.YtgbobemhogeeeaaBaD
import Derived.Test.YtgbobemhogeeeaaBaS
namespace Go.Proofs.Ytgbobemhogeeeaa
open Go.RowKit

set_option maxHeartbeats 16000000 in
set_option maxRecDepth 100000 in
theorem batchback_any (es : List Ey) (n : Int) (A : Option Addr) (k c : Nat) (w : World) (h : EysIn w A k es) (hkc : k ≤ c) (hc : c ≤ maxLen) (hin : ∀ y ∈ es, y.In) :
    Calls Try.prog 4 #[.slice A k c, .int .i64 n] w fun e w' => e = .returned (.bool true) ∧ Below w.heap.size w w' := by
  have HI := Lib.hid h
  have hk9 : k ≤ 9223372036854775807 := by unfold maxLen at hc; omega
  have HFw0 : Hid (∀ W : World, EysIn W A k es → Calls Try.prog 16 #[.slice A k c] W fun e w' => e = .returned (.bool (fewB es)) ∧ Below W.heap.size W w') := Lib.hid (fun W hI => few15_any es A k c W hI hk9)
  cases hf : fewB es with
  | false =>
    have HFw : Hid (∀ W : World, EysIn W A k es → Calls Try.prog 16 #[.slice A k c] W fun e w' => e = .returned (.bool false) ∧ Below W.heap.size W w') := Lib.hid (fun W hI => hf ▸ HFw0.out W hI)
    clear h hkc hc hin hk9 hf
    go_enter Try.func4, Try.ntmps4
    go_wp2_with (first
      | (go_at_call 15; (with_reducible refine (fixed15_any _).mono ?_); rintro e w1 ⟨rfl, hb1⟩; have HX1 := Lib.hid hb1; have HI1 := Lib.hid (HI.out.through hb1); clear hb1)
      | (go_at_call 16; (with_reducible refine (HFw.out _ HI1.out).mono ?_); rintro e w2 ⟨rfl, hb2⟩; have HX2 := Lib.hid (below_step HX1.out hb2); have HI2 := Lib.hid (HI1.out.through hb2); clear hb2))
    go_ret
    exact ⟨rfl, HX2.out⟩
  | true =>
  have HFw : Hid (∀ W : World, EysIn W A k es → Calls Try.prog 16 #[.slice A k c] W fun e w' => e = .returned (.bool true) ∧ Below W.heap.size W w') := Lib.hid (fun W hI => hf ▸ HFw0.out W hI)
  obtain ⟨hl40, hmem⟩ := fewB_yes hf
  have hkl : k ≤ 40 := by rw [← h.len]; exact hl40
  have hmem2 : ∀ y ∈ es, y.co.lt.length ≤ 1000000 ∧ y.co.tx.length ≤ 1000000 := fun y hy => by have := hmem y hy; omega
  have hL : (encB es).length ≤ 100000 := by
    have h9 := encB_len (es := es) 400 (fun y hy => by have := hmem y hy; omega)
    have : es.length * (39 + 400) ≤ 40 * (39 + 400) := Nat.mul_le_mul_right _ hl40
    omega
  have HBy : Hid (∀ W : World, EysIn W A k es → Calls Try.prog 17 #[.slice A k c] W (Byt W (encB es))) := Lib.hid (fun W hI => bytesB_any es A k c W hI (by omega) hmem2 (by omega))
  have HRb : Hid (∀ W : World, EysIn W A k es → Calls Try.prog 20 #[.slice A k c] W (Byt W (encB es))) := Lib.hid (fun W hI => rbytesB_any es A k c W hI (by omega) hmem2 (by omega))
  have HCk : Hid (∀ W : World, EysIn W A k es → Calls Try.prog 18 #[.slice A k c, .int .i64 n] W fun e w' => e = .returned (.int .i64 (chkB es n)) ∧ Below W.heap.size W w') := Lib.hid (fun W hI => check_any es n A k c W hI hkc (fun y hy => by have := hmem y hy; omega))
  have HRk : Hid (∀ W : World, EysIn W A k es → Calls Try.prog 19 #[.slice A k c, .int .i64 n] W fun e w' => e = .returned (.int .i64 (chkB es n)) ∧ Below W.heap.size W w') := Lib.hid (fun W hI => rcheck15_any es n A k c W hI (fun y hy => (hmem2 y hy).1))
  have HPx : Hid (∀ (W : World) (D : Option Addr) (m d : Nat), By W (fun _ => True) D m (encB es) → Calls Try.prog 21 #[.slice D m d, .int .i64 n] W (EyOut W (parseG (encB es) n).1 (parseG (encB es) n).2)) := Lib.hid (fun W D m d hY => parseB_any (encB es) n D m d W hY (by rw [← hY.len]; omega))
  have HPl : Hid (∀ (W : World) (D : Option Addr) (m d : Nat), By W (fun _ => True) D m (encB es) → chkB es n = 0 → Calls Try.prog 21 #[.slice D m d, .int .i64 n] W (EyOut W es 0)) := Lib.hid (fun W D m d hY hk => by
    have h9 := HPx.out W D m d hY
    rw [parseG_eq (m := 1048576) n (by omega), parseB_back (by omega) (by omega) hk hin] at h9
    exact h9)
  have HSm : Hid (∀ (W : World) (D : Option Addr) (m d : Nat), EysIn W A k es → EysIn W D m es → Calls Try.prog 22 #[.slice A k c, .slice D m d] W fun e w' => e = .returned (.bool true) ∧ Below W.heap.size W w') := Lib.hid (fun W D m d hI hJ => by
    have h9 := rsame15_any es es A k c D m d W hI hJ hk9
    rw [sameB_self] at h9
    exact h9)
  generalize parseG (encB es) n = PX at *
  obtain ⟨px, pe⟩ := PX
  simp only at HPx
  clear h hkc hc hin hk9 hf hl40 hmem hmem2 hkl hL
  go_enter Try.func4, Try.ntmps4
  go_wp2_with (first
    | (go_at_call 15; (with_reducible refine (fixed15_any _).mono ?_); rintro e w1 ⟨rfl, hb1⟩; have HX1 := Lib.hid hb1; have HI1 := Lib.hid (HI.out.through hb1); clear hb1)
    | (go_at_call 16; (with_reducible refine (HFw.out _ HI1.out).mono ?_); rintro e w2 ⟨rfl, hb2⟩; have HX2 := Lib.hid (below_step HX1.out hb2); have HI2 := Lib.hid (HI1.out.through hb2); clear hb2)
    | (go_at_call 17; (with_reducible refine (HBy.out _ HI2.out).mono ?_); rintro e w3 ⟨A3, n3, c3, rfl, hy3, hn3, hm3, hb3⟩; have HY3 := Lib.hid hy3; have HX3 := Lib.hid (below_step HX2.out hb3); have HI3 := Lib.hid (HI2.out.through hb3); clear hy3 hn3 hm3 hb3))
  refine wp_region_held_drew (S := fun W => Below w3.heap.size w3 W) (by kernel_rfl) (Below.refl _ _).drew (fun hHeld => ?_)
  change wpAnyH _ _ _ _ _ _ #[false, false, false, false, false, false, false, false, false, false, false, false, false, false, false] _ _
  refine wpAnyH_take (i := 0) (v := (.slice A k c)) rfl (by kernel_rfl) (by kernel_rfl) (by kernel_rfl) (fun _ _ _ h => h) (Or.inl ⟨by kernel_rfl, fun w hSw => ?_⟩) (by assumption) ?_
  · (try dsimp only at hSw); go_simp <;> (try rfl)
  change wpAnyH _ _ _ _ _ _ _ (Act.put _ (some (15 : Nat)) (.slice A k c)) _
  simp only [Act.put, List.setIfInBounds_toArray, List.set_cons_zero, List.set_cons_succ]
  refine wpAnyH_take (i := 1) (v := (.int .i64 n)) rfl (by kernel_rfl) (by kernel_rfl) (by kernel_rfl) (fun _ _ _ h => h) (Or.inl ⟨by kernel_rfl, fun w hSw => ?_⟩) (by assumption) ?_
  · (try dsimp only at hSw); go_simp <;> (try rfl)
  change wpAnyH _ _ _ _ _ _ _ (Act.put _ (some (16 : Nat)) (.int .i64 n)) _
  simp only [Act.put, List.setIfInBounds_toArray, List.set_cons_zero, List.set_cons_succ]
  refine wpAnyH_take (i := 3) (v := (.slice A k c)) rfl (by kernel_rfl) (by kernel_rfl) (by kernel_rfl) (fun _ _ _ h => h) (Or.inl ⟨by kernel_rfl, fun w hSw => ?_⟩) (by assumption) ?_
  · (try dsimp only at hSw); go_simp <;> (try rfl)
  change wpAnyH _ _ _ _ _ _ _ (Act.put _ (some (18 : Nat)) (.slice A k c)) _
  simp only [Act.put, List.setIfInBounds_toArray, List.set_cons_zero, List.set_cons_succ]
  refine wpAnyH_take (i := 4) (v := (.int .i64 n)) rfl (by kernel_rfl) (by kernel_rfl) (by kernel_rfl) (fun _ _ _ h => h) (Or.inl ⟨by kernel_rfl, fun w hSw => ?_⟩) (by assumption) ?_
  · (try dsimp only at hSw); go_simp <;> (try rfl)
  change wpAnyH _ _ _ _ _ _ _ (Act.put _ (some (19 : Nat)) (.int .i64 n)) _
  simp only [Act.put, List.setIfInBounds_toArray, List.set_cons_zero, List.set_cons_succ]
  refine wpAnyH_ready (rs := [2]) (by kernel_rfl) (by simp) ?_
  refine AllReadyH.cons rfl (fun K hK => ?_) AllReadyH.nil
  go_simp
  refine (HCk.out _ (HI3.out.through hHeld)).mono ?_
  rintro e wa ⟨rfl, hba⟩; have HKa := Lib.hid (below_step hHeld hba); clear hba
  go_wp2_with fail
  refine hK.out _ _ HKa.out (fun hHeld1 => ?_)
  clear hHeld hK K
  have hHeld := hHeld1
  clear hHeld1
  refine wpAnyH_ready (rs := [5]) (by kernel_rfl) (by simp) ?_
  refine AllReadyH.cons rfl (fun K hK => ?_) AllReadyH.nil
  go_simp
  refine (HRk.out _ (HI3.out.through hHeld)).mono ?_
  rintro e wb ⟨rfl, hbb⟩; have HKb := Lib.hid (below_step hHeld hbb); clear hbb
  go_wp2_with fail
  refine hK.out _ _ HKb.out (fun hHeld1 => ?_)
  clear hHeld hK K
  have hHeld := hHeld1
  clear hHeld1
  refine wpAnyH_take (i := 6) (v := (.bool false)) rfl (by kernel_rfl) (by kernel_rfl) (by kernel_rfl) (fun _ _ _ h => h) (Or.inl ⟨by kernel_rfl, fun w hSw => ?_⟩) (by assumption) ?_
  · (try dsimp only at hSw); go_simp <;> (try rfl)
  change wpAnyH _ _ _ _ _ _ _ (Act.put _ (some (21 : Nat)) (.bool false)) _
  simp only [Act.put, List.setIfInBounds_toArray, List.set_cons_zero, List.set_cons_succ]
  refine wpAnyH_take (i := 7) (v := (.bool false)) rfl (by kernel_rfl) (by kernel_rfl) (by kernel_rfl) (fun _ _ _ h => h) (Or.inl ⟨by kernel_rfl, fun w hSw => ?_⟩) (by assumption) ?_
  · (try dsimp only at hSw); go_simp <;> (try rfl)
  change wpAnyH _ _ _ _ _ _ _ (Act.put _ (some (22 : Nat)) (.bool false)) _
  simp only [Act.put, List.setIfInBounds_toArray, List.set_cons_zero, List.set_cons_succ]
  refine wpAnyH_take (i := 8) (v := (.slice A3 n3 c3)) rfl (by kernel_rfl) (by kernel_rfl) (by kernel_rfl) (fun _ _ _ h => h) (Or.inl ⟨by kernel_rfl, fun w hSw => ?_⟩) (by assumption) ?_
  · (try dsimp only at hSw); go_simp <;> (try rfl)
  change wpAnyH _ _ _ _ _ _ _ (Act.put _ (some (23 : Nat)) (.slice A3 n3 c3)) _
  simp only [Act.put, List.setIfInBounds_toArray, List.set_cons_zero, List.set_cons_succ]
  refine wpAnyH_take (i := 9) (v := (.string (ba (encB es)))) rfl (by kernel_rfl) (by kernel_rfl) (by kernel_rfl) (fun _ _ _ h => h) (yields_conv (by kernel_rfl) 40 9 (.tmp 23) rfl (.slice A3 n3 c3) (by simp [Act.eval]) (.string (ba (encB es))) (fun W hW => run_string_by W 40 9 5 Try.underlying40 Try.underlying5 Try.underlying9 _ _ _ _ _ (HY3.out.through hW))) (by assumption) ?_
  change wpAnyH _ _ _ _ _ _ _ (Act.put _ (some (24 : Nat)) (.string (ba (encB es)))) _
  simp only [Act.put, List.setIfInBounds_toArray, List.set_cons_zero, List.set_cons_succ]
  refine wpAnyH_take (i := 10) (v := (.slice A k c)) rfl (by kernel_rfl) (by kernel_rfl) (by kernel_rfl) (fun _ _ _ h => h) (Or.inl ⟨by kernel_rfl, fun w hSw => ?_⟩) (by assumption) ?_
  · (try dsimp only at hSw); go_simp <;> (try rfl)
  change wpAnyH _ _ _ _ _ _ _ (Act.put _ (some (25 : Nat)) (.slice A k c)) _
  simp only [Act.put, List.setIfInBounds_toArray, List.set_cons_zero, List.set_cons_succ]
  refine wpAnyH_ready (rs := [11]) (by kernel_rfl) (by simp) ?_
  refine AllReadyH.cons rfl (fun K hK => ?_) AllReadyH.nil
  go_simp
  refine (HRb.out _ (HI3.out.through hHeld)).mono ?_
  rintro e wc ⟨A4, n4, d4, rfl, hy4, _, _, hb4⟩; have HY4 := Lib.hid hy4; have HK4 := Lib.hid (below_step hHeld hb4); clear hy4 hb4
  go_wp2_with fail
  refine hK.out _ _ HK4.out (fun hHeld1 => ?_)
  clear hHeld hK K
  have hHeld := hHeld1
  clear hHeld1
  refine wpAnyH_weaken (S' := fun W => Below w3.heap.size w3 W ∧ By W (fun _ => True) A4 n4 (encB es)) (fun W h => h.1) _ _ _ _ ?_
  have hHeld2 := And.intro hHeld HY4.out
  clear hHeld
  have hHeld := hHeld2
  clear hHeld2
  refine wpAnyH_take (i := 12) (v := (.string (ba (encB es)))) rfl (by kernel_rfl) (by kernel_rfl) (by kernel_rfl) (fun _ _ _ h => h) (yields_conv (by kernel_rfl) 40 9 (.tmp 26) rfl (.slice A4 n4 d4) (by simp [Act.eval]) (.string (ba (encB es))) (fun W hW => run_string_by W 40 9 5 Try.underlying40 Try.underlying5 Try.underlying9 _ _ _ _ _ hW.2)) (by assumption) ?_
  change wpAnyH _ _ _ _ _ _ _ (Act.put _ (some (27 : Nat)) (.string (ba (encB es)))) _
  simp only [Act.put, List.setIfInBounds_toArray, List.set_cons_zero, List.set_cons_succ]
  refine wpAnyH_take (i := 13) (v := (.bool false)) rfl (by kernel_rfl) (by kernel_rfl) (by kernel_rfl) (fun _ _ _ h => h) (Or.inl ⟨by kernel_rfl, fun w hSw => ?_⟩) (by assumption) ?_
  · (try dsimp only at hSw); go_simp <;> (try rfl)
  change wpAnyH _ _ _ _ _ _ _ (Act.put _ (some (28 : Nat)) (.bool false)) _
  simp only [Act.put, List.setIfInBounds_toArray, List.set_cons_zero, List.set_cons_succ]
  refine wpAnyH_take (i := 14) (v := (.bool false)) rfl (by kernel_rfl) (by kernel_rfl) (by kernel_rfl) (fun _ _ _ h => h) (Or.inl ⟨by kernel_rfl, fun w hSw => ?_⟩) (by assumption) ?_
  · (try dsimp only at hSw); go_simp <;> (try rfl)
  change wpAnyH _ _ _ _ _ _ _ (Act.put _ (some (29 : Nat)) (.bool false)) _
  simp only [Act.put, List.setIfInBounds_toArray, List.set_cons_zero, List.set_cons_succ]
  refine wpAnyH_done (by kernel_rfl) ?_ _
  have HX5 : Hid (Below w.heap.size w wc) := Lib.hid (below_step HX3.out hHeld.1)
  have HI5 := Lib.hid (HI3.out.through hHeld.1)
  have HY5 := Lib.hid (HY3.out.through hHeld.1)
  clear hHeld
  by_cases hk : chkB es n = 0
  · have HPa : Hid (∀ (W : World) (D : Option Addr) (m d : Nat), By W (fun _ => True) D m (encB es) → Calls Try.prog 21 #[.slice D m d, .int .i64 n] W (EyOut W es 0)) := Lib.hid (fun W D m d hY => HPl.out W D m d hY hk)
    rw [hk] at HRk
    clear hk
    go_wp2_with (first
          | (go_at_call 21; (with_reducible refine (HPa.out _ _ _ _ HY5.out).mono ?_); rintro e w6 ⟨A6, n6, c6, rfl, hi6, _, _, hb6, _⟩; have HJ6 := Lib.hid hi6; have HX6 := Lib.hid (below_step HX5.out hb6); have HI6 := Lib.hid (HI5.out.through hb6); clear hi6 hb6)
          | (go_at_call 19; (with_reducible refine (HRk.out _ HI6.out).mono ?_); rintro e w7 ⟨rfl, hb7⟩; have HX7 := Lib.hid (below_step HX6.out hb7); have HI7 := Lib.hid (HI6.out.through hb7); have HJ7 := Lib.hid (HJ6.out.through hb7); clear hb7)
          | (go_at_call 22; (with_reducible refine (HSm.out _ _ _ _ HI7.out HJ7.out).mono ?_); rintro e w8 ⟨rfl, hb8⟩; have HX8 := Lib.hid (below_step HX7.out hb8); clear hb8))
    go_ret
    exact ⟨rfl, HX8.out⟩
  · obtain ⟨er, her⟩ : ∃ er, chkB es n = er := ⟨_, rfl⟩
    rw [her] at HRk hk
    have hkb : (er == 0) = false := by simpa using hk
    have hkd : (er != 0) = true := by simpa using hk
    have HPa := HPx
    clear hk her
    go_wp2_with (first
          | (go_at_call 21; (with_reducible refine (HPa.out _ _ _ _ HY5.out).mono ?_); rintro e w6 ⟨A6, n6, c6, rfl, hi6, _, _, hb6, _⟩; have HJ6 := Lib.hid hi6; have HX6 := Lib.hid (below_step HX5.out hb6); have HI6 := Lib.hid (HI5.out.through hb6); clear hi6 hb6)
          | (go_at_call 19; (with_reducible refine (HRk.out _ HI6.out).mono ?_); rintro e w7 ⟨rfl, hb7⟩; have HX7 := Lib.hid (below_step HX6.out hb7); have HI7 := Lib.hid (HI6.out.through hb7); have HJ7 := Lib.hid (HJ6.out.through hb7); clear hb7))
    go_ret
    exact ⟨rfl, HX7.out⟩

end Go.Proofs.Ytgbobemhogeeeaa
