/-
  MacTags, walked.
-/
import Derived.Test.YtolildehdibpbaaDoorMacFix
import Derived.Test.YtolildehdibpbaaDoorROf
import Derived.Test.YtolildehdibpbaaDoorEql
namespace Go.Proofs.YtolildehdibpbaaDoor
open Go.RowKit

theorem tag_eql (xs ys : List UInt8) (hx : xs.length = 32) (hy : ys.length = 32) (w : World) : (binOp .eql 28 (.agg (vs xs).toArray) (.agg (vs ys).toArray)).run Tryd.prog w = .ok (.bool (xs == ys)) w :=
  run_eql_bytes w 28 5 32 Tryd.underlying28 Tryd.underlying5 (by kernel_rfl) (by kernel_rfl) xs ys hx hy

set_option maxHeartbeats 4000000 in
set_option maxRecDepth 100000 in
theorem tags_any (Q Q' : Nat → Prop) (key text : List UInt8) (A A' : Option Addr) (n c n' c' : Nat) (w : World) (ht : Tab w) (hby : By w Q A n key) (hnc : n ≤ c) (hcm : c ≤ maxLen) (hby' : By w Q' A' n' text) (hnc' : n' ≤ c') (hcm' : c' ≤ maxLen) :
    Calls Tryd.prog 4 #[.slice A n c, .slice A' n' c'] w fun e w' => e = .returned (.bool true) ∧ Below w.heap.size w w' := by
  have HT := Lib.hid ht
  have HBy := Lib.hid hby
  have HBy' := Lib.hid hby'
  by_cases hn : 200 < n
  · have hd : decide (200 < (n : Int)) = true := by simp; omega
    clear ht hby hby'
    go_enter Tryd.func4, Tryd.ntmps4
    go_wp2_with (go_at_call 12; refine (mfixed_any _ HT.out).mono ?_; rintro e w1 ⟨rfl, hx1⟩)
    go_ret
    exact ⟨rfl, hx1⟩
  by_cases hn' : 200 < n'
  · have hd : decide (200 < (n : Int)) = false := by simp; omega
    have hd' : decide (200 < (n' : Int)) = true := by simp; omega
    clear ht hby hby'
    go_enter Tryd.func4, Tryd.ntmps4
    go_wp2_with (go_at_call 12; refine (mfixed_any _ HT.out).mono ?_; rintro e w1 ⟨rfl, hx1⟩)
    go_ret
    exact ⟨rfl, hx1⟩
  have hd : decide (200 < (n : Int)) = false := by simp; omega
  have hd' : decide (200 < (n' : Int)) = false := by simp; omega
  obtain ⟨r, hr⟩ : ∃ r, r = vs (hmac key text) := ⟨_, rfl⟩
  have hof : ∀ W, By W Q A n key → By W Q' A' n' text → Tab W → Calls Tryd.prog 13 #[.slice A n c, .slice A' n' c'] W fun e w' => e = .returned (.agg r.toArray) ∧ Below W.heap.size W w' := fun W h1 h2 h3 => by
    rw [hr]; exact of_any Q Q' key text A A' n c n' c' W h1 hnc hcm h2 hnc' hcm' h3 (by omega) (by omega)
  have hrof : ∀ W, By W Q A n key → By W Q' A' n' text → Calls Tryd.prog 14 #[.slice A n c, .slice A' n' c'] W fun e w' => e = .returned (.agg r.toArray) ∧ Below W.heap.size W w' := fun W h1 h2 => by
    rw [hr]; exact rof_any Q Q' key text A A' n c n' c' W h1 h2 (by omega) (by omega)
  have hstr : ∀ W, By W Q A n key → (convert 22 9 (.slice A n c)).run Tryd.prog W = .ok (.string ⟨key.toArray⟩) W := fun W h =>
    run_string_by W 22 9 5 Tryd.underlying22 Tryd.underlying5 Tryd.underlying9 Q A n c key h
  have hstr' : ∀ W, By W Q' A' n' text → (convert 22 9 (.slice A' n' c')).run Tryd.prog W = .ok (.string ⟨text.toArray⟩) W := fun W h =>
    run_string_by W 22 9 5 Tryd.underlying22 Tryd.underlying5 Tryd.underlying9 Q' A' n' c' text h
  have heql : ∀ W, (binOp .eql 28 (.agg r.toArray) (.agg r.toArray)).run Tryd.prog W = .ok (.bool true) W := fun W => by
    rw [hr, tag_eql _ _ (hmac_length _ _) (hmac_length _ _), beq_self_eq_true]
  obtain ⟨ks, hks⟩ : ∃ ks : ByteArray, ks = ⟨key.toArray⟩ := ⟨_, rfl⟩
  obtain ⟨ts, hts⟩ : ∃ ts : ByteArray, ts = ⟨text.toArray⟩ := ⟨_, rfl⟩
  rw [← hks] at hstr
  rw [← hts] at hstr'
  have HOf := Lib.hid hof
  have HROf := Lib.hid hrof
  have HStr := Lib.hid hstr
  have HStr' := Lib.hid hstr'
  clear ht hby hby' hr hof hrof hstr hstr' hks hts
  go_enter Tryd.func4, Tryd.ntmps4
  go_wp2_with (first
    | (go_at_call 12; refine (mfixed_any _ HT.out).mono ?_; rintro e w1 ⟨rfl, hx1⟩; have HX1 := Lib.hid hx1; have HB1 := Lib.hid (HBy.out.through hx1); have HB1' := Lib.hid (HBy'.out.through hx1); clear hx1))
  refine wp_region_held_drew (S := fun W => (By W Q A n key ∧ By W Q' A' n' text) ∧ Below w.heap.size w W) (by kernel_rfl) ⟨⟨HB1.out.drew, HB1'.out.drew⟩, HX1.out.drew⟩ (fun hHeld => ?_)
  change wpAnyH _ _ _ _ _ _ #[false, false, false, false, false, false] _ _
  refine wpAnyH_take (i := 0) (v := (.slice A n c)) rfl (by kernel_rfl) (by kernel_rfl) (by kernel_rfl) (fun _ _ _ h => h) (Or.inl ⟨by kernel_rfl, fun w hSw => ?_⟩) (by assumption) ?_
  · (try dsimp only at hSw); go_simp <;> (try rfl)
  change wpAnyH _ _ _ _ _ _ _ (Act.put _ (some (17 : Nat)) (.slice A n c)) _
  simp only [Act.put, List.setIfInBounds_toArray, List.set_cons_zero, List.set_cons_succ]
  refine wpAnyH_take (i := 1) (v := (.string ks)) rfl (by kernel_rfl) (by kernel_rfl) (by kernel_rfl) (fun _ _ _ h => h) (yields_conv (by kernel_rfl) 22 9 (.tmp 17) rfl (.slice A n c) (by simp [Act.eval]) (.string ks) (fun W hW => HStr.out W hW.1.1)) (by assumption) ?_
  change wpAnyH _ _ _ _ _ _ _ (Act.put _ (some (18 : Nat)) (.string ks)) _
  simp only [Act.put, List.setIfInBounds_toArray, List.set_cons_zero, List.set_cons_succ]
  refine wpAnyH_take (i := 2) (v := (.slice A' n' c')) rfl (by kernel_rfl) (by kernel_rfl) (by kernel_rfl) (fun _ _ _ h => h) (Or.inl ⟨by kernel_rfl, fun w hSw => ?_⟩) (by assumption) ?_
  · (try dsimp only at hSw); go_simp <;> (try rfl)
  change wpAnyH _ _ _ _ _ _ _ (Act.put _ (some (19 : Nat)) (.slice A' n' c')) _
  simp only [Act.put, List.setIfInBounds_toArray, List.set_cons_zero, List.set_cons_succ]
  refine wpAnyH_take (i := 3) (v := (.string ts)) rfl (by kernel_rfl) (by kernel_rfl) (by kernel_rfl) (fun _ _ _ h => h) (yields_conv (by kernel_rfl) 22 9 (.tmp 19) rfl (.slice A' n' c') (by simp [Act.eval]) (.string ts) (fun W hW => HStr'.out W hW.1.2)) (by assumption) ?_
  change wpAnyH _ _ _ _ _ _ _ (Act.put _ (some (20 : Nat)) (.string ts)) _
  simp only [Act.put, List.setIfInBounds_toArray, List.set_cons_zero, List.set_cons_succ]
  refine wpAnyH_take (i := 4) (v := (.string ks)) rfl (by kernel_rfl) (by kernel_rfl) (by kernel_rfl) (fun _ _ _ h => h) (Or.inl ⟨by kernel_rfl, fun w hSw => ?_⟩) (by assumption) ?_
  · (try dsimp only at hSw); go_simp <;> (try rfl)
  change wpAnyH _ _ _ _ _ _ _ (Act.put _ (some (5 : Nat)) (.string ks)) _
  simp only [Act.put, List.setIfInBounds_toArray, List.set_cons_zero, List.set_cons_succ]
  refine wpAnyH_take (i := 5) (v := (.string ts)) rfl (by kernel_rfl) (by kernel_rfl) (by kernel_rfl) (fun _ _ _ h => h) (Or.inl ⟨by kernel_rfl, fun w hSw => ?_⟩) (by assumption) ?_
  · (try dsimp only at hSw); go_simp <;> (try rfl)
  change wpAnyH _ _ _ _ _ _ _ (Act.put _ (some (6 : Nat)) (.string ts)) _
  simp only [Act.put, List.setIfInBounds_toArray, List.set_cons_zero, List.set_cons_succ]
  refine wpAnyH_done (by kernel_rfl) ?_ _
  obtain ⟨w2, hw2⟩ : ∃ w2 : World, w2 = w1.drew := ⟨_, rfl⟩
  rw [← hw2]
  have HX2 : Hid (Below w.heap.size w w2) := Lib.hid (by rw [hw2]; exact HX1.out.drew)
  clear hw2 hHeld
  go_wp2_with (first
    | (go_at_call 13; (with_reducible refine (HOf.out _ (HBy.out.through HX2.out) (HBy'.out.through HX2.out) (HT.out.through HX2.out)).mono ?_); rintro e w3 ⟨rfl, hb3⟩; have HX3 := Lib.hid (HX2.out.trans (hb3.mono HX2.out.size)); clear hb3)
    | (go_at_call 14; (with_reducible refine (HROf.out _ (HBy.out.through HX3.out) (HBy'.out.through HX3.out)).mono ?_); rintro e w4 ⟨rfl, hb4⟩; have HX4 := Lib.hid (HX3.out.trans (hb4.mono HX3.out.size)); have hs4 := HStr.out w4 (HBy.out.through HX4.out); have hs4' := HStr'.out w4 (HBy'.out.through HX4.out); clear hb4))
  go_ret
  exact ⟨rfl, HX4.out⟩

end Go.Proofs.YtolildehdibpbaaDoor
