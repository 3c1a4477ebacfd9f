/-
  LedgerReads, walked.
-/
import Derived.Test.YtkbeodlihmmdbaaPgL1
import Derived.Test.YtkbeodlihmmdbaaLgP
import Derived.Test.YtkbeodlihmmdbaaLgS
namespace Go.Proofs.Ytkbeodlihmmdbaa
open Go.RowKit

set_option maxHeartbeats 16000000 in
set_option maxRecDepth 100000 in
theorem reads_any (xs : List UInt8) (A : Option Addr) (n c : Nat) (w : World) (h : By w (fun _ => True) A n xs) (hnc : n ≤ c) (hc : c ≤ maxLen) :
    Calls Try.prog 5 #[.slice A n c] w fun e w' => e = .returned (.bool true) ∧ Below w.heap.size w w' := by
  have hli := ba_list
  have HY := Lib.hid h
  by_cases hn : n ≤ 3000
  case neg =>
    have hd : decide ((3000 : Int) < (n : Int)) = true := by simp; omega
    clear h hn
    go_enter Try.func5, Try.ntmps5
    go_wp2_with (go_at_call 7; (with_reducible refine (fixed_any _).mono ?_); rintro e w1 ⟨rfl, hb1⟩; have HX1 := Lib.hid hb1; have HY1 := Lib.hid (HY.out.through hb1); clear hb1)
    go_ret
    exact ⟨rfl, HX1.out⟩
  case pos =>
  have hd : decide ((3000 : Int) < (n : Int)) = false := by simp; omega
  have hpa0 := fun (W : World) (hY : By W (fun _ => True) A n xs) => parse_any xs A n c W hY (by omega)
  have hpr0 := fun (W : World) (hY : By W (fun _ => True) A n xs) => rparse_any xs A n c W hY hnc hc (by omega)
  have hsm0 := fun (l : Lg) (hl : l.ls.length ≤ 16 ∧ l.os.length ≤ 4) (W : World) (A2 : Option Addr) (n2 c2 : Nat) (B2 : Option Addr) (m2 d2 : Nat) (A3 : Option Addr) (n3 c3 : Nat) (B3 : Option Addr) (m3 d3 : Nat) (h2 : LgIn W A2 n2 B2 m2 l) (h3 : LgIn W A3 n3 B3 m3 l) => rsame_any l l A2 n2 c2 B2 m2 d2 A3 n3 c3 B3 m3 d3 W h2 h3 (by have := h2.len; omega) (by have := h2.len; omega) (by have := h3.len; omega) (by have := h3.len; omega)
  cases hp : parseLg xs with
  | none =>
    have hb : parseB xs = (Lg.no, false) := by unfold parseB; rw [hp]
    rw [hb] at hpa0 hpr0
    have hsm1 := hsm0 Lg.no ⟨by decide, by decide⟩
    rw [Lg.same_self] at hsm1
    obtain ⟨l, hl⟩ : ∃ l, Lg.no = l := ⟨_, rfl⟩
    rw [hl] at hpa0 hpr0 hsm1
    have hpa : ∀ W, By W (fun _ => True) A n xs → Calls Try.prog 24 #[.slice A n c] W (fun e w' => ∃ A n c B m d, e = .returned (.tuple #[.agg #[.int .i64 l.sq, .int .i64 l.tt, .slice A n c, .slice B m d], .int .i64 2]) ∧ LgIn w' A n B m l ∧ Below W.heap.size W w') := fun W hY => (hpa0 W hY).mono fun e w' ⟨a1, a2, a3, a4, a5, a6, a7, a8, _, _, a9⟩ => ⟨a1, a2, a3, a4, a5, a6, a7, a8, a9⟩
    have hpr : ∀ W, By W (fun _ => True) A n xs → Calls Try.prog 26 #[.slice A n c] W (fun e w' => ∃ A n c B m d, e = .returned (.tuple #[.agg #[.int .i64 l.sq, .int .i64 l.tt, .slice A n c, .slice B m d], .bool false]) ∧ LgIn w' A n B m l ∧ Below W.heap.size W w') := hpr0
    have hsm : ∀ (W : World) (A2 : Option Addr) (n2 c2 : Nat) (B2 : Option Addr) (m2 d2 : Nat) (A3 : Option Addr) (n3 c3 : Nat) (B3 : Option Addr) (m3 d3 : Nat), LgIn W A2 n2 B2 m2 l → LgIn W A3 n3 B3 m3 l → Calls Try.prog 17 #[.agg #[.int .i64 l.sq, .int .i64 l.tt, .slice A2 n2 c2, .slice B2 m2 d2], .agg #[.int .i64 l.sq, .int .i64 l.tt, .slice A3 n3 c3, .slice B3 m3 d3]] W fun e w' => e = .returned (.bool true) ∧ Below W.heap.size W w' := hsm1
    have HPa := Lib.hid hpa
    have HPr := Lib.hid hpr
    have HSm := Lib.hid hsm
    clear h hn hpa0 hpr0 hsm0 hsm1 hb hp hpa hpr hsm hl
    go_enter Try.func5, Try.ntmps5
    go_wp2_with (first
      | (go_at_call 7; (with_reducible refine (fixed_any _).mono ?_); rintro e w1 ⟨rfl, hb1⟩; have HX1 := Lib.hid hb1; have HY1 := Lib.hid (HY.out.through hb1); clear hb1)
      | (go_at_call 24; (with_reducible refine (HPa.out _ HY1.out).mono ?_); rintro e w2 ⟨A2, n2, c2, B2, m2, d2, rfl, hi2, hb2⟩; have HX2 : Hid (Below w.heap.size w (w2.alloc (.cells #[.int .i64 l.sq, .int .i64 l.tt, .slice A2 n2 c2, .slice B2 m2 d2] 25))) := Lib.hid ((below_step HX1.out hb2).alloc (below_step HX1.out hb2).size (.cells #[.int .i64 l.sq, .int .i64 l.tt, .slice A2 n2 c2, .slice B2 m2 d2] 25)); have HY2 := Lib.hid ((HY1.out.through hb2).alloc (.cells #[.int .i64 l.sq, .int .i64 l.tt, .slice A2 n2 c2, .slice B2 m2 d2] 25)); have HI2 := Lib.hid (hi2.alloc (.cells #[.int .i64 l.sq, .int .i64 l.tt, .slice A2 n2 c2, .slice B2 m2 d2] 25)); have HB2 : Hid (Blk (w2.alloc (.cells #[.int .i64 l.sq, .int .i64 l.tt, .slice A2 n2 c2, .slice B2 m2 d2] 25)) w2.heap.size 25 [.int .i64 l.sq, .int .i64 l.tt, .slice A2 n2 c2, .slice B2 m2 d2]) := Lib.hid (Blk.fresh rfl rfl); clear hi2 hb2)
      | (go_at_call 26; (with_reducible refine (HPr.out _ HY2.out).mono ?_); rintro e w3 ⟨A3, n3, c3, B3, m3, d3, rfl, hi3, hb3⟩; have HX3 : Hid (Below w.heap.size w (w3.alloc (.cells #[.int .i64 l.sq, .int .i64 l.tt, .slice A3 n3 c3, .slice B3 m3 d3] 25))) := Lib.hid ((below_step HX2.out hb3).alloc (below_step HX2.out hb3).size (.cells #[.int .i64 l.sq, .int .i64 l.tt, .slice A3 n3 c3, .slice B3 m3 d3] 25)); have HY3 := Lib.hid ((HY2.out.through hb3).alloc (.cells #[.int .i64 l.sq, .int .i64 l.tt, .slice A3 n3 c3, .slice B3 m3 d3] 25)); have HI3 := Lib.hid (hi3.alloc (.cells #[.int .i64 l.sq, .int .i64 l.tt, .slice A3 n3 c3, .slice B3 m3 d3] 25)); have HI23 := Lib.hid ((HI2.out.through hb3).alloc (.cells #[.int .i64 l.sq, .int .i64 l.tt, .slice A3 n3 c3, .slice B3 m3 d3] 25)); have HB23 := Lib.hid ((HB2.out.through hb3).alloc (.cells #[.int .i64 l.sq, .int .i64 l.tt, .slice A3 n3 c3, .slice B3 m3 d3] 25)); have HB3 : Hid (Blk (w3.alloc (.cells #[.int .i64 l.sq, .int .i64 l.tt, .slice A3 n3 c3, .slice B3 m3 d3] 25)) w3.heap.size 25 [.int .i64 l.sq, .int .i64 l.tt, .slice A3 n3 c3, .slice B3 m3 d3]) := Lib.hid (Blk.fresh rfl rfl); clear hi3 hb3)
      | (refine wpList_load_blk_g 25 (.tmp 3) rfl (by kernel_rfl) w2.heap.size rfl 25 [.int .i64 l.sq, .int .i64 l.tt, .slice A2 n2 c2, .slice B2 m2 d2] _ HB23.out Try.underlying25 rfl (by kernel_rfl) ?_)
      | (refine wpList_load_blk_g 25 (.tmp 5) rfl (by kernel_rfl) w3.heap.size rfl 25 [.int .i64 l.sq, .int .i64 l.tt, .slice A3 n3 c3, .slice B3 m3 d3] _ HB3.out Try.underlying25 rfl (by kernel_rfl) ?_)
      | (go_at_call 17; (with_reducible refine (HSm.out _ _ _ _ _ _ _ _ _ _ _ _ _ HI23.out HI3.out).mono ?_); rintro e w4 ⟨rfl, hb4⟩; have HX4 := Lib.hid (below_step HX3.out hb4); have HY4 := Lib.hid (HY3.out.through hb4); have HI4 := Lib.hid (HI23.out.through hb4); have HB4 := Lib.hid (HB23.out.through hb4); clear hb4))
    go_quiet (fail)
    go_wp2
    go_ret
    exact ⟨rfl, below_drewN HX4.out _⟩
  | some l =>
    have hb : parseB xs = (l, true) := by unfold parseB; rw [hp]
    obtain ⟨hr, he⟩ := parseLg_iff.1 hp
    have hR := Lg.right_iff.1 hr
    rw [hb] at hpa0 hpr0
    have hsm1 := hsm0 l ⟨hR.l16, hR.o4⟩
    rw [Lg.same_self] at hsm1
    have hby0 := fun (W : World) (A2 : Option Addr) (n2 c2 : Nat) (B2 : Option Addr) (m2 d2 : Nat) (h2 : LgIn W A2 n2 B2 m2 l) => bytes_any l A2 n2 c2 B2 m2 d2 W h2 (by have := h2.len; have := hR.l16; omega) (by have := h2.len; have := hR.o4; omega) (fun x hx => by
      have h9 := lsOk_mem _ _ hR.ls x hx
      simp only [ltOk, Bool.and_eq_true, decide_eq_true_eq] at h9
      exact Nat.le_trans (isNm_len h9.1.1.1.1.1.1.1).2 (by omega))
    rw [hr, if_pos rfl, ← he] at hby0
    have hby : ∀ (W : World) (A2 : Option Addr) (n2 c2 : Nat) (B2 : Option Addr) (m2 d2 : Nat), LgIn W A2 n2 B2 m2 l → Calls Try.prog 20 #[.agg #[.int .i64 l.sq, .int .i64 l.tt, .slice A2 n2 c2, .slice B2 m2 d2]] W (Byt W xs) := hby0
    have hpa : ∀ W, By W (fun _ => True) A n xs → Calls Try.prog 24 #[.slice A n c] W (fun e w' => ∃ A n c B m d, e = .returned (.tuple #[.agg #[.int .i64 l.sq, .int .i64 l.tt, .slice A n c, .slice B m d], .int .i64 0]) ∧ LgIn w' A n B m l ∧ Below W.heap.size W w') := fun W hY => (hpa0 W hY).mono fun e w' ⟨a1, a2, a3, a4, a5, a6, a7, a8, _, _, a9⟩ => ⟨a1, a2, a3, a4, a5, a6, a7, a8, a9⟩
    have hpr : ∀ W, By W (fun _ => True) A n xs → Calls Try.prog 26 #[.slice A n c] W (fun e w' => ∃ A n c B m d, e = .returned (.tuple #[.agg #[.int .i64 l.sq, .int .i64 l.tt, .slice A n c, .slice B m d], .bool true]) ∧ LgIn w' A n B m l ∧ Below W.heap.size W w') := hpr0
    have hsm : ∀ (W : World) (A2 : Option Addr) (n2 c2 : Nat) (B2 : Option Addr) (m2 d2 : Nat) (A3 : Option Addr) (n3 c3 : Nat) (B3 : Option Addr) (m3 d3 : Nat), LgIn W A2 n2 B2 m2 l → LgIn W A3 n3 B3 m3 l → Calls Try.prog 17 #[.agg #[.int .i64 l.sq, .int .i64 l.tt, .slice A2 n2 c2, .slice B2 m2 d2], .agg #[.int .i64 l.sq, .int .i64 l.tt, .slice A3 n3 c3, .slice B3 m3 d3]] W fun e w' => e = .returned (.bool true) ∧ Below W.heap.size W w' := hsm1
    have HPa := Lib.hid hpa
    have HPr := Lib.hid hpr
    have HSm := Lib.hid hsm
    have HBy := Lib.hid hby
    clear h hn hpa0 hpr0 hsm0 hsm1 hby0 hb hp hpa hpr hsm hby hr he hR
    go_enter Try.func5, Try.ntmps5
    go_wp2_with (first
      | (go_at_call 7; (with_reducible refine (fixed_any _).mono ?_); rintro e w1 ⟨rfl, hb1⟩; have HX1 := Lib.hid hb1; have HY1 := Lib.hid (HY.out.through hb1); clear hb1)
      | (go_at_call 24; (with_reducible refine (HPa.out _ HY1.out).mono ?_); rintro e w2 ⟨A2, n2, c2, B2, m2, d2, rfl, hi2, hb2⟩; have HX2 : Hid (Below w.heap.size w (w2.alloc (.cells #[.int .i64 l.sq, .int .i64 l.tt, .slice A2 n2 c2, .slice B2 m2 d2] 25))) := Lib.hid ((below_step HX1.out hb2).alloc (below_step HX1.out hb2).size (.cells #[.int .i64 l.sq, .int .i64 l.tt, .slice A2 n2 c2, .slice B2 m2 d2] 25)); have HY2 := Lib.hid ((HY1.out.through hb2).alloc (.cells #[.int .i64 l.sq, .int .i64 l.tt, .slice A2 n2 c2, .slice B2 m2 d2] 25)); have HI2 := Lib.hid (hi2.alloc (.cells #[.int .i64 l.sq, .int .i64 l.tt, .slice A2 n2 c2, .slice B2 m2 d2] 25)); have HB2 : Hid (Blk (w2.alloc (.cells #[.int .i64 l.sq, .int .i64 l.tt, .slice A2 n2 c2, .slice B2 m2 d2] 25)) w2.heap.size 25 [.int .i64 l.sq, .int .i64 l.tt, .slice A2 n2 c2, .slice B2 m2 d2]) := Lib.hid (Blk.fresh rfl rfl); clear hi2 hb2)
      | (go_at_call 26; (with_reducible refine (HPr.out _ HY2.out).mono ?_); rintro e w3 ⟨A3, n3, c3, B3, m3, d3, rfl, hi3, hb3⟩; have HX3 : Hid (Below w.heap.size w (w3.alloc (.cells #[.int .i64 l.sq, .int .i64 l.tt, .slice A3 n3 c3, .slice B3 m3 d3] 25))) := Lib.hid ((below_step HX2.out hb3).alloc (below_step HX2.out hb3).size (.cells #[.int .i64 l.sq, .int .i64 l.tt, .slice A3 n3 c3, .slice B3 m3 d3] 25)); have HY3 := Lib.hid ((HY2.out.through hb3).alloc (.cells #[.int .i64 l.sq, .int .i64 l.tt, .slice A3 n3 c3, .slice B3 m3 d3] 25)); have HI3 := Lib.hid (hi3.alloc (.cells #[.int .i64 l.sq, .int .i64 l.tt, .slice A3 n3 c3, .slice B3 m3 d3] 25)); have HI23 := Lib.hid ((HI2.out.through hb3).alloc (.cells #[.int .i64 l.sq, .int .i64 l.tt, .slice A3 n3 c3, .slice B3 m3 d3] 25)); have HB23 := Lib.hid ((HB2.out.through hb3).alloc (.cells #[.int .i64 l.sq, .int .i64 l.tt, .slice A3 n3 c3, .slice B3 m3 d3] 25)); have HB3 : Hid (Blk (w3.alloc (.cells #[.int .i64 l.sq, .int .i64 l.tt, .slice A3 n3 c3, .slice B3 m3 d3] 25)) w3.heap.size 25 [.int .i64 l.sq, .int .i64 l.tt, .slice A3 n3 c3, .slice B3 m3 d3]) := Lib.hid (Blk.fresh rfl rfl); clear hi3 hb3)
      | (refine wpList_load_blk_g 25 (.tmp 3) rfl (by kernel_rfl) w2.heap.size rfl 25 [.int .i64 l.sq, .int .i64 l.tt, .slice A2 n2 c2, .slice B2 m2 d2] _ HB23.out Try.underlying25 rfl (by kernel_rfl) ?_)
      | (refine wpList_load_blk_g 25 (.tmp 5) rfl (by kernel_rfl) w3.heap.size rfl 25 [.int .i64 l.sq, .int .i64 l.tt, .slice A3 n3 c3, .slice B3 m3 d3] _ HB3.out Try.underlying25 rfl (by kernel_rfl) ?_)
      | (go_at_call 17; (with_reducible refine (HSm.out _ _ _ _ _ _ _ _ _ _ _ _ _ HI23.out HI3.out).mono ?_); rintro e w4 ⟨rfl, hb4⟩; have HX4 := Lib.hid (below_step HX3.out hb4); have HY4 := Lib.hid (HY3.out.through hb4); have HI4 := Lib.hid (HI23.out.through hb4); have HB4 := Lib.hid (HB23.out.through hb4); clear hb4))
    refine wp_region_held_drew (S := fun W => Below w4.heap.size w4 W) (by kernel_rfl) (Below.refl _ _).drew (fun hHeld => ?_)
    change wpAnyH _ _ _ _ _ _ #[false, false, false, false, false, false, false, false, false, false, false] _ _
    refine wpAnyH_take (i := 0) (v := (.bool true)) rfl (by kernel_rfl) (by kernel_rfl) (by kernel_rfl) (fun _ _ _ h => h) (Or.inl ⟨by kernel_rfl, fun w hSw => ?_⟩) (by assumption) ?_
    · (try dsimp only at hSw); go_simp <;> (try rfl)
    change wpAnyH _ _ _ _ _ _ _ (Act.put _ (some (40 : Nat)) (.bool true)) _
    simp only [Act.put, List.setIfInBounds_toArray, List.set_cons_zero, List.set_cons_succ]
    refine wpAnyH_take (i := 1) (v := (.bool false)) rfl (by kernel_rfl) (by kernel_rfl) (by kernel_rfl) (fun _ _ _ h => h) (Or.inl ⟨by kernel_rfl, fun w hSw => ?_⟩) (by assumption) ?_
    · (try dsimp only at hSw); go_simp <;> (try rfl)
    change wpAnyH _ _ _ _ _ _ _ (Act.put _ (some (41 : Nat)) (.bool false)) _
    simp only [Act.put, List.setIfInBounds_toArray, List.set_cons_zero, List.set_cons_succ]
    refine wpAnyH_take (i := 2) (v := (.bool false)) rfl (by kernel_rfl) (by kernel_rfl) (by kernel_rfl) (fun _ _ _ h => h) (Or.inl ⟨by kernel_rfl, fun w hSw => ?_⟩) (by assumption) ?_
    · (try dsimp only at hSw); go_simp <;> (try rfl)
    change wpAnyH _ _ _ _ _ _ _ (Act.put _ (some (42 : Nat)) (.bool false)) _
    simp only [Act.put, List.setIfInBounds_toArray, List.set_cons_zero, List.set_cons_succ]
    refine wpAnyH_take (i := 3) (v := (.agg #[.int .i64 l.sq, .int .i64 l.tt, .slice A2 n2 c2, .slice B2 m2 d2])) rfl (by kernel_rfl) (by kernel_rfl) (by kernel_rfl) (fun _ _ _ h => h) (yields_load_at (by kernel_rfl) 25 (.tmp 3) rfl (.pointer (some ⟨w2.heap.size, 0, none⟩)) rfl (.agg #[.int .i64 l.sq, .int .i64 l.tt, .slice A2 n2 c2, .slice B2 m2 d2]) (fun W hW => (HB4.out.through hW).loadAt 25 _ Try.underlying25 rfl (by kernel_rfl))) (by assumption) ?_
    change wpAnyH _ _ _ _ _ _ _ (Act.put _ (some (43 : Nat)) (.agg #[.int .i64 l.sq, .int .i64 l.tt, .slice A2 n2 c2, .slice B2 m2 d2])) _
    simp only [Act.put, List.setIfInBounds_toArray, List.set_cons_zero, List.set_cons_succ]
    refine wpAnyH_take (i := 6) (v := (.slice A n c)) rfl (by kernel_rfl) (by kernel_rfl) (by kernel_rfl) (fun _ _ _ h => h) (Or.inl ⟨by kernel_rfl, fun w hSw => ?_⟩) (by assumption) ?_
    · (try dsimp only at hSw); go_simp <;> (try rfl)
    change wpAnyH _ _ _ _ _ _ _ (Act.put _ (some (46 : Nat)) (.slice A n c)) _
    simp only [Act.put, List.setIfInBounds_toArray, List.set_cons_zero, List.set_cons_succ]
    refine wpAnyH_take (i := 7) (v := (.string (ba xs))) rfl (by kernel_rfl) (by kernel_rfl) (by kernel_rfl) (fun _ _ _ h => h) (yields_conv (by kernel_rfl) 43 9 (.tmp 46) rfl (.slice A n c) (by simp [Act.eval]) (.string (ba xs)) (fun W hW => run_string_by W 43 9 5 Try.underlying43 Try.underlying5 Try.underlying9 _ _ _ _ _ (HY4.out.through hW))) (by assumption) ?_
    change wpAnyH _ _ _ _ _ _ _ (Act.put _ (some (47 : Nat)) (.string (ba xs))) _
    simp only [Act.put, List.setIfInBounds_toArray, List.set_cons_zero, List.set_cons_succ]
    refine wpAnyH_ready (rs := [4]) (by kernel_rfl) (by simp) ?_
    refine AllReadyH.cons rfl (fun K hK => ?_) AllReadyH.nil
    go_simp
    refine ((HBy.out _ _ _ _ _ _ _ (HI4.out.through hHeld))).mono ?_
    rintro e w5 ⟨A5, n5, c5, rfl, hy5, _, _, hb5⟩; have HK5 := Lib.hid hb5; have HY5 := Lib.hid hy5; clear hb5 hy5
    go_wp2_with fail
    refine hK.out _ _ (below_step hHeld HK5.out) (fun hHeld1 => ?_)
    clear hHeld hK K
    have hHeld := hHeld1
    clear hHeld1
    refine wpAnyH_weaken (S' := fun W => (Below w4.heap.size w4 W) ∧ By W (fun _ => True) A5 n5 xs) (fun W h => h.1) _ _ _ _ ?_
    have hHeld2 := And.intro hHeld HY5.out
    clear hHeld
    have hHeld := hHeld2
    clear hHeld2
    refine wpAnyH_take (i := 5) (v := (.string (ba xs))) rfl (by kernel_rfl) (by kernel_rfl) (by kernel_rfl) (fun _ _ _ h => h) (yields_conv (by kernel_rfl) 43 9 (.tmp 44) rfl (.slice A5 n5 c5) (by simp [Act.eval]) (.string (ba xs)) (fun W hW => run_string_by W 43 9 5 Try.underlying43 Try.underlying5 Try.underlying9 _ _ _ _ _ (hW.2))) (by assumption) ?_
    change wpAnyH _ _ _ _ _ _ _ (Act.put _ (some (45 : Nat)) (.string (ba xs))) _
    simp only [Act.put, List.setIfInBounds_toArray, List.set_cons_zero, List.set_cons_succ]
    refine wpAnyH_take (i := 8) (v := (.bool true)) rfl (by kernel_rfl) (by kernel_rfl) (by kernel_rfl) (fun _ _ _ h => h) (Or.inl ⟨by kernel_rfl, fun w hSw => ?_⟩) (by assumption) ?_
    · (try dsimp only at hSw); go_simp <;> (try rfl)
    change wpAnyH _ _ _ _ _ _ _ (Act.put _ (some (48 : Nat)) (.bool true)) _
    simp only [Act.put, List.setIfInBounds_toArray, List.set_cons_zero, List.set_cons_succ]
    refine wpAnyH_take (i := 9) (v := (.bool true)) rfl (by kernel_rfl) (by kernel_rfl) (by kernel_rfl) (fun _ _ _ h => h) (Or.inl ⟨by kernel_rfl, fun w hSw => ?_⟩) (by assumption) ?_
    · (try dsimp only at hSw); go_simp <;> (try rfl)
    change wpAnyH _ _ _ _ _ _ _ (Act.put _ (some (49 : Nat)) (.bool true)) _
    simp only [Act.put, List.setIfInBounds_toArray, List.set_cons_zero, List.set_cons_succ]
    refine wpAnyH_take (i := 10) (v := (.bool true)) rfl (by kernel_rfl) (by kernel_rfl) (by kernel_rfl) (fun _ _ _ h => h) (Or.inl ⟨by kernel_rfl, fun w hSw => ?_⟩) (by assumption) ?_
    · (try dsimp only at hSw); go_simp <;> (try rfl)
    change wpAnyH _ _ _ _ _ _ _ (Act.put _ (some (2 : Nat)) (.bool true)) _
    simp only [Act.put, List.setIfInBounds_toArray, List.set_cons_zero, List.set_cons_succ]
    refine wpAnyH_done (by kernel_rfl) ?_ _
    have HXe := Lib.hid (below_step HX4.out hHeld.1)
    clear hHeld
    go_wp2
    go_ret
    exact ⟨rfl, HXe.out⟩


end Go.Proofs.Ytkbeodlihmmdbaa
