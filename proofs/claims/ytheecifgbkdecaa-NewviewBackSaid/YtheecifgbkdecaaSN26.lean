/-
  NvC
-/
import Derived.Test.YtheecifgbkdecaaSN25
import Derived.Test.YtheecifgbkdecaaSN20
import Derived.Test.YtheecifgbkdecaaSNT
namespace Go.Proofs.Ytheecifgbkdecaa
open Go.RowKit

set_option maxHeartbeats 64000000 in
set_option maxRecDepth 100000 in
theorem rcheck19_any (view : Int) (l : List Sg) (n : Int) (D : Option Addr) (k d : Nat) (w : World) (hp : SgsIn w D k l) (hkd : k ≤ d) (hdm : d ≤ maxLen) (hl : ∀ s ∈ l, (∀ p ∈ s.ch.pp, ∀ y ∈ p.es, y.co.lt.length ≤ 1000000) ∧ ∀ p ∈ s.ch.pd, ∀ y ∈ p.es, y.co.lt.length ≤ 1000000) :
  Calls Try.prog 25 #[.int .i64 view, .slice D k d, .int .i64 n] w fun e w' => e = .returned (.int .i64 (chkNv view l n)) ∧ Below w.heap.size w w' := by
 have HP := Lib.hid hp
 have HLn := Lib.hid hp.len
 have HLl := Lib.hid hl
 have hkm : k ≤ 9223372036854775807 := by simp only [maxLen] at hdm; omega
 unfold chkNv
 rw [hp.len]
 clear hp hl hkd hdm
 by_cases b1 : n < 1
 ·have d1 : decide (n < 1) = true := by simpa using b1
  rw [if_pos (by simp [badN, b1])]
  clear b1
  go_enter Try.func25, Try.ntmps25
  go_wp2
  go_ret
  exact ⟨rfl, Below.refl _ _⟩
 have d1 : decide (n < 1) = false := by simpa using b1
 by_cases b2 : 7 < n
 ·have d2 : decide (7 < n) = true := by simpa using b2
  rw [if_pos (by simp [badN, b2])]
  clear b1 b2
  go_enter Try.func25, Try.ntmps25
  go_wp2
  go_ret
  exact ⟨rfl, Below.refl _ _⟩
 have d2 : decide (7 < n) = false := by simpa using b2
 rw [if_neg (by simp [badN]; omega)]
 by_cases b3 : n < (k : Int)
 ·have d3 : decide (n < (k : Int)) = true := by simpa using b3
  rw [if_pos b3]
  clear b1 b2 b3
  go_enter Try.func25, Try.ntmps25
  go_wp2
  go_ret
  exact ⟨rfl, Below.refl _ _⟩
 have d3 : decide (n < (k : Int)) = false := by simpa using b3
 rw [if_neg b3]
 have HFa : Hid (∀ W : World, Calls Try.prog 31 #[.int .i64 n] W fun e w' => e = .returned (.int .i64 (fltN n)) ∧ w' = W) := Lib.hid (fun W => rfaults_any n (by omega) W)
 have hfl : 0 ≤ fltN n ∧ fltN n ≤ 2 := by unfold fltN; split <;> omega
 have hw1 : IntKind.i64.wrap (2 * fltN n) = 2 * fltN n := IntWalk.i64_in _ (by omega)
 have hw2 : IntKind.i64.wrap (2 * fltN n + 1) = 2 * fltN n + 1 := IntWalk.i64_in _ (by omega)
 generalize fltN n = f at *
 by_cases b4 : (k : Int) < 2 * f + 1
 ·have d4 : decide ((k : Int) < 2 * f + 1) = true := by simpa using b4
  rw [if_pos b4]
  clear b1 b2 b3 b4 hfl
  go_enter Try.func25, Try.ntmps25
  go_wp2_with (first
   | (go_at_call 31; (with_reducible refine (HFa.out _).mono ?_); rintro e wf ⟨rfl, hwf⟩; obtain rfl : w = wf := hwf.symm))
  go_ret
  exact ⟨rfl, Below.refl _ _⟩
 have d4 : decide ((k : Int) < 2 * f + 1) = false := by simpa using b4
 rw [if_neg b4]
 obtain ⟨er, her⟩ : ∃ e : Int, (if okNv view n none l = true then 0 else 2) = e := ⟨_, rfl⟩
 rw [her]
 have HE := Lib.hid her
 have HN7 : Hid (1 ≤ n ∧ n ≤ 7) := Lib.hid (by omega)
 clear b1 b2 b3 b4 her hfl
 go_enter Try.func25, Try.ntmps25
 go_wp2_with (first
  | (go_at_call 31; (with_reducible refine (HFa.out _).mono ?_); rintro e wf ⟨rfl, hwf⟩; obtain rfl : w = wf := hwf.symm))
 clear hw1 hw2 d1 d2 d3 d4
 go_loopw [28] (fun iv wr => ∃ i : Nat, i ≤ k ∧ iv = .int .i64 (i : Int) ∧ er = (if okNv view n (if i = 0 then none else (l[i - 1]?).map (·.fr)) (l.drop i) = true then 0 else 2) ∧ Below w.heap.size w wr) (fun iv _ => k - (intOf iv).toNat)
 case atStart => exact ⟨0, Nat.zero_le _, rfl, HE.out.symm, Below.refl _ _⟩
 case round =>
  obtain ⟨i, hi, rfl, hq, hx⟩ := hrel
  have HXv := Lib.hid hx
  clear hx
  by_cases hlt : i < k
  ·obtain ⟨g, o, s, P, Q, R, rfl, hsi, hmem, hdd, hrx, hci⟩ := (HP.out.through HXv.out).at hlt
   have HRx := Lib.hid hrx
   have hix := fun (W : World) => Try.ix_sg W g o k d i hlt
   have HBx : Hid (Blk (wr.alloc (.cells #[.int .i64 s.fr, .int .i64 s.ch.vw, .int .i64 s.ch.lw, .slice P.1 P.2.1 P.2.2, .slice Q.1 Q.2.1 Q.2.2, .slice R.1 R.2.1 R.2.2] 106)) wr.heap.size 106 [.int .i64 s.fr, .int .i64 s.ch.vw, .int .i64 s.ch.lw, .slice P.1 P.2.1 P.2.2, .slice Q.1 Q.2.1 Q.2.2, .slice R.1 R.2.1 R.2.2]) := Lib.hid (Blk.fresh rfl rfl)
   have HXx : Hid (Below w.heap.size w (wr.alloc (.cells #[.int .i64 s.fr, .int .i64 s.ch.vw, .int .i64 s.ch.lw, .slice P.1 P.2.1 P.2.2, .slice Q.1 Q.2.1 Q.2.2, .slice R.1 R.2.1 R.2.2] 106))) := Lib.hid (HXv.out.alloc HXv.out.size _)
   have HRc : Hid ((wr.alloc (.cells #[.int .i64 s.fr, .int .i64 s.ch.vw, .int .i64 s.ch.lw, .slice P.1 P.2.1 P.2.2, .slice Q.1 Q.2.1 Q.2.2, .slice R.1 R.2.1 R.2.2] 106)).rangeAt wr.heap.size 1 (Ch.cells s.ch P Q R)) := Lib.hid (Blk.range (pre := [.int .i64 s.fr]) (post := []) (by simpa [Ch.cells] using HBx.out))
   have HIx : Hid (ChIn (wr.alloc (.cells #[.int .i64 s.fr, .int .i64 s.ch.vw, .int .i64 s.ch.lw, .slice P.1 P.2.1 P.2.2, .slice Q.1 Q.2.1 Q.2.2, .slice R.1 R.2.1 R.2.2] 106)) P Q R s.ch) := Lib.hid (hci.through (below1_ wr _))
   obtain ⟨rb, hrb⟩ : ∃ b, rightB s.ch n = b := ⟨_, rfl⟩
   have HRi : Hid (∀ W : World, ChIn W P Q R s.ch → Calls Try.prog 20 #[.agg (Ch.cells s.ch P Q R).toArray, .int .i64 n] W fun e w' => e = .returned (.bool rb) ∧ Below W.heap.size W w') := Lib.hid (fun W h9 => hrb ▸ rright_any s.ch P Q R n W h9 (HLl.out s hmem).1 (HLl.out s hmem).2)
   clear hrx hci hmem
   by_cases h1 : s.fr < 0
   ·have d1 : decide (s.fr < 0) = true := by simpa using h1
    have HF : Hid (er = 2) := Lib.hid (by rw [hq, hdd]; have h9 : decide (0 ≤ s.fr) = false := (by simpa using h1); simp [okNv, h9])
    clear hq hdd hrb h1 hsi
    go_wp2_with (first
     | (refine wpList_load_mid rfl 106 (.tmp 31) rfl g (o + i * 6) rfl [.int .i64 s.fr, .int .i64 s.ch.vw, .int .i64 s.ch.lw, .slice P.1 P.2.1 P.2.2, .slice Q.1 Q.2.1 Q.2.2, .slice R.1 R.2.1 R.2.2] _ HRx.out Try.underlying106 rfl (by kernel_rfl) ?_))
    try dsimp only [Act.put]
    refine wp_region_held_drew (S := fun W => Below (wr.alloc (.cells #[.int .i64 s.fr, .int .i64 s.ch.vw, .int .i64 s.ch.lw, .slice P.1 P.2.1 P.2.2, .slice Q.1 Q.2.1 Q.2.2, .slice R.1 R.2.1 R.2.2] 106)).heap.size (wr.alloc (.cells #[.int .i64 s.fr, .int .i64 s.ch.vw, .int .i64 s.ch.lw, .slice P.1 P.2.1 P.2.2, .slice Q.1 Q.2.1 Q.2.2, .slice R.1 R.2.1 R.2.2] 106)) W) (by kernel_rfl) (Below.refl _ _).drew (fun hHeld => ?_)
    change wpAnyH _ _ _ _ _ _ #[false, false, false, false, false, false, false, false, false, false, false, false, false, false, false, false, false, false, false, false, false, false, false, false, false, false, false, false, false, false, false, false, false, false, false, false, false, false] _ _
    refine tkq (i := 0) (d := 33) (v := (.pointer (some ⟨wr.heap.size, 0, none⟩))) rfl rfl (Or.inl ⟨by kernel_rfl, fun w hSw => ?_⟩) (by assumption) ?_
    ·(try dsimp only at hSw); go_simp <;> (try rfl)
    simp only [Act.put, sq1, sq2, sq3]
    refine tkq (i := 1) (d := 34) (v := (.int .i64 s.fr)) rfl rfl (yields_load_at (by kernel_rfl) 3 (.tmp 33) rfl (.pointer (some ⟨wr.heap.size, 0, none⟩)) (by simp [Act.eval]) (.int .i64 s.fr) (fun W hW => load_one' (Try.agg_int W) ((HBx.out.through hW).cellAt (i := 0) rfl))) (by assumption) ?_
    simp only [Act.put, sq1, sq2, sq3]
    refine tkq (i := 2) (d := 35) (v := (.bool true)) rfl rfl (Or.inl ⟨by kernel_rfl, fun w hSw => ?_⟩) (by assumption) ?_
    ·(try dsimp only at hSw); go_simp <;> (try rfl)
    simp only [Act.put, sq1, sq2, sq3]
    refine tkq (i := 3) (d := 36) (v := (.bool true)) rfl rfl (Or.inl ⟨by kernel_rfl, fun w hSw => ?_⟩) (by assumption) ?_
    ·(try dsimp only at hSw); go_simp <;> (try rfl)
    simp only [Act.put, sq1, sq2, sq3]
    refine tkv (i := 4) (d := 37) rfl rfl (by assumption) ?_
    simp only [Act.put, sq1, sq2, sq3]
    refine tkv (i := 5) (d := 38) rfl rfl (by assumption) ?_
    simp only [Act.put, sq1, sq2, sq3]
    refine tkv (i := 6) (d := 39) rfl rfl (by assumption) ?_
    simp only [Act.put, sq1, sq2, sq3]
    refine tkv (i := 7) (d := 40) rfl rfl (by assumption) ?_
    simp only [Act.put, sq1, sq2, sq3]
    refine tkq (i := 8) (d := 41) (v := (.bool true)) rfl rfl (Or.inl ⟨by kernel_rfl, fun w hSw => ?_⟩) (by assumption) ?_
    ·(try dsimp only at hSw); go_simp <;> (try rfl)
    simp only [Act.put, sq1, sq2, sq3]
    refine tkq (i := 9) (d := 42) (v := (.bool true)) rfl rfl (Or.inl ⟨by kernel_rfl, fun w hSw => ?_⟩) (by assumption) ?_
    ·(try dsimp only at hSw); go_simp <;> (try rfl)
    simp only [Act.put, sq1, sq2, sq3]
    refine tkv (i := 10) (d := 43) rfl rfl (by assumption) ?_
    simp only [Act.put, sq1, sq2, sq3]
    refine tkv (i := 11) (d := 44) rfl rfl (by assumption) ?_
    simp only [Act.put, sq1, sq2, sq3]
    refine tkv (i := 12) (d := 45) rfl rfl (by assumption) ?_
    simp only [Act.put, sq1, sq2, sq3]
    refine tkv (i := 13) (d := 46) rfl rfl (by assumption) ?_
    simp only [Act.put, sq1, sq2, sq3]
    refine tkv (i := 14) (d := 47) rfl rfl (by assumption) ?_
    simp only [Act.put, sq1, sq2, sq3]
    refine tkv (i := 15) (d := 48) rfl rfl (by assumption) ?_
    simp only [Act.put, sq1, sq2, sq3]
    refine tkv (i := 16) (d := 49) rfl rfl (by assumption) ?_
    simp only [Act.put, sq1, sq2, sq3]
    refine tkv (i := 17) (d := 50) rfl rfl (by assumption) ?_
    simp only [Act.put, sq1, sq2, sq3]
    refine tkv (i := 18) (d := 51) rfl rfl (by assumption) ?_
    simp only [Act.put, sq1, sq2, sq3]
    refine tkv (i := 19) (d := 52) rfl rfl (by assumption) ?_
    simp only [Act.put, sq1, sq2, sq3]
    refine tkv (i := 20) (d := 53) rfl rfl (by assumption) ?_
    simp only [Act.put, sq1, sq2, sq3]
    refine tkv (i := 21) (d := 54) rfl rfl (by assumption) ?_
    simp only [Act.put, sq1, sq2, sq3]
    refine tkv (i := 22) (d := 55) rfl rfl (by assumption) ?_
    simp only [Act.put, sq1, sq2, sq3]
    refine tkq (i := 23) (d := 56) (v := (.bool true)) rfl rfl (Or.inl ⟨by kernel_rfl, fun w hSw => ?_⟩) (by assumption) ?_
    ·(try dsimp only at hSw); go_simp <;> (try rfl)
    simp only [Act.put, sq1, sq2, sq3]
    refine tkq (i := 24) (d := 57) (v := (.bool true)) rfl rfl (Or.inl ⟨by kernel_rfl, fun w hSw => ?_⟩) (by assumption) ?_
    ·(try dsimp only at hSw); go_simp <;> (try rfl)
    simp only [Act.put, sq1, sq2, sq3]
    refine tkv (i := 25) (d := 58) rfl rfl (by assumption) ?_
    simp only [Act.put, sq1, sq2, sq3]
    refine tkv (i := 26) (d := 59) rfl rfl (by assumption) ?_
    simp only [Act.put, sq1, sq2, sq3]
    refine tkv (i := 27) (d := 60) rfl rfl (by assumption) ?_
    simp only [Act.put, sq1, sq2, sq3]
    refine tkv (i := 28) (d := 61) rfl rfl (by assumption) ?_
    simp only [Act.put, sq1, sq2, sq3]
    refine tkv (i := 29) (d := 62) rfl rfl (by assumption) ?_
    simp only [Act.put, sq1, sq2, sq3]
    refine tkq (i := 30) (d := 63) (v := (.bool true)) rfl rfl (Or.inl ⟨by kernel_rfl, fun w hSw => ?_⟩) (by assumption) ?_
    ·(try dsimp only at hSw); go_simp <;> (try rfl)
    simp only [Act.put, sq1, sq2, sq3]
    refine tkq (i := 31) (d := 64) (v := (.bool true)) rfl rfl (Or.inl ⟨by kernel_rfl, fun w hSw => ?_⟩) (by assumption) ?_
    ·(try dsimp only at hSw); go_simp <;> (try rfl)
    simp only [Act.put, sq1, sq2, sq3]
    refine tkv (i := 32) (d := 65) rfl rfl (by assumption) ?_
    simp only [Act.put, sq1, sq2, sq3]
    refine tkv (i := 33) (d := 66) rfl rfl (by assumption) ?_
    simp only [Act.put, sq1, sq2, sq3]
    refine tkv (i := 34) (d := 67) rfl rfl (by assumption) ?_
    simp only [Act.put, sq1, sq2, sq3]
    refine tkv (i := 35) (d := 68) rfl rfl (by assumption) ?_
    simp only [Act.put, sq1, sq2, sq3]
    refine tkv (i := 36) (d := 69) rfl rfl (by assumption) ?_
    simp only [Act.put, sq1, sq2, sq3]
    refine tkq (i := 37) (d := 70) (v := (.bool true)) rfl rfl (Or.inl ⟨by kernel_rfl, fun w hSw => ?_⟩) (by assumption) ?_
    ·(try dsimp only at hSw); go_simp <;> (try rfl)
    simp only [Act.put, sq1, sq2, sq3]
    refine wpAnyH_done (by kernel_rfl) ?_ _
    have HKk := Lib.hid hHeld
    clear hHeld
    go_wp2
    go_ret
    exact ⟨(by rw [HF.out] <;> rfl), below_step HXx.out HKk.out⟩
   have d1 : decide (s.fr < 0) = false := by simpa using h1
   have e1_ : decide (0 ≤ s.fr) = true := by simp; omega
   by_cases h2 : n ≤ s.fr
   ·have d2 : decide (n ≤ s.fr) = true := by simpa using h2
    have HF : Hid (er = 2) := Lib.hid (by rw [hq, hdd]; have h9 : decide (s.fr < n) = false := (by simpa using h2); simp [okNv, h9])
    clear hq hdd hrb h1 h2 hsi e1_
    go_wp2_with (first
     | (refine wpList_load_mid rfl 106 (.tmp 31) rfl g (o + i * 6) rfl [.int .i64 s.fr, .int .i64 s.ch.vw, .int .i64 s.ch.lw, .slice P.1 P.2.1 P.2.2, .slice Q.1 Q.2.1 Q.2.2, .slice R.1 R.2.1 R.2.2] _ HRx.out Try.underlying106 rfl (by kernel_rfl) ?_))
    try dsimp only [Act.put]
    refine wp_region_held_drew (S := fun W => Below (wr.alloc (.cells #[.int .i64 s.fr, .int .i64 s.ch.vw, .int .i64 s.ch.lw, .slice P.1 P.2.1 P.2.2, .slice Q.1 Q.2.1 Q.2.2, .slice R.1 R.2.1 R.2.2] 106)).heap.size (wr.alloc (.cells #[.int .i64 s.fr, .int .i64 s.ch.vw, .int .i64 s.ch.lw, .slice P.1 P.2.1 P.2.2, .slice Q.1 Q.2.1 Q.2.2, .slice R.1 R.2.1 R.2.2] 106)) W) (by kernel_rfl) (Below.refl _ _).drew (fun hHeld => ?_)
    change wpAnyH _ _ _ _ _ _ #[false, false, false, false, false, false, false, false, false, false, false, false, false, false, false, false, false, false, false, false, false, false, false, false, false, false, false, false, false, false, false, false, false, false, false, false, false, false] _ _
    refine tkq (i := 0) (d := 33) (v := (.pointer (some ⟨wr.heap.size, 0, none⟩))) rfl rfl (Or.inl ⟨by kernel_rfl, fun w hSw => ?_⟩) (by assumption) ?_
    ·(try dsimp only at hSw); go_simp <;> (try rfl)
    simp only [Act.put, sq1, sq2, sq3]
    refine tkq (i := 1) (d := 34) (v := (.int .i64 s.fr)) rfl rfl (yields_load_at (by kernel_rfl) 3 (.tmp 33) rfl (.pointer (some ⟨wr.heap.size, 0, none⟩)) (by simp [Act.eval]) (.int .i64 s.fr) (fun W hW => load_one' (Try.agg_int W) ((HBx.out.through hW).cellAt (i := 0) rfl))) (by assumption) ?_
    simp only [Act.put, sq1, sq2, sq3]
    refine tkq (i := 2) (d := 35) (v := (.bool false)) rfl rfl (Or.inl ⟨by kernel_rfl, fun w hSw => ?_⟩) (by assumption) ?_
    ·(try dsimp only at hSw); go_simp <;> (try rfl)
    simp only [Act.put, sq1, sq2, sq3]
    refine tkq (i := 3) (d := 36) (v := (.bool false)) rfl rfl (Or.inl ⟨by kernel_rfl, fun w hSw => ?_⟩) (by assumption) ?_
    ·(try dsimp only at hSw); go_simp <;> (try rfl)
    simp only [Act.put, sq1, sq2, sq3]
    refine tkq (i := 4) (d := 37) (v := (.pointer (some ⟨wr.heap.size, 0, none⟩))) rfl rfl (Or.inl ⟨by kernel_rfl, fun w hSw => ?_⟩) (by assumption) ?_
    ·(try dsimp only at hSw); go_simp <;> (try rfl)
    simp only [Act.put, sq1, sq2, sq3]
    refine tkq (i := 5) (d := 38) (v := (.int .i64 s.fr)) rfl rfl (yields_load_at (by kernel_rfl) 3 (.tmp 37) rfl (.pointer (some ⟨wr.heap.size, 0, none⟩)) (by simp [Act.eval]) (.int .i64 s.fr) (fun W hW => load_one' (Try.agg_int W) ((HBx.out.through hW).cellAt (i := 0) rfl))) (by assumption) ?_
    simp only [Act.put, sq1, sq2, sq3]
    refine tkq (i := 6) (d := 39) (v := (.int .i64 n)) rfl rfl (Or.inl ⟨by kernel_rfl, fun w hSw => ?_⟩) (by assumption) ?_
    ·(try dsimp only at hSw); go_simp <;> (try rfl)
    simp only [Act.put, sq1, sq2, sq3]
    refine tkq (i := 7) (d := 40) (v := (.bool true)) rfl rfl (Or.inl ⟨by kernel_rfl, fun w hSw => ?_⟩) (by assumption) ?_
    ·(try dsimp only at hSw); go_simp <;> (try rfl)
    simp only [Act.put, sq1, sq2, sq3]
    refine tkq (i := 8) (d := 41) (v := (.bool true)) rfl rfl (Or.inl ⟨by kernel_rfl, fun w hSw => ?_⟩) (by assumption) ?_
    ·(try dsimp only at hSw); go_simp <;> (try rfl)
    simp only [Act.put, sq1, sq2, sq3]
    refine tkq (i := 9) (d := 42) (v := (.bool true)) rfl rfl (Or.inl ⟨by kernel_rfl, fun w hSw => ?_⟩) (by assumption) ?_
    ·(try dsimp only at hSw); go_simp <;> (try rfl)
    simp only [Act.put, sq1, sq2, sq3]
    refine tkv (i := 10) (d := 43) rfl rfl (by assumption) ?_
    simp only [Act.put, sq1, sq2, sq3]
    refine tkv (i := 11) (d := 44) rfl rfl (by assumption) ?_
    simp only [Act.put, sq1, sq2, sq3]
    refine tkv (i := 12) (d := 45) rfl rfl (by assumption) ?_
    simp only [Act.put, sq1, sq2, sq3]
    refine tkv (i := 13) (d := 46) rfl rfl (by assumption) ?_
    simp only [Act.put, sq1, sq2, sq3]
    refine tkv (i := 14) (d := 47) rfl rfl (by assumption) ?_
    simp only [Act.put, sq1, sq2, sq3]
    refine tkv (i := 15) (d := 48) rfl rfl (by assumption) ?_
    simp only [Act.put, sq1, sq2, sq3]
    refine tkv (i := 16) (d := 49) rfl rfl (by assumption) ?_
    simp only [Act.put, sq1, sq2, sq3]
    refine tkv (i := 17) (d := 50) rfl rfl (by assumption) ?_
    simp only [Act.put, sq1, sq2, sq3]
    refine tkv (i := 18) (d := 51) rfl rfl (by assumption) ?_
    simp only [Act.put, sq1, sq2, sq3]
    refine tkv (i := 19) (d := 52) rfl rfl (by assumption) ?_
    simp only [Act.put, sq1, sq2, sq3]
    refine tkv (i := 20) (d := 53) rfl rfl (by assumption) ?_
    simp only [Act.put, sq1, sq2, sq3]
    refine tkv (i := 21) (d := 54) rfl rfl (by assumption) ?_
    simp only [Act.put, sq1, sq2, sq3]
    refine tkv (i := 22) (d := 55) rfl rfl (by assumption) ?_
    simp only [Act.put, sq1, sq2, sq3]
    refine tkq (i := 23) (d := 56) (v := (.bool true)) rfl rfl (Or.inl ⟨by kernel_rfl, fun w hSw => ?_⟩) (by assumption) ?_
    ·(try dsimp only at hSw); go_simp <;> (try rfl)
    simp only [Act.put, sq1, sq2, sq3]
    refine tkq (i := 24) (d := 57) (v := (.bool true)) rfl rfl (Or.inl ⟨by kernel_rfl, fun w hSw => ?_⟩) (by assumption) ?_
    ·(try dsimp only at hSw); go_simp <;> (try rfl)
    simp only [Act.put, sq1, sq2, sq3]
    refine tkv (i := 25) (d := 58) rfl rfl (by assumption) ?_
    simp only [Act.put, sq1, sq2, sq3]
    refine tkv (i := 26) (d := 59) rfl rfl (by assumption) ?_
    simp only [Act.put, sq1, sq2, sq3]
    refine tkv (i := 27) (d := 60) rfl rfl (by assumption) ?_
    simp only [Act.put, sq1, sq2, sq3]
    refine tkv (i := 28) (d := 61) rfl rfl (by assumption) ?_
    simp only [Act.put, sq1, sq2, sq3]
    refine tkv (i := 29) (d := 62) rfl rfl (by assumption) ?_
    simp only [Act.put, sq1, sq2, sq3]
    refine tkq (i := 30) (d := 63) (v := (.bool true)) rfl rfl (Or.inl ⟨by kernel_rfl, fun w hSw => ?_⟩) (by assumption) ?_
    ·(try dsimp only at hSw); go_simp <;> (try rfl)
    simp only [Act.put, sq1, sq2, sq3]
    refine tkq (i := 31) (d := 64) (v := (.bool true)) rfl rfl (Or.inl ⟨by kernel_rfl, fun w hSw => ?_⟩) (by assumption) ?_
    ·(try dsimp only at hSw); go_simp <;> (try rfl)
    simp only [Act.put, sq1, sq2, sq3]
    refine tkv (i := 32) (d := 65) rfl rfl (by assumption) ?_
    simp only [Act.put, sq1, sq2, sq3]
    refine tkv (i := 33) (d := 66) rfl rfl (by assumption) ?_
    simp only [Act.put, sq1, sq2, sq3]
    refine tkv (i := 34) (d := 67) rfl rfl (by assumption) ?_
    simp only [Act.put, sq1, sq2, sq3]
    refine tkv (i := 35) (d := 68) rfl rfl (by assumption) ?_
    simp only [Act.put, sq1, sq2, sq3]
    refine tkv (i := 36) (d := 69) rfl rfl (by assumption) ?_
    simp only [Act.put, sq1, sq2, sq3]
    refine tkq (i := 37) (d := 70) (v := (.bool true)) rfl rfl (Or.inl ⟨by kernel_rfl, fun w hSw => ?_⟩) (by assumption) ?_
    ·(try dsimp only at hSw); go_simp <;> (try rfl)
    simp only [Act.put, sq1, sq2, sq3]
    refine wpAnyH_done (by kernel_rfl) ?_ _
    have HKk := Lib.hid hHeld
    clear hHeld
    go_wp2
    go_ret
    exact ⟨(by rw [HF.out] <;> rfl), below_step HXx.out HKk.out⟩
   have d2 : decide (n ≤ s.fr) = false := by simpa using h2
   have e2_ : decide (s.fr < n) = true := by simp; omega
   by_cases h0 : i = 0
   case pos =>
    have hdz : decide ((0 : Int) < (i : Int)) = false := decide_eq_false (by omega)
    have hdz2 : decide (0 < i) = false := decide_eq_false (by omega)
    have hsz : l[i + 1 - 1]? = some s := by simpa using hsi
    rw [if_pos h0] at hq
    by_cases h3 : s.ch.vw = view
    case neg =>
     have d3 : (s.ch.vw == view) = false := by simpa using h3
     have d3b : (s.ch.vw != view) = true := by simpa using h3
     have HF : Hid (er = 2) := Lib.hid (by rw [hq, hdd]; simp [okNv, h3])
     clear hq hdd hrb h1 h2 hsi e1_ e2_ h3 hsz h0
     go_wp2_with (first
      | (refine wpList_load_mid rfl 106 (.tmp 31) rfl g (o + i * 6) rfl [.int .i64 s.fr, .int .i64 s.ch.vw, .int .i64 s.ch.lw, .slice P.1 P.2.1 P.2.2, .slice Q.1 Q.2.1 Q.2.2, .slice R.1 R.2.1 R.2.2] _ HRx.out Try.underlying106 rfl (by kernel_rfl) ?_))
     try dsimp only [Act.put]
     refine wp_region_held_drew (S := fun W => Below (wr.alloc (.cells #[.int .i64 s.fr, .int .i64 s.ch.vw, .int .i64 s.ch.lw, .slice P.1 P.2.1 P.2.2, .slice Q.1 Q.2.1 Q.2.2, .slice R.1 R.2.1 R.2.2] 106)).heap.size (wr.alloc (.cells #[.int .i64 s.fr, .int .i64 s.ch.vw, .int .i64 s.ch.lw, .slice P.1 P.2.1 P.2.2, .slice Q.1 Q.2.1 Q.2.2, .slice R.1 R.2.1 R.2.2] 106)) W) (by kernel_rfl) (Below.refl _ _).drew (fun hHeld => ?_)
     change wpAnyH _ _ _ _ _ _ #[false, false, false, false, false, false, false, false, false, false, false, false, false, false, false, false, false, false, false, false, false, false, false, false, false, false, false, false, false, false, false, false, false, false, false, false, false, false] _ _
     refine tkq (i := 0) (d := 33) (v := (.pointer (some ⟨wr.heap.size, 0, none⟩))) rfl rfl (Or.inl ⟨by kernel_rfl, fun w hSw => ?_⟩) (by assumption) ?_
     ·(try dsimp only at hSw); go_simp <;> (try rfl)
     simp only [Act.put, sq1, sq2, sq3]
     refine tkq (i := 1) (d := 34) (v := (.int .i64 s.fr)) rfl rfl (yields_load_at (by kernel_rfl) 3 (.tmp 33) rfl (.pointer (some ⟨wr.heap.size, 0, none⟩)) (by simp [Act.eval]) (.int .i64 s.fr) (fun W hW => load_one' (Try.agg_int W) ((HBx.out.through hW).cellAt (i := 0) rfl))) (by assumption) ?_
     simp only [Act.put, sq1, sq2, sq3]
     refine tkq (i := 2) (d := 35) (v := (.bool false)) rfl rfl (Or.inl ⟨by kernel_rfl, fun w hSw => ?_⟩) (by assumption) ?_
     ·(try dsimp only at hSw); go_simp <;> (try rfl)
     simp only [Act.put, sq1, sq2, sq3]
     refine tkq (i := 3) (d := 36) (v := (.bool false)) rfl rfl (Or.inl ⟨by kernel_rfl, fun w hSw => ?_⟩) (by assumption) ?_
     ·(try dsimp only at hSw); go_simp <;> (try rfl)
     simp only [Act.put, sq1, sq2, sq3]
     refine tkq (i := 4) (d := 37) (v := (.pointer (some ⟨wr.heap.size, 0, none⟩))) rfl rfl (Or.inl ⟨by kernel_rfl, fun w hSw => ?_⟩) (by assumption) ?_
     ·(try dsimp only at hSw); go_simp <;> (try rfl)
     simp only [Act.put, sq1, sq2, sq3]
     refine tkq (i := 5) (d := 38) (v := (.int .i64 s.fr)) rfl rfl (yields_load_at (by kernel_rfl) 3 (.tmp 37) rfl (.pointer (some ⟨wr.heap.size, 0, none⟩)) (by simp [Act.eval]) (.int .i64 s.fr) (fun W hW => load_one' (Try.agg_int W) ((HBx.out.through hW).cellAt (i := 0) rfl))) (by assumption) ?_
     simp only [Act.put, sq1, sq2, sq3]
     refine tkq (i := 6) (d := 39) (v := (.int .i64 n)) rfl rfl (Or.inl ⟨by kernel_rfl, fun w hSw => ?_⟩) (by assumption) ?_
     ·(try dsimp only at hSw); go_simp <;> (try rfl)
     simp only [Act.put, sq1, sq2, sq3]
     refine tkq (i := 7) (d := 40) (v := (.bool false)) rfl rfl (Or.inl ⟨by kernel_rfl, fun w hSw => ?_⟩) (by assumption) ?_
     ·(try dsimp only at hSw); go_simp <;> (try rfl)
     simp only [Act.put, sq1, sq2, sq3]
     refine tkq (i := 8) (d := 41) (v := (.bool false)) rfl rfl (Or.inl ⟨by kernel_rfl, fun w hSw => ?_⟩) (by assumption) ?_
     ·(try dsimp only at hSw); go_simp <;> (try rfl)
     simp only [Act.put, sq1, sq2, sq3]
     refine tkq (i := 9) (d := 42) (v := (.bool false)) rfl rfl (Or.inl ⟨by kernel_rfl, fun w hSw => ?_⟩) (by assumption) ?_
     ·(try dsimp only at hSw); go_simp <;> (try rfl)
     simp only [Act.put, sq1, sq2, sq3]
     refine tkq (i := 10) (d := 43) (v := (.int .i64 (i : Int))) rfl rfl (Or.inl ⟨by kernel_rfl, fun w hSw => ?_⟩) (by assumption) ?_
     ·(try dsimp only at hSw); go_simp <;> (try rfl)
     simp only [Act.put, sq1, sq2, sq3]
     refine tkq (i := 11) (d := 44) (v := (.bool false)) rfl rfl (Or.inl ⟨by kernel_rfl, fun w hSw => ?_⟩) (by assumption) ?_
     ·(try dsimp only at hSw); go_simp <;> (try rfl)
     simp only [Act.put, sq1, sq2, sq3]
     refine tkq (i := 12) (d := 45) (v := (.bool false)) rfl rfl (Or.inl ⟨by kernel_rfl, fun w hSw => ?_⟩) (by assumption) ?_
     ·(try dsimp only at hSw); go_simp <;> (try rfl)
     simp only [Act.put, sq1, sq2, sq3]
     refine tkv (i := 13) (d := 46) rfl rfl (by assumption) ?_
     simp only [Act.put, sq1, sq2, sq3]
     refine tkv (i := 14) (d := 47) rfl rfl (by assumption) ?_
     simp only [Act.put, sq1, sq2, sq3]
     refine tkv (i := 15) (d := 48) rfl rfl (by assumption) ?_
     simp only [Act.put, sq1, sq2, sq3]
     refine tkv (i := 16) (d := 49) rfl rfl (by assumption) ?_
     simp only [Act.put, sq1, sq2, sq3]
     refine tkv (i := 17) (d := 50) rfl rfl (by assumption) ?_
     simp only [Act.put, sq1, sq2, sq3]
     refine tkv (i := 18) (d := 51) rfl rfl (by assumption) ?_
     simp only [Act.put, sq1, sq2, sq3]
     refine tkv (i := 19) (d := 52) rfl rfl (by assumption) ?_
     simp only [Act.put, sq1, sq2, sq3]
     refine tkv (i := 20) (d := 53) rfl rfl (by assumption) ?_
     simp only [Act.put, sq1, sq2, sq3]
     refine tkv (i := 21) (d := 54) rfl rfl (by assumption) ?_
     simp only [Act.put, sq1, sq2, sq3]
     refine tkq (i := 22) (d := 55) (v := (.bool false)) rfl rfl (Or.inl ⟨by kernel_rfl, fun w hSw => ?_⟩) (by assumption) ?_
     ·(try dsimp only at hSw); go_simp <;> (try rfl)
     simp only [Act.put, sq1, sq2, sq3]
     refine tkq (i := 23) (d := 56) (v := (.bool false)) rfl rfl (Or.inl ⟨by kernel_rfl, fun w hSw => ?_⟩) (by assumption) ?_
     ·(try dsimp only at hSw); go_simp <;> (try rfl)
     simp only [Act.put, sq1, sq2, sq3]
     refine tkq (i := 24) (d := 57) (v := (.bool false)) rfl rfl (Or.inl ⟨by kernel_rfl, fun w hSw => ?_⟩) (by assumption) ?_
     ·(try dsimp only at hSw); go_simp <;> (try rfl)
     simp only [Act.put, sq1, sq2, sq3]
     refine tkq (i := 25) (d := 58) (v := (.pointer (some ⟨wr.heap.size, 1, none⟩))) rfl rfl (Or.inl ⟨by kernel_rfl, fun w hSw => ?_⟩) (by assumption) ?_
     ·(try dsimp only at hSw); go_simp <;> (try rfl)
     simp only [Act.put, sq1, sq2, sq3]
     refine tkq (i := 26) (d := 59) (v := (.pointer (some ⟨wr.heap.size, 1, none⟩))) rfl rfl (Or.inl ⟨by kernel_rfl, fun w hSw => ?_⟩) (by assumption) ?_
     ·(try dsimp only at hSw); go_simp <;> (try rfl)
     simp only [Act.put, sq1, sq2, sq3]
     refine tkq (i := 27) (d := 60) (v := (.int .i64 s.ch.vw)) rfl rfl (yields_load_at (by kernel_rfl) 2 (.tmp 59) rfl (.pointer (some ⟨wr.heap.size, 1, none⟩)) (by simp [Act.eval]) (.int .i64 s.ch.vw) (fun W hW => load_one' (Try.agg_i64 W) ((HBx.out.through hW).cellAt (i := 1) rfl))) (by assumption) ?_
     simp only [Act.put, sq1, sq2, sq3]
     refine tkq (i := 28) (d := 61) (v := (.int .i64 view)) rfl rfl (Or.inl ⟨by kernel_rfl, fun w hSw => ?_⟩) (by assumption) ?_
     ·(try dsimp only at hSw); go_simp <;> (try rfl)
     simp only [Act.put, sq1, sq2, sq3]
     refine tkq (i := 29) (d := 62) (v := (.bool true)) rfl rfl (Or.inl ⟨by kernel_rfl, fun w hSw => ?_⟩) (by assumption) ?_
     ·(try dsimp only at hSw); go_simp <;> (try rfl)
     simp only [Act.put, sq1, sq2, sq3]
     refine tkq (i := 30) (d := 63) (v := (.bool true)) rfl rfl (Or.inl ⟨by kernel_rfl, fun w hSw => ?_⟩) (by assumption) ?_
     ·(try dsimp only at hSw); go_simp <;> (try rfl)
     simp only [Act.put, sq1, sq2, sq3]
     refine tkq (i := 31) (d := 64) (v := (.bool true)) rfl rfl (Or.inl ⟨by kernel_rfl, fun w hSw => ?_⟩) (by assumption) ?_
     ·(try dsimp only at hSw); go_simp <;> (try rfl)
     simp only [Act.put, sq1, sq2, sq3]
     refine tkv (i := 32) (d := 65) rfl rfl (by assumption) ?_
     simp only [Act.put, sq1, sq2, sq3]
     refine tkv (i := 33) (d := 66) rfl rfl (by assumption) ?_
     simp only [Act.put, sq1, sq2, sq3]
     refine tkv (i := 34) (d := 67) rfl rfl (by assumption) ?_
     simp only [Act.put, sq1, sq2, sq3]
     refine tkv (i := 35) (d := 68) rfl rfl (by assumption) ?_
     simp only [Act.put, sq1, sq2, sq3]
     refine tkv (i := 36) (d := 69) rfl rfl (by assumption) ?_
     simp only [Act.put, sq1, sq2, sq3]
     refine tkq (i := 37) (d := 70) (v := (.bool true)) rfl rfl (Or.inl ⟨by kernel_rfl, fun w hSw => ?_⟩) (by assumption) ?_
     ·(try dsimp only at hSw); go_simp <;> (try rfl)
     simp only [Act.put, sq1, sq2, sq3]
     refine wpAnyH_done (by kernel_rfl) ?_ _
     have HKk := Lib.hid hHeld
     clear hHeld
     go_wp2
     go_ret
     exact ⟨(by rw [HF.out] <;> rfl), below_step HXx.out HKk.out⟩
    have d3 : (s.ch.vw == view) = true := by simpa using h3
    have d3b : (s.ch.vw != view) = false := by simpa using h3
    cases rb with
    | false =>
     have HF : Hid (er = 2) := Lib.hid (by rw [hq, hdd]; simp [okNv, hrb])
     clear hq hdd hrb h1 h2 hsi e1_ e2_ h3 hsz h0
     go_wp2_with (first
      | (refine wpList_load_mid rfl 106 (.tmp 31) rfl g (o + i * 6) rfl [.int .i64 s.fr, .int .i64 s.ch.vw, .int .i64 s.ch.lw, .slice P.1 P.2.1 P.2.2, .slice Q.1 Q.2.1 Q.2.2, .slice R.1 R.2.1 R.2.2] _ HRx.out Try.underlying106 rfl (by kernel_rfl) ?_))
     try dsimp only [Act.put]
     refine wp_region_held_drew (S := fun W => Below (wr.alloc (.cells #[.int .i64 s.fr, .int .i64 s.ch.vw, .int .i64 s.ch.lw, .slice P.1 P.2.1 P.2.2, .slice Q.1 Q.2.1 Q.2.2, .slice R.1 R.2.1 R.2.2] 106)).heap.size (wr.alloc (.cells #[.int .i64 s.fr, .int .i64 s.ch.vw, .int .i64 s.ch.lw, .slice P.1 P.2.1 P.2.2, .slice Q.1 Q.2.1 Q.2.2, .slice R.1 R.2.1 R.2.2] 106)) W) (by kernel_rfl) (Below.refl _ _).drew (fun hHeld => ?_)
     change wpAnyH _ _ _ _ _ _ #[false, false, false, false, false, false, false, false, false, false, false, false, false, false, false, false, false, false, false, false, false, false, false, false, false, false, false, false, false, false, false, false, false, false, false, false, false, false] _ _
     refine tkq (i := 0) (d := 33) (v := (.pointer (some ⟨wr.heap.size, 0, none⟩))) rfl rfl (Or.inl ⟨by kernel_rfl, fun w hSw => ?_⟩) (by assumption) ?_
     ·(try dsimp only at hSw); go_simp <;> (try rfl)
     simp only [Act.put, sq1, sq2, sq3]
     refine tkq (i := 1) (d := 34) (v := (.int .i64 s.fr)) rfl rfl (yields_load_at (by kernel_rfl) 3 (.tmp 33) rfl (.pointer (some ⟨wr.heap.size, 0, none⟩)) (by simp [Act.eval]) (.int .i64 s.fr) (fun W hW => load_one' (Try.agg_int W) ((HBx.out.through hW).cellAt (i := 0) rfl))) (by assumption) ?_
     simp only [Act.put, sq1, sq2, sq3]
     refine tkq (i := 2) (d := 35) (v := (.bool false)) rfl rfl (Or.inl ⟨by kernel_rfl, fun w hSw => ?_⟩) (by assumption) ?_
     ·(try dsimp only at hSw); go_simp <;> (try rfl)
     simp only [Act.put, sq1, sq2, sq3]
     refine tkq (i := 3) (d := 36) (v := (.bool false)) rfl rfl (Or.inl ⟨by kernel_rfl, fun w hSw => ?_⟩) (by assumption) ?_
     ·(try dsimp only at hSw); go_simp <;> (try rfl)
     simp only [Act.put, sq1, sq2, sq3]
     refine tkq (i := 4) (d := 37) (v := (.pointer (some ⟨wr.heap.size, 0, none⟩))) rfl rfl (Or.inl ⟨by kernel_rfl, fun w hSw => ?_⟩) (by assumption) ?_
     ·(try dsimp only at hSw); go_simp <;> (try rfl)
     simp only [Act.put, sq1, sq2, sq3]
     refine tkq (i := 5) (d := 38) (v := (.int .i64 s.fr)) rfl rfl (yields_load_at (by kernel_rfl) 3 (.tmp 37) rfl (.pointer (some ⟨wr.heap.size, 0, none⟩)) (by simp [Act.eval]) (.int .i64 s.fr) (fun W hW => load_one' (Try.agg_int W) ((HBx.out.through hW).cellAt (i := 0) rfl))) (by assumption) ?_
     simp only [Act.put, sq1, sq2, sq3]
     refine tkq (i := 6) (d := 39) (v := (.int .i64 n)) rfl rfl (Or.inl ⟨by kernel_rfl, fun w hSw => ?_⟩) (by assumption) ?_
     ·(try dsimp only at hSw); go_simp <;> (try rfl)
     simp only [Act.put, sq1, sq2, sq3]
     refine tkq (i := 7) (d := 40) (v := (.bool false)) rfl rfl (Or.inl ⟨by kernel_rfl, fun w hSw => ?_⟩) (by assumption) ?_
     ·(try dsimp only at hSw); go_simp <;> (try rfl)
     simp only [Act.put, sq1, sq2, sq3]
     refine tkq (i := 8) (d := 41) (v := (.bool false)) rfl rfl (Or.inl ⟨by kernel_rfl, fun w hSw => ?_⟩) (by assumption) ?_
     ·(try dsimp only at hSw); go_simp <;> (try rfl)
     simp only [Act.put, sq1, sq2, sq3]
     refine tkq (i := 9) (d := 42) (v := (.bool false)) rfl rfl (Or.inl ⟨by kernel_rfl, fun w hSw => ?_⟩) (by assumption) ?_
     ·(try dsimp only at hSw); go_simp <;> (try rfl)
     simp only [Act.put, sq1, sq2, sq3]
     refine tkq (i := 10) (d := 43) (v := (.int .i64 (i : Int))) rfl rfl (Or.inl ⟨by kernel_rfl, fun w hSw => ?_⟩) (by assumption) ?_
     ·(try dsimp only at hSw); go_simp <;> (try rfl)
     simp only [Act.put, sq1, sq2, sq3]
     refine tkq (i := 11) (d := 44) (v := (.bool false)) rfl rfl (Or.inl ⟨by kernel_rfl, fun w hSw => ?_⟩) (by assumption) ?_
     ·(try dsimp only at hSw); go_simp <;> (try rfl)
     simp only [Act.put, sq1, sq2, sq3]
     refine tkq (i := 12) (d := 45) (v := (.bool false)) rfl rfl (Or.inl ⟨by kernel_rfl, fun w hSw => ?_⟩) (by assumption) ?_
     ·(try dsimp only at hSw); go_simp <;> (try rfl)
     simp only [Act.put, sq1, sq2, sq3]
     refine tkv (i := 13) (d := 46) rfl rfl (by assumption) ?_
     simp only [Act.put, sq1, sq2, sq3]
     refine tkv (i := 14) (d := 47) rfl rfl (by assumption) ?_
     simp only [Act.put, sq1, sq2, sq3]
     refine tkv (i := 15) (d := 48) rfl rfl (by assumption) ?_
     simp only [Act.put, sq1, sq2, sq3]
     refine tkv (i := 16) (d := 49) rfl rfl (by assumption) ?_
     simp only [Act.put, sq1, sq2, sq3]
     refine tkv (i := 17) (d := 50) rfl rfl (by assumption) ?_
     simp only [Act.put, sq1, sq2, sq3]
     refine tkv (i := 18) (d := 51) rfl rfl (by assumption) ?_
     simp only [Act.put, sq1, sq2, sq3]
     refine tkv (i := 19) (d := 52) rfl rfl (by assumption) ?_
     simp only [Act.put, sq1, sq2, sq3]
     refine tkv (i := 20) (d := 53) rfl rfl (by assumption) ?_
     simp only [Act.put, sq1, sq2, sq3]
     refine tkv (i := 21) (d := 54) rfl rfl (by assumption) ?_
     simp only [Act.put, sq1, sq2, sq3]
     refine tkq (i := 22) (d := 55) (v := (.bool false)) rfl rfl (Or.inl ⟨by kernel_rfl, fun w hSw => ?_⟩) (by assumption) ?_
     ·(try dsimp only at hSw); go_simp <;> (try rfl)
     simp only [Act.put, sq1, sq2, sq3]
     refine tkq (i := 23) (d := 56) (v := (.bool false)) rfl rfl (Or.inl ⟨by kernel_rfl, fun w hSw => ?_⟩) (by assumption) ?_
     ·(try dsimp only at hSw); go_simp <;> (try rfl)
     simp only [Act.put, sq1, sq2, sq3]
     refine tkq (i := 24) (d := 57) (v := (.bool false)) rfl rfl (Or.inl ⟨by kernel_rfl, fun w hSw => ?_⟩) (by assumption) ?_
     ·(try dsimp only at hSw); go_simp <;> (try rfl)
     simp only [Act.put, sq1, sq2, sq3]
     refine tkq (i := 25) (d := 58) (v := (.pointer (some ⟨wr.heap.size, 1, none⟩))) rfl rfl (Or.inl ⟨by kernel_rfl, fun w hSw => ?_⟩) (by assumption) ?_
     ·(try dsimp only at hSw); go_simp <;> (try rfl)
     simp only [Act.put, sq1, sq2, sq3]
     refine tkq (i := 26) (d := 59) (v := (.pointer (some ⟨wr.heap.size, 1, none⟩))) rfl rfl (Or.inl ⟨by kernel_rfl, fun w hSw => ?_⟩) (by assumption) ?_
     ·(try dsimp only at hSw); go_simp <;> (try rfl)
     simp only [Act.put, sq1, sq2, sq3]
     refine tkq (i := 27) (d := 60) (v := (.int .i64 s.ch.vw)) rfl rfl (yields_load_at (by kernel_rfl) 2 (.tmp 59) rfl (.pointer (some ⟨wr.heap.size, 1, none⟩)) (by simp [Act.eval]) (.int .i64 s.ch.vw) (fun W hW => load_one' (Try.agg_i64 W) ((HBx.out.through hW).cellAt (i := 1) rfl))) (by assumption) ?_
     simp only [Act.put, sq1, sq2, sq3]
     refine tkq (i := 28) (d := 61) (v := (.int .i64 view)) rfl rfl (Or.inl ⟨by kernel_rfl, fun w hSw => ?_⟩) (by assumption) ?_
     ·(try dsimp only at hSw); go_simp <;> (try rfl)
     simp only [Act.put, sq1, sq2, sq3]
     refine tkq (i := 29) (d := 62) (v := (.bool false)) rfl rfl (Or.inl ⟨by kernel_rfl, fun w hSw => ?_⟩) (by assumption) ?_
     ·(try dsimp only at hSw); go_simp <;> (try rfl)
     simp only [Act.put, sq1, sq2, sq3]
     refine tkq (i := 30) (d := 63) (v := (.bool false)) rfl rfl (Or.inl ⟨by kernel_rfl, fun w hSw => ?_⟩) (by assumption) ?_
     ·(try dsimp only at hSw); go_simp <;> (try rfl)
     simp only [Act.put, sq1, sq2, sq3]
     refine tkq (i := 31) (d := 64) (v := (.bool false)) rfl rfl (Or.inl ⟨by kernel_rfl, fun w hSw => ?_⟩) (by assumption) ?_
     ·(try dsimp only at hSw); go_simp <;> (try rfl)
     simp only [Act.put, sq1, sq2, sq3]
     refine tkq (i := 32) (d := 65) (v := (.pointer (some ⟨wr.heap.size, 1, none⟩))) rfl rfl (Or.inl ⟨by kernel_rfl, fun w hSw => ?_⟩) (by assumption) ?_
     ·(try dsimp only at hSw); go_simp <;> (try rfl)
     simp only [Act.put, sq1, sq2, sq3]
     refine tkq (i := 33) (d := 66) (v := (.agg (Ch.cells s.ch P Q R).toArray)) rfl rfl (yieldsIf_load_mid (by kernel_rfl) 25 (.tmp 65) rfl wr.heap.size 1 (by simp [Act.eval]) (Ch.cells s.ch P Q R) _ (fun W hW => rangeAt.through HRc.out hW) Try.underlying25 rfl (by kernel_rfl)) (by assumption) ?_
     simp only [Act.put, sq1, sq2, sq3]
     refine tkq (i := 34) (d := 67) (v := (.int .i64 n)) rfl rfl (Or.inl ⟨by kernel_rfl, fun w hSw => ?_⟩) (by assumption) ?_
     ·(try dsimp only at hSw); go_simp <;> (try rfl)
     simp only [Act.put, sq1, sq2, sq3]
     refine wpAnyH_ready (rs := [35]) (by kernel_rfl) (by simp) ?_
     refine AllReadyH.cons rfl (fun K hK => ?_) AllReadyH.nil
     go_simp
     refine (HRi.out _ (HIx.out.through hHeld)).mono ?_
     rintro e wq ⟨rfl, hbq⟩; have HKq := Lib.hid (below_step hHeld hbq); clear hbq
     go_wp2_with fail
     refine hK.out _ _ HKq.out (fun hHeld1 => ?_)
     clear hHeld hK K
     have hHeld := hHeld1
     clear hHeld1
     refine tkq (i := 36) (d := 69) (v := (.bool true)) rfl rfl (Or.inl ⟨by kernel_rfl, fun w hSw => ?_⟩) (by assumption) ?_
     ·(try dsimp only at hSw); go_simp <;> (try rfl)
     simp only [Act.put, sq1, sq2, sq3]
     refine tkq (i := 37) (d := 70) (v := (.bool true)) rfl rfl (Or.inl ⟨by kernel_rfl, fun w hSw => ?_⟩) (by assumption) ?_
     ·(try dsimp only at hSw); go_simp <;> (try rfl)
     simp only [Act.put, sq1, sq2, sq3]
     refine wpAnyH_done (by kernel_rfl) ?_ _
     have HKk := Lib.hid hHeld
     clear hHeld
     go_wp2
     go_ret
     exact ⟨(by rw [HF.out] <;> rfl), below_step HXx.out HKk.out⟩
    | true =>
     have HN : Hid (er = if okNv view n (if i + 1 = 0 then none else (l[i + 1 - 1]?).map (·.fr)) (l.drop (i + 1)) = true then 0 else 2) := Lib.hid (by rw [hq, hdd, if_neg (show ¬ (i + 1 = 0) by omega), hsz]; simp [okNv, h3, hrb, e1_, e2_])
     clear hq hdd hrb h1 h2 hsi e1_ e2_ h3 hsz h0
     go_wp2_with (first
      | (refine wpList_load_mid rfl 106 (.tmp 31) rfl g (o + i * 6) rfl [.int .i64 s.fr, .int .i64 s.ch.vw, .int .i64 s.ch.lw, .slice P.1 P.2.1 P.2.2, .slice Q.1 Q.2.1 Q.2.2, .slice R.1 R.2.1 R.2.2] _ HRx.out Try.underlying106 rfl (by kernel_rfl) ?_))
     try dsimp only [Act.put]
     refine wp_region_held_drew (S := fun W => Below (wr.alloc (.cells #[.int .i64 s.fr, .int .i64 s.ch.vw, .int .i64 s.ch.lw, .slice P.1 P.2.1 P.2.2, .slice Q.1 Q.2.1 Q.2.2, .slice R.1 R.2.1 R.2.2] 106)).heap.size (wr.alloc (.cells #[.int .i64 s.fr, .int .i64 s.ch.vw, .int .i64 s.ch.lw, .slice P.1 P.2.1 P.2.2, .slice Q.1 Q.2.1 Q.2.2, .slice R.1 R.2.1 R.2.2] 106)) W) (by kernel_rfl) (Below.refl _ _).drew (fun hHeld => ?_)
     change wpAnyH _ _ _ _ _ _ #[false, false, false, false, false, false, false, false, false, false, false, false, false, false, false, false, false, false, false, false, false, false, false, false, false, false, false, false, false, false, false, false, false, false, false, false, false, false] _ _
     refine tkq (i := 0) (d := 33) (v := (.pointer (some ⟨wr.heap.size, 0, none⟩))) rfl rfl (Or.inl ⟨by kernel_rfl, fun w hSw => ?_⟩) (by assumption) ?_
     ·(try dsimp only at hSw); go_simp <;> (try rfl)
     simp only [Act.put, sq1, sq2, sq3]
     refine tkq (i := 1) (d := 34) (v := (.int .i64 s.fr)) rfl rfl (yields_load_at (by kernel_rfl) 3 (.tmp 33) rfl (.pointer (some ⟨wr.heap.size, 0, none⟩)) (by simp [Act.eval]) (.int .i64 s.fr) (fun W hW => load_one' (Try.agg_int W) ((HBx.out.through hW).cellAt (i := 0) rfl))) (by assumption) ?_
     simp only [Act.put, sq1, sq2, sq3]
     refine tkq (i := 2) (d := 35) (v := (.bool false)) rfl rfl (Or.inl ⟨by kernel_rfl, fun w hSw => ?_⟩) (by assumption) ?_
     ·(try dsimp only at hSw); go_simp <;> (try rfl)
     simp only [Act.put, sq1, sq2, sq3]
     refine tkq (i := 3) (d := 36) (v := (.bool false)) rfl rfl (Or.inl ⟨by kernel_rfl, fun w hSw => ?_⟩) (by assumption) ?_
     ·(try dsimp only at hSw); go_simp <;> (try rfl)
     simp only [Act.put, sq1, sq2, sq3]
     refine tkq (i := 4) (d := 37) (v := (.pointer (some ⟨wr.heap.size, 0, none⟩))) rfl rfl (Or.inl ⟨by kernel_rfl, fun w hSw => ?_⟩) (by assumption) ?_
     ·(try dsimp only at hSw); go_simp <;> (try rfl)
     simp only [Act.put, sq1, sq2, sq3]
     refine tkq (i := 5) (d := 38) (v := (.int .i64 s.fr)) rfl rfl (yields_load_at (by kernel_rfl) 3 (.tmp 37) rfl (.pointer (some ⟨wr.heap.size, 0, none⟩)) (by simp [Act.eval]) (.int .i64 s.fr) (fun W hW => load_one' (Try.agg_int W) ((HBx.out.through hW).cellAt (i := 0) rfl))) (by assumption) ?_
     simp only [Act.put, sq1, sq2, sq3]
     refine tkq (i := 6) (d := 39) (v := (.int .i64 n)) rfl rfl (Or.inl ⟨by kernel_rfl, fun w hSw => ?_⟩) (by assumption) ?_
     ·(try dsimp only at hSw); go_simp <;> (try rfl)
     simp only [Act.put, sq1, sq2, sq3]
     refine tkq (i := 7) (d := 40) (v := (.bool false)) rfl rfl (Or.inl ⟨by kernel_rfl, fun w hSw => ?_⟩) (by assumption) ?_
     ·(try dsimp only at hSw); go_simp <;> (try rfl)
     simp only [Act.put, sq1, sq2, sq3]
     refine tkq (i := 8) (d := 41) (v := (.bool false)) rfl rfl (Or.inl ⟨by kernel_rfl, fun w hSw => ?_⟩) (by assumption) ?_
     ·(try dsimp only at hSw); go_simp <;> (try rfl)
     simp only [Act.put, sq1, sq2, sq3]
     refine tkq (i := 9) (d := 42) (v := (.bool false)) rfl rfl (Or.inl ⟨by kernel_rfl, fun w hSw => ?_⟩) (by assumption) ?_
     ·(try dsimp only at hSw); go_simp <;> (try rfl)
     simp only [Act.put, sq1, sq2, sq3]
     refine tkq (i := 10) (d := 43) (v := (.int .i64 (i : Int))) rfl rfl (Or.inl ⟨by kernel_rfl, fun w hSw => ?_⟩) (by assumption) ?_
     ·(try dsimp only at hSw); go_simp <;> (try rfl)
     simp only [Act.put, sq1, sq2, sq3]
     refine tkq (i := 11) (d := 44) (v := (.bool false)) rfl rfl (Or.inl ⟨by kernel_rfl, fun w hSw => ?_⟩) (by assumption) ?_
     ·(try dsimp only at hSw); go_simp <;> (try rfl)
     simp only [Act.put, sq1, sq2, sq3]
     refine tkq (i := 12) (d := 45) (v := (.bool false)) rfl rfl (Or.inl ⟨by kernel_rfl, fun w hSw => ?_⟩) (by assumption) ?_
     ·(try dsimp only at hSw); go_simp <;> (try rfl)
     simp only [Act.put, sq1, sq2, sq3]
     refine tkv (i := 13) (d := 46) rfl rfl (by assumption) ?_
     simp only [Act.put, sq1, sq2, sq3]
     refine tkv (i := 14) (d := 47) rfl rfl (by assumption) ?_
     simp only [Act.put, sq1, sq2, sq3]
     refine tkv (i := 15) (d := 48) rfl rfl (by assumption) ?_
     simp only [Act.put, sq1, sq2, sq3]
     refine tkv (i := 16) (d := 49) rfl rfl (by assumption) ?_
     simp only [Act.put, sq1, sq2, sq3]
     refine tkv (i := 17) (d := 50) rfl rfl (by assumption) ?_
     simp only [Act.put, sq1, sq2, sq3]
     refine tkv (i := 18) (d := 51) rfl rfl (by assumption) ?_
     simp only [Act.put, sq1, sq2, sq3]
     refine tkv (i := 19) (d := 52) rfl rfl (by assumption) ?_
     simp only [Act.put, sq1, sq2, sq3]
     refine tkv (i := 20) (d := 53) rfl rfl (by assumption) ?_
     simp only [Act.put, sq1, sq2, sq3]
     refine tkv (i := 21) (d := 54) rfl rfl (by assumption) ?_
     simp only [Act.put, sq1, sq2, sq3]
     refine tkq (i := 22) (d := 55) (v := (.bool false)) rfl rfl (Or.inl ⟨by kernel_rfl, fun w hSw => ?_⟩) (by assumption) ?_
     ·(try dsimp only at hSw); go_simp <;> (try rfl)
     simp only [Act.put, sq1, sq2, sq3]
     refine tkq (i := 23) (d := 56) (v := (.bool false)) rfl rfl (Or.inl ⟨by kernel_rfl, fun w hSw => ?_⟩) (by assumption) ?_
     ·(try dsimp only at hSw); go_simp <;> (try rfl)
     simp only [Act.put, sq1, sq2, sq3]
     refine tkq (i := 24) (d := 57) (v := (.bool false)) rfl rfl (Or.inl ⟨by kernel_rfl, fun w hSw => ?_⟩) (by assumption) ?_
     ·(try dsimp only at hSw); go_simp <;> (try rfl)
     simp only [Act.put, sq1, sq2, sq3]
     refine tkq (i := 25) (d := 58) (v := (.pointer (some ⟨wr.heap.size, 1, none⟩))) rfl rfl (Or.inl ⟨by kernel_rfl, fun w hSw => ?_⟩) (by assumption) ?_
     ·(try dsimp only at hSw); go_simp <;> (try rfl)
     simp only [Act.put, sq1, sq2, sq3]
     refine tkq (i := 26) (d := 59) (v := (.pointer (some ⟨wr.heap.size, 1, none⟩))) rfl rfl (Or.inl ⟨by kernel_rfl, fun w hSw => ?_⟩) (by assumption) ?_
     ·(try dsimp only at hSw); go_simp <;> (try rfl)
     simp only [Act.put, sq1, sq2, sq3]
     refine tkq (i := 27) (d := 60) (v := (.int .i64 s.ch.vw)) rfl rfl (yields_load_at (by kernel_rfl) 2 (.tmp 59) rfl (.pointer (some ⟨wr.heap.size, 1, none⟩)) (by simp [Act.eval]) (.int .i64 s.ch.vw) (fun W hW => load_one' (Try.agg_i64 W) ((HBx.out.through hW).cellAt (i := 1) rfl))) (by assumption) ?_
     simp only [Act.put, sq1, sq2, sq3]
     refine tkq (i := 28) (d := 61) (v := (.int .i64 view)) rfl rfl (Or.inl ⟨by kernel_rfl, fun w hSw => ?_⟩) (by assumption) ?_
     ·(try dsimp only at hSw); go_simp <;> (try rfl)
     simp only [Act.put, sq1, sq2, sq3]
     refine tkq (i := 29) (d := 62) (v := (.bool false)) rfl rfl (Or.inl ⟨by kernel_rfl, fun w hSw => ?_⟩) (by assumption) ?_
     ·(try dsimp only at hSw); go_simp <;> (try rfl)
     simp only [Act.put, sq1, sq2, sq3]
     refine tkq (i := 30) (d := 63) (v := (.bool false)) rfl rfl (Or.inl ⟨by kernel_rfl, fun w hSw => ?_⟩) (by assumption) ?_
     ·(try dsimp only at hSw); go_simp <;> (try rfl)
     simp only [Act.put, sq1, sq2, sq3]
     refine tkq (i := 31) (d := 64) (v := (.bool false)) rfl rfl (Or.inl ⟨by kernel_rfl, fun w hSw => ?_⟩) (by assumption) ?_
     ·(try dsimp only at hSw); go_simp <;> (try rfl)
     simp only [Act.put, sq1, sq2, sq3]
     refine tkq (i := 32) (d := 65) (v := (.pointer (some ⟨wr.heap.size, 1, none⟩))) rfl rfl (Or.inl ⟨by kernel_rfl, fun w hSw => ?_⟩) (by assumption) ?_
     ·(try dsimp only at hSw); go_simp <;> (try rfl)
     simp only [Act.put, sq1, sq2, sq3]
     refine tkq (i := 33) (d := 66) (v := (.agg (Ch.cells s.ch P Q R).toArray)) rfl rfl (yieldsIf_load_mid (by kernel_rfl) 25 (.tmp 65) rfl wr.heap.size 1 (by simp [Act.eval]) (Ch.cells s.ch P Q R) _ (fun W hW => rangeAt.through HRc.out hW) Try.underlying25 rfl (by kernel_rfl)) (by assumption) ?_
     simp only [Act.put, sq1, sq2, sq3]
     refine tkq (i := 34) (d := 67) (v := (.int .i64 n)) rfl rfl (Or.inl ⟨by kernel_rfl, fun w hSw => ?_⟩) (by assumption) ?_
     ·(try dsimp only at hSw); go_simp <;> (try rfl)
     simp only [Act.put, sq1, sq2, sq3]
     refine wpAnyH_ready (rs := [35]) (by kernel_rfl) (by simp) ?_
     refine AllReadyH.cons rfl (fun K hK => ?_) AllReadyH.nil
     go_simp
     refine (HRi.out _ (HIx.out.through hHeld)).mono ?_
     rintro e wq ⟨rfl, hbq⟩; have HKq := Lib.hid (below_step hHeld hbq); clear hbq
     go_wp2_with fail
     refine hK.out _ _ HKq.out (fun hHeld1 => ?_)
     clear hHeld hK K
     have hHeld := hHeld1
     clear hHeld1
     refine tkq (i := 36) (d := 69) (v := (.bool false)) rfl rfl (Or.inl ⟨by kernel_rfl, fun w hSw => ?_⟩) (by assumption) ?_
     ·(try dsimp only at hSw); go_simp <;> (try rfl)
     simp only [Act.put, sq1, sq2, sq3]
     refine tkq (i := 37) (d := 70) (v := (.bool false)) rfl rfl (Or.inl ⟨by kernel_rfl, fun w hSw => ?_⟩) (by assumption) ?_
     ·(try dsimp only at hSw); go_simp <;> (try rfl)
     simp only [Act.put, sq1, sq2, sq3]
     refine wpAnyH_done (by kernel_rfl) ?_ _
     have HKk := Lib.hid hHeld
     clear hHeld
     go_wp2
     go_roundw
     case rel => exact ⟨i + 1, by omega, by go_num, HN.out, below_step HXx.out HKk.out⟩
     case measure => simp [intOf]; omega
   case neg =>
    obtain ⟨j, rfl⟩ : ∃ j, i = j + 1 := ⟨i - 1, by omega⟩
    obtain ⟨g2, o2, pr, P', Q', R', hS2, hpj, _, _, hrj, _⟩ := (HP.out.through HXv.out).at (show j < k by omega)
    obtain ⟨rfl, rfl⟩ : g = g2 ∧ o = o2 := by injection hS2 with e; injection e with e1 e2; exact ⟨e1, e2⟩
    have HRj := Lib.hid (rangeAt.through hrj (below1_ wr (.cells #[.int .i64 s.fr, .int .i64 s.ch.vw, .int .i64 s.ch.lw, .slice P.1 P.2.1 P.2.2, .slice Q.1 Q.2.1 Q.2.2, .slice R.1 R.2.1 R.2.2] 106)))
    have hij : ∀ W, (Instr.indexAt 42 (.slice (some ⟨g, o, none⟩) k d) (.int .i64 (j : Int))).run Try.prog W = .ok (.pointer (some ⟨g, o + j * 6, none⟩)) W := fun W => Try.ix_sg W g o k d j (by omega)
    have hwj : IntKind.i64.wrap ((j : Int) + 1 - 1) = (j : Int) := by rw [IntWalk.i64_in _ (by omega)]; omega
    have hwj2 : IntKind.i64.wrap (j : Int) = (j : Int) := IntWalk.i64_in _ (by omega)
    have hsj : (j : Int) + 1 - 1 = (j : Int) := by omega
    have hdj : decide ((0 : Int) < (j : Int) + 1) = true := decide_eq_true (by omega)
    have hixs : ∀ W, (Instr.indexAt 42 (.slice (some ⟨g, o, none⟩) k d) (.int .i64 ((j : Int) + 1))).run Try.prog W = .ok (.pointer (some ⟨g, o + (j + 1) * 6, none⟩)) W := fun W => by
     have h9 := hix W
     rw [show (((j + 1 : Nat)) : Int) = (j : Int) + 1 by omega] at h9
     exact h9
    clear hix
    have hsz : l[j + 1 + 1 - 1]? = some s := by simpa using hsi
    have hpy : l[j + 1 - 1]? = some pr := by simpa using hpj
    rw [if_neg (show ¬ (j + 1 = 0) by omega), hpy] at hq
    by_cases h4 : s.fr ≤ pr.fr
    ·have d4 : decide (s.fr ≤ pr.fr) = true := by simpa using h4
     have HF : Hid (er = 2) := Lib.hid (by rw [hq, hdd]; have h9 : decide (pr.fr < s.fr) = false := (by simpa using h4); simp [okNv, h9])
     clear hq hdd hrb h1 h2 hsi e1_ e2_ hsz hpy hpj hrj hS2 h0 h4
     go_wp2_with (first
      | (refine wpList_load_mid rfl 106 (.tmp 31) rfl g (o + (j + 1) * 6) rfl [.int .i64 s.fr, .int .i64 s.ch.vw, .int .i64 s.ch.lw, .slice P.1 P.2.1 P.2.2, .slice Q.1 Q.2.1 Q.2.2, .slice R.1 R.2.1 R.2.2] _ HRx.out Try.underlying106 rfl (by kernel_rfl) ?_))
     try dsimp only [Act.put]
     refine wp_region_held_drew (S := fun W => Below (wr.alloc (.cells #[.int .i64 s.fr, .int .i64 s.ch.vw, .int .i64 s.ch.lw, .slice P.1 P.2.1 P.2.2, .slice Q.1 Q.2.1 Q.2.2, .slice R.1 R.2.1 R.2.2] 106)).heap.size (wr.alloc (.cells #[.int .i64 s.fr, .int .i64 s.ch.vw, .int .i64 s.ch.lw, .slice P.1 P.2.1 P.2.2, .slice Q.1 Q.2.1 Q.2.2, .slice R.1 R.2.1 R.2.2] 106)) W) (by kernel_rfl) (Below.refl _ _).drew (fun hHeld => ?_)
     change wpAnyH _ _ _ _ _ _ #[false, false, false, false, false, false, false, false, false, false, false, false, false, false, false, false, false, false, false, false, false, false, false, false, false, false, false, false, false, false, false, false, false, false, false, false, false, false] _ _
     refine tkq (i := 0) (d := 33) (v := (.pointer (some ⟨wr.heap.size, 0, none⟩))) rfl rfl (Or.inl ⟨by kernel_rfl, fun w hSw => ?_⟩) (by assumption) ?_
     ·(try dsimp only at hSw); go_simp <;> (try rfl)
     simp only [Act.put, sq1, sq2, sq3]
     refine tkq (i := 1) (d := 34) (v := (.int .i64 s.fr)) rfl rfl (yields_load_at (by kernel_rfl) 3 (.tmp 33) rfl (.pointer (some ⟨wr.heap.size, 0, none⟩)) (by simp [Act.eval]) (.int .i64 s.fr) (fun W hW => load_one' (Try.agg_int W) ((HBx.out.through hW).cellAt (i := 0) rfl))) (by assumption) ?_
     simp only [Act.put, sq1, sq2, sq3]
     refine tkq (i := 2) (d := 35) (v := (.bool false)) rfl rfl (Or.inl ⟨by kernel_rfl, fun w hSw => ?_⟩) (by assumption) ?_
     ·(try dsimp only at hSw); go_simp <;> (try rfl)
     simp only [Act.put, sq1, sq2, sq3]
     refine tkq (i := 3) (d := 36) (v := (.bool false)) rfl rfl (Or.inl ⟨by kernel_rfl, fun w hSw => ?_⟩) (by assumption) ?_
     ·(try dsimp only at hSw); go_simp <;> (try rfl)
     simp only [Act.put, sq1, sq2, sq3]
     refine tkq (i := 4) (d := 37) (v := (.pointer (some ⟨wr.heap.size, 0, none⟩))) rfl rfl (Or.inl ⟨by kernel_rfl, fun w hSw => ?_⟩) (by assumption) ?_
     ·(try dsimp only at hSw); go_simp <;> (try rfl)
     simp only [Act.put, sq1, sq2, sq3]
     refine tkq (i := 5) (d := 38) (v := (.int .i64 s.fr)) rfl rfl (yields_load_at (by kernel_rfl) 3 (.tmp 37) rfl (.pointer (some ⟨wr.heap.size, 0, none⟩)) (by simp [Act.eval]) (.int .i64 s.fr) (fun W hW => load_one' (Try.agg_int W) ((HBx.out.through hW).cellAt (i := 0) rfl))) (by assumption) ?_
     simp only [Act.put, sq1, sq2, sq3]
     refine tkq (i := 6) (d := 39) (v := (.int .i64 n)) rfl rfl (Or.inl ⟨by kernel_rfl, fun w hSw => ?_⟩) (by assumption) ?_
     ·(try dsimp only at hSw); go_simp <;> (try rfl)
     simp only [Act.put, sq1, sq2, sq3]
     refine tkq (i := 7) (d := 40) (v := (.bool false)) rfl rfl (Or.inl ⟨by kernel_rfl, fun w hSw => ?_⟩) (by assumption) ?_
     ·(try dsimp only at hSw); go_simp <;> (try rfl)
     simp only [Act.put, sq1, sq2, sq3]
     refine tkq (i := 8) (d := 41) (v := (.bool false)) rfl rfl (Or.inl ⟨by kernel_rfl, fun w hSw => ?_⟩) (by assumption) ?_
     ·(try dsimp only at hSw); go_simp <;> (try rfl)
     simp only [Act.put, sq1, sq2, sq3]
     refine tkq (i := 9) (d := 42) (v := (.bool false)) rfl rfl (Or.inl ⟨by kernel_rfl, fun w hSw => ?_⟩) (by assumption) ?_
     ·(try dsimp only at hSw); go_simp <;> (try rfl)
     simp only [Act.put, sq1, sq2, sq3]
     refine tkq (i := 10) (d := 43) (v := (.int .i64 ((j : Int) + 1))) rfl rfl (Or.inl ⟨by kernel_rfl, fun w hSw => ?_⟩) (by assumption) ?_
     ·(try dsimp only at hSw); go_simp <;> (try rfl)
     simp only [Act.put, sq1, sq2, sq3]
     refine tkq (i := 11) (d := 44) (v := (.bool true)) rfl rfl (Or.inl ⟨by kernel_rfl, fun w hSw => ?_⟩) (by assumption) ?_
     ·(try dsimp only at hSw); go_simp <;> (try rfl)
     simp only [Act.put, sq1, sq2, sq3]
     refine tkq (i := 12) (d := 45) (v := (.bool true)) rfl rfl (Or.inl ⟨by kernel_rfl, fun w hSw => ?_⟩) (by assumption) ?_
     ·(try dsimp only at hSw); go_simp <;> (try rfl)
     simp only [Act.put, sq1, sq2, sq3]
     refine tkq (i := 13) (d := 46) (v := (.slice (some ⟨g, o, none⟩) k d)) rfl rfl (Or.inl ⟨by kernel_rfl, fun w hSw => ?_⟩) (by assumption) ?_
     ·(try dsimp only at hSw); go_simp <;> (try rfl)
     simp only [Act.put, sq1, sq2, sq3]
     refine tkq (i := 14) (d := 47) (v := (.int .i64 ((j : Int) + 1))) rfl rfl (Or.inl ⟨by kernel_rfl, fun w hSw => ?_⟩) (by assumption) ?_
     ·(try dsimp only at hSw); go_simp <;> (try rfl)
     simp only [Act.put, sq1, sq2, sq3]
     refine tkq (i := 15) (d := 48) (v := (.int .i64 (j : Int))) rfl rfl (Or.inl ⟨by kernel_rfl, fun w hSw => ?_⟩) (by assumption) ?_
     ·(try dsimp only at hSw); go_simp <;> (try rfl)
     simp only [Act.put, sq1, sq2, sq3]
     refine tkq (i := 16) (d := 49) (v := (.pointer (some ⟨g, o + j * 6, none⟩))) rfl rfl (Or.inl ⟨by kernel_rfl, fun w hSw => ?_⟩) (by assumption) ?_
     ·(try dsimp only at hSw); go_simp <;> (try rfl)
     simp only [Act.put, sq1, sq2, sq3]
     refine tkq (i := 17) (d := 50) (v := (.pointer (some ⟨g, o + j * 6, none⟩))) rfl rfl (Or.inl ⟨by kernel_rfl, fun w hSw => ?_⟩) (by assumption) ?_
     ·(try dsimp only at hSw); go_simp <;> (try rfl)
     simp only [Act.put, sq1, sq2, sq3]
     refine tkq (i := 18) (d := 51) (v := (.int .i64 pr.fr)) rfl rfl (yields_load_at (by kernel_rfl) 3 (.tmp 50) rfl (.pointer (some ⟨g, o + j * 6, none⟩)) (by simp [Act.eval]) (.int .i64 pr.fr) (fun W hW => load_one' (Try.agg_int W) (rangeAt.through HRj.out hW 0 _ rfl))) (by assumption) ?_
     simp only [Act.put, sq1, sq2, sq3]
     refine tkq (i := 19) (d := 52) (v := (.pointer (some ⟨wr.heap.size, 0, none⟩))) rfl rfl (Or.inl ⟨by kernel_rfl, fun w hSw => ?_⟩) (by assumption) ?_
     ·(try dsimp only at hSw); go_simp <;> (try rfl)
     simp only [Act.put, sq1, sq2, sq3]
     refine tkq (i := 20) (d := 53) (v := (.int .i64 s.fr)) rfl rfl (yields_load_at (by kernel_rfl) 3 (.tmp 52) rfl (.pointer (some ⟨wr.heap.size, 0, none⟩)) (by simp [Act.eval]) (.int .i64 s.fr) (fun W hW => load_one' (Try.agg_int W) ((HBx.out.through hW).cellAt (i := 0) rfl))) (by assumption) ?_
     simp only [Act.put, sq1, sq2, sq3]
     refine tkq (i := 21) (d := 54) (v := (.bool true)) rfl rfl (Or.inl ⟨by kernel_rfl, fun w hSw => ?_⟩) (by assumption) ?_
     ·(try dsimp only at hSw); go_simp <;> (try rfl)
     simp only [Act.put, sq1, sq2, sq3]
     refine tkq (i := 22) (d := 55) (v := (.bool true)) rfl rfl (Or.inl ⟨by kernel_rfl, fun w hSw => ?_⟩) (by assumption) ?_
     ·(try dsimp only at hSw); go_simp <;> (try rfl)
     simp only [Act.put, sq1, sq2, sq3]
     refine tkq (i := 23) (d := 56) (v := (.bool true)) rfl rfl (Or.inl ⟨by kernel_rfl, fun w hSw => ?_⟩) (by assumption) ?_
     ·(try dsimp only at hSw); go_simp <;> (try rfl)
     simp only [Act.put, sq1, sq2, sq3]
     refine tkq (i := 24) (d := 57) (v := (.bool true)) rfl rfl (Or.inl ⟨by kernel_rfl, fun w hSw => ?_⟩) (by assumption) ?_
     ·(try dsimp only at hSw); go_simp <;> (try rfl)
     simp only [Act.put, sq1, sq2, sq3]
     refine tkv (i := 25) (d := 58) rfl rfl (by assumption) ?_
     simp only [Act.put, sq1, sq2, sq3]
     refine tkv (i := 26) (d := 59) rfl rfl (by assumption) ?_
     simp only [Act.put, sq1, sq2, sq3]
     refine tkv (i := 27) (d := 60) rfl rfl (by assumption) ?_
     simp only [Act.put, sq1, sq2, sq3]
     refine tkv (i := 28) (d := 61) rfl rfl (by assumption) ?_
     simp only [Act.put, sq1, sq2, sq3]
     refine tkv (i := 29) (d := 62) rfl rfl (by assumption) ?_
     simp only [Act.put, sq1, sq2, sq3]
     refine tkq (i := 30) (d := 63) (v := (.bool true)) rfl rfl (Or.inl ⟨by kernel_rfl, fun w hSw => ?_⟩) (by assumption) ?_
     ·(try dsimp only at hSw); go_simp <;> (try rfl)
     simp only [Act.put, sq1, sq2, sq3]
     refine tkq (i := 31) (d := 64) (v := (.bool true)) rfl rfl (Or.inl ⟨by kernel_rfl, fun w hSw => ?_⟩) (by assumption) ?_
     ·(try dsimp only at hSw); go_simp <;> (try rfl)
     simp only [Act.put, sq1, sq2, sq3]
     refine tkv (i := 32) (d := 65) rfl rfl (by assumption) ?_
     simp only [Act.put, sq1, sq2, sq3]
     refine tkv (i := 33) (d := 66) rfl rfl (by assumption) ?_
     simp only [Act.put, sq1, sq2, sq3]
     refine tkv (i := 34) (d := 67) rfl rfl (by assumption) ?_
     simp only [Act.put, sq1, sq2, sq3]
     refine tkv (i := 35) (d := 68) rfl rfl (by assumption) ?_
     simp only [Act.put, sq1, sq2, sq3]
     refine tkv (i := 36) (d := 69) rfl rfl (by assumption) ?_
     simp only [Act.put, sq1, sq2, sq3]
     refine tkq (i := 37) (d := 70) (v := (.bool true)) rfl rfl (Or.inl ⟨by kernel_rfl, fun w hSw => ?_⟩) (by assumption) ?_
     ·(try dsimp only at hSw); go_simp <;> (try rfl)
     simp only [Act.put, sq1, sq2, sq3]
     refine wpAnyH_done (by kernel_rfl) ?_ _
     have HKk := Lib.hid hHeld
     clear hHeld
     go_wp2
     go_ret
     exact ⟨(by rw [HF.out] <;> rfl), below_step HXx.out HKk.out⟩
    have d4 : decide (s.fr ≤ pr.fr) = false := by simpa using h4
    have e4_ : decide (pr.fr < s.fr) = true := by simp; omega
    by_cases h3 : s.ch.vw = view
    case neg =>
     have d3 : (s.ch.vw == view) = false := by simpa using h3
     have d3b : (s.ch.vw != view) = true := by simpa using h3
     have HF : Hid (er = 2) := Lib.hid (by rw [hq, hdd]; simp [okNv, h3])
     clear hq hdd hrb h1 h2 hsi e1_ e2_ h3 hsz hpy hpj hrj hS2 h0 h4 e4_
     go_wp2_with (first
      | (refine wpList_load_mid rfl 106 (.tmp 31) rfl g (o + (j + 1) * 6) rfl [.int .i64 s.fr, .int .i64 s.ch.vw, .int .i64 s.ch.lw, .slice P.1 P.2.1 P.2.2, .slice Q.1 Q.2.1 Q.2.2, .slice R.1 R.2.1 R.2.2] _ HRx.out Try.underlying106 rfl (by kernel_rfl) ?_))
     try dsimp only [Act.put]
     refine wp_region_held_drew (S := fun W => Below (wr.alloc (.cells #[.int .i64 s.fr, .int .i64 s.ch.vw, .int .i64 s.ch.lw, .slice P.1 P.2.1 P.2.2, .slice Q.1 Q.2.1 Q.2.2, .slice R.1 R.2.1 R.2.2] 106)).heap.size (wr.alloc (.cells #[.int .i64 s.fr, .int .i64 s.ch.vw, .int .i64 s.ch.lw, .slice P.1 P.2.1 P.2.2, .slice Q.1 Q.2.1 Q.2.2, .slice R.1 R.2.1 R.2.2] 106)) W) (by kernel_rfl) (Below.refl _ _).drew (fun hHeld => ?_)
     change wpAnyH _ _ _ _ _ _ #[false, false, false, false, false, false, false, false, false, false, false, false, false, false, false, false, false, false, false, false, false, false, false, false, false, false, false, false, false, false, false, false, false, false, false, false, false, false] _ _
     refine tkq (i := 0) (d := 33) (v := (.pointer (some ⟨wr.heap.size, 0, none⟩))) rfl rfl (Or.inl ⟨by kernel_rfl, fun w hSw => ?_⟩) (by assumption) ?_
     ·(try dsimp only at hSw); go_simp <;> (try rfl)
     simp only [Act.put, sq1, sq2, sq3]
     refine tkq (i := 1) (d := 34) (v := (.int .i64 s.fr)) rfl rfl (yields_load_at (by kernel_rfl) 3 (.tmp 33) rfl (.pointer (some ⟨wr.heap.size, 0, none⟩)) (by simp [Act.eval]) (.int .i64 s.fr) (fun W hW => load_one' (Try.agg_int W) ((HBx.out.through hW).cellAt (i := 0) rfl))) (by assumption) ?_
     simp only [Act.put, sq1, sq2, sq3]
     refine tkq (i := 2) (d := 35) (v := (.bool false)) rfl rfl (Or.inl ⟨by kernel_rfl, fun w hSw => ?_⟩) (by assumption) ?_
     ·(try dsimp only at hSw); go_simp <;> (try rfl)
     simp only [Act.put, sq1, sq2, sq3]
     refine tkq (i := 3) (d := 36) (v := (.bool false)) rfl rfl (Or.inl ⟨by kernel_rfl, fun w hSw => ?_⟩) (by assumption) ?_
     ·(try dsimp only at hSw); go_simp <;> (try rfl)
     simp only [Act.put, sq1, sq2, sq3]
     refine tkq (i := 4) (d := 37) (v := (.pointer (some ⟨wr.heap.size, 0, none⟩))) rfl rfl (Or.inl ⟨by kernel_rfl, fun w hSw => ?_⟩) (by assumption) ?_
     ·(try dsimp only at hSw); go_simp <;> (try rfl)
     simp only [Act.put, sq1, sq2, sq3]
     refine tkq (i := 5) (d := 38) (v := (.int .i64 s.fr)) rfl rfl (yields_load_at (by kernel_rfl) 3 (.tmp 37) rfl (.pointer (some ⟨wr.heap.size, 0, none⟩)) (by simp [Act.eval]) (.int .i64 s.fr) (fun W hW => load_one' (Try.agg_int W) ((HBx.out.through hW).cellAt (i := 0) rfl))) (by assumption) ?_
     simp only [Act.put, sq1, sq2, sq3]
     refine tkq (i := 6) (d := 39) (v := (.int .i64 n)) rfl rfl (Or.inl ⟨by kernel_rfl, fun w hSw => ?_⟩) (by assumption) ?_
     ·(try dsimp only at hSw); go_simp <;> (try rfl)
     simp only [Act.put, sq1, sq2, sq3]
     refine tkq (i := 7) (d := 40) (v := (.bool false)) rfl rfl (Or.inl ⟨by kernel_rfl, fun w hSw => ?_⟩) (by assumption) ?_
     ·(try dsimp only at hSw); go_simp <;> (try rfl)
     simp only [Act.put, sq1, sq2, sq3]
     refine tkq (i := 8) (d := 41) (v := (.bool false)) rfl rfl (Or.inl ⟨by kernel_rfl, fun w hSw => ?_⟩) (by assumption) ?_
     ·(try dsimp only at hSw); go_simp <;> (try rfl)
     simp only [Act.put, sq1, sq2, sq3]
     refine tkq (i := 9) (d := 42) (v := (.bool false)) rfl rfl (Or.inl ⟨by kernel_rfl, fun w hSw => ?_⟩) (by assumption) ?_
     ·(try dsimp only at hSw); go_simp <;> (try rfl)
     simp only [Act.put, sq1, sq2, sq3]
     refine tkq (i := 10) (d := 43) (v := (.int .i64 ((j : Int) + 1))) rfl rfl (Or.inl ⟨by kernel_rfl, fun w hSw => ?_⟩) (by assumption) ?_
     ·(try dsimp only at hSw); go_simp <;> (try rfl)
     simp only [Act.put, sq1, sq2, sq3]
     refine tkq (i := 11) (d := 44) (v := (.bool true)) rfl rfl (Or.inl ⟨by kernel_rfl, fun w hSw => ?_⟩) (by assumption) ?_
     ·(try dsimp only at hSw); go_simp <;> (try rfl)
     simp only [Act.put, sq1, sq2, sq3]
     refine tkq (i := 12) (d := 45) (v := (.bool true)) rfl rfl (Or.inl ⟨by kernel_rfl, fun w hSw => ?_⟩) (by assumption) ?_
     ·(try dsimp only at hSw); go_simp <;> (try rfl)
     simp only [Act.put, sq1, sq2, sq3]
     refine tkq (i := 13) (d := 46) (v := (.slice (some ⟨g, o, none⟩) k d)) rfl rfl (Or.inl ⟨by kernel_rfl, fun w hSw => ?_⟩) (by assumption) ?_
     ·(try dsimp only at hSw); go_simp <;> (try rfl)
     simp only [Act.put, sq1, sq2, sq3]
     refine tkq (i := 14) (d := 47) (v := (.int .i64 ((j : Int) + 1))) rfl rfl (Or.inl ⟨by kernel_rfl, fun w hSw => ?_⟩) (by assumption) ?_
     ·(try dsimp only at hSw); go_simp <;> (try rfl)
     simp only [Act.put, sq1, sq2, sq3]
     refine tkq (i := 15) (d := 48) (v := (.int .i64 (j : Int))) rfl rfl (Or.inl ⟨by kernel_rfl, fun w hSw => ?_⟩) (by assumption) ?_
     ·(try dsimp only at hSw); go_simp <;> (try rfl)
     simp only [Act.put, sq1, sq2, sq3]
     refine tkq (i := 16) (d := 49) (v := (.pointer (some ⟨g, o + j * 6, none⟩))) rfl rfl (Or.inl ⟨by kernel_rfl, fun w hSw => ?_⟩) (by assumption) ?_
     ·(try dsimp only at hSw); go_simp <;> (try rfl)
     simp only [Act.put, sq1, sq2, sq3]
     refine tkq (i := 17) (d := 50) (v := (.pointer (some ⟨g, o + j * 6, none⟩))) rfl rfl (Or.inl ⟨by kernel_rfl, fun w hSw => ?_⟩) (by assumption) ?_
     ·(try dsimp only at hSw); go_simp <;> (try rfl)
     simp only [Act.put, sq1, sq2, sq3]
     refine tkq (i := 18) (d := 51) (v := (.int .i64 pr.fr)) rfl rfl (yields_load_at (by kernel_rfl) 3 (.tmp 50) rfl (.pointer (some ⟨g, o + j * 6, none⟩)) (by simp [Act.eval]) (.int .i64 pr.fr) (fun W hW => load_one' (Try.agg_int W) (rangeAt.through HRj.out hW 0 _ rfl))) (by assumption) ?_
     simp only [Act.put, sq1, sq2, sq3]
     refine tkq (i := 19) (d := 52) (v := (.pointer (some ⟨wr.heap.size, 0, none⟩))) rfl rfl (Or.inl ⟨by kernel_rfl, fun w hSw => ?_⟩) (by assumption) ?_
     ·(try dsimp only at hSw); go_simp <;> (try rfl)
     simp only [Act.put, sq1, sq2, sq3]
     refine tkq (i := 20) (d := 53) (v := (.int .i64 s.fr)) rfl rfl (yields_load_at (by kernel_rfl) 3 (.tmp 52) rfl (.pointer (some ⟨wr.heap.size, 0, none⟩)) (by simp [Act.eval]) (.int .i64 s.fr) (fun W hW => load_one' (Try.agg_int W) ((HBx.out.through hW).cellAt (i := 0) rfl))) (by assumption) ?_
     simp only [Act.put, sq1, sq2, sq3]
     refine tkq (i := 21) (d := 54) (v := (.bool false)) rfl rfl (Or.inl ⟨by kernel_rfl, fun w hSw => ?_⟩) (by assumption) ?_
     ·(try dsimp only at hSw); go_simp <;> (try rfl)
     simp only [Act.put, sq1, sq2, sq3]
     refine tkq (i := 22) (d := 55) (v := (.bool false)) rfl rfl (Or.inl ⟨by kernel_rfl, fun w hSw => ?_⟩) (by assumption) ?_
     ·(try dsimp only at hSw); go_simp <;> (try rfl)
     simp only [Act.put, sq1, sq2, sq3]
     refine tkq (i := 23) (d := 56) (v := (.bool false)) rfl rfl (Or.inl ⟨by kernel_rfl, fun w hSw => ?_⟩) (by assumption) ?_
     ·(try dsimp only at hSw); go_simp <;> (try rfl)
     simp only [Act.put, sq1, sq2, sq3]
     refine tkq (i := 24) (d := 57) (v := (.bool false)) rfl rfl (Or.inl ⟨by kernel_rfl, fun w hSw => ?_⟩) (by assumption) ?_
     ·(try dsimp only at hSw); go_simp <;> (try rfl)
     simp only [Act.put, sq1, sq2, sq3]
     refine tkq (i := 25) (d := 58) (v := (.pointer (some ⟨wr.heap.size, 1, none⟩))) rfl rfl (Or.inl ⟨by kernel_rfl, fun w hSw => ?_⟩) (by assumption) ?_
     ·(try dsimp only at hSw); go_simp <;> (try rfl)
     simp only [Act.put, sq1, sq2, sq3]
     refine tkq (i := 26) (d := 59) (v := (.pointer (some ⟨wr.heap.size, 1, none⟩))) rfl rfl (Or.inl ⟨by kernel_rfl, fun w hSw => ?_⟩) (by assumption) ?_
     ·(try dsimp only at hSw); go_simp <;> (try rfl)
     simp only [Act.put, sq1, sq2, sq3]
     refine tkq (i := 27) (d := 60) (v := (.int .i64 s.ch.vw)) rfl rfl (yields_load_at (by kernel_rfl) 2 (.tmp 59) rfl (.pointer (some ⟨wr.heap.size, 1, none⟩)) (by simp [Act.eval]) (.int .i64 s.ch.vw) (fun W hW => load_one' (Try.agg_i64 W) ((HBx.out.through hW).cellAt (i := 1) rfl))) (by assumption) ?_
     simp only [Act.put, sq1, sq2, sq3]
     refine tkq (i := 28) (d := 61) (v := (.int .i64 view)) rfl rfl (Or.inl ⟨by kernel_rfl, fun w hSw => ?_⟩) (by assumption) ?_
     ·(try dsimp only at hSw); go_simp <;> (try rfl)
     simp only [Act.put, sq1, sq2, sq3]
     refine tkq (i := 29) (d := 62) (v := (.bool true)) rfl rfl (Or.inl ⟨by kernel_rfl, fun w hSw => ?_⟩) (by assumption) ?_
     ·(try dsimp only at hSw); go_simp <;> (try rfl)
     simp only [Act.put, sq1, sq2, sq3]
     refine tkq (i := 30) (d := 63) (v := (.bool true)) rfl rfl (Or.inl ⟨by kernel_rfl, fun w hSw => ?_⟩) (by assumption) ?_
     ·(try dsimp only at hSw); go_simp <;> (try rfl)
     simp only [Act.put, sq1, sq2, sq3]
     refine tkq (i := 31) (d := 64) (v := (.bool true)) rfl rfl (Or.inl ⟨by kernel_rfl, fun w hSw => ?_⟩) (by assumption) ?_
     ·(try dsimp only at hSw); go_simp <;> (try rfl)
     simp only [Act.put, sq1, sq2, sq3]
     refine tkv (i := 32) (d := 65) rfl rfl (by assumption) ?_
     simp only [Act.put, sq1, sq2, sq3]
     refine tkv (i := 33) (d := 66) rfl rfl (by assumption) ?_
     simp only [Act.put, sq1, sq2, sq3]
     refine tkv (i := 34) (d := 67) rfl rfl (by assumption) ?_
     simp only [Act.put, sq1, sq2, sq3]
     refine tkv (i := 35) (d := 68) rfl rfl (by assumption) ?_
     simp only [Act.put, sq1, sq2, sq3]
     refine tkv (i := 36) (d := 69) rfl rfl (by assumption) ?_
     simp only [Act.put, sq1, sq2, sq3]
     refine tkq (i := 37) (d := 70) (v := (.bool true)) rfl rfl (Or.inl ⟨by kernel_rfl, fun w hSw => ?_⟩) (by assumption) ?_
     ·(try dsimp only at hSw); go_simp <;> (try rfl)
     simp only [Act.put, sq1, sq2, sq3]
     refine wpAnyH_done (by kernel_rfl) ?_ _
     have HKk := Lib.hid hHeld
     clear hHeld
     go_wp2
     go_ret
     exact ⟨(by rw [HF.out] <;> rfl), below_step HXx.out HKk.out⟩
    have d3 : (s.ch.vw == view) = true := by simpa using h3
    have d3b : (s.ch.vw != view) = false := by simpa using h3
    cases rb with
    | false =>
     have HF : Hid (er = 2) := Lib.hid (by rw [hq, hdd]; simp [okNv, hrb])
     clear hq hdd hrb h1 h2 hsi e1_ e2_ h3 hsz hpy hpj hrj hS2 h0 h4 e4_
     go_wp2_with (first
      | (refine wpList_load_mid rfl 106 (.tmp 31) rfl g (o + (j + 1) * 6) rfl [.int .i64 s.fr, .int .i64 s.ch.vw, .int .i64 s.ch.lw, .slice P.1 P.2.1 P.2.2, .slice Q.1 Q.2.1 Q.2.2, .slice R.1 R.2.1 R.2.2] _ HRx.out Try.underlying106 rfl (by kernel_rfl) ?_))
     try dsimp only [Act.put]
     refine wp_region_held_drew (S := fun W => Below (wr.alloc (.cells #[.int .i64 s.fr, .int .i64 s.ch.vw, .int .i64 s.ch.lw, .slice P.1 P.2.1 P.2.2, .slice Q.1 Q.2.1 Q.2.2, .slice R.1 R.2.1 R.2.2] 106)).heap.size (wr.alloc (.cells #[.int .i64 s.fr, .int .i64 s.ch.vw, .int .i64 s.ch.lw, .slice P.1 P.2.1 P.2.2, .slice Q.1 Q.2.1 Q.2.2, .slice R.1 R.2.1 R.2.2] 106)) W) (by kernel_rfl) (Below.refl _ _).drew (fun hHeld => ?_)
     change wpAnyH _ _ _ _ _ _ #[false, false, false, false, false, false, false, false, false, false, false, false, false, false, false, false, false, false, false, false, false, false, false, false, false, false, false, false, false, false, false, false, false, false, false, false, false, false] _ _
     refine tkq (i := 0) (d := 33) (v := (.pointer (some ⟨wr.heap.size, 0, none⟩))) rfl rfl (Or.inl ⟨by kernel_rfl, fun w hSw => ?_⟩) (by assumption) ?_
     ·(try dsimp only at hSw); go_simp <;> (try rfl)
     simp only [Act.put, sq1, sq2, sq3]
     refine tkq (i := 1) (d := 34) (v := (.int .i64 s.fr)) rfl rfl (yields_load_at (by kernel_rfl) 3 (.tmp 33) rfl (.pointer (some ⟨wr.heap.size, 0, none⟩)) (by simp [Act.eval]) (.int .i64 s.fr) (fun W hW => load_one' (Try.agg_int W) ((HBx.out.through hW).cellAt (i := 0) rfl))) (by assumption) ?_
     simp only [Act.put, sq1, sq2, sq3]
     refine tkq (i := 2) (d := 35) (v := (.bool false)) rfl rfl (Or.inl ⟨by kernel_rfl, fun w hSw => ?_⟩) (by assumption) ?_
     ·(try dsimp only at hSw); go_simp <;> (try rfl)
     simp only [Act.put, sq1, sq2, sq3]
     refine tkq (i := 3) (d := 36) (v := (.bool false)) rfl rfl (Or.inl ⟨by kernel_rfl, fun w hSw => ?_⟩) (by assumption) ?_
     ·(try dsimp only at hSw); go_simp <;> (try rfl)
     simp only [Act.put, sq1, sq2, sq3]
     refine tkq (i := 4) (d := 37) (v := (.pointer (some ⟨wr.heap.size, 0, none⟩))) rfl rfl (Or.inl ⟨by kernel_rfl, fun w hSw => ?_⟩) (by assumption) ?_
     ·(try dsimp only at hSw); go_simp <;> (try rfl)
     simp only [Act.put, sq1, sq2, sq3]
     refine tkq (i := 5) (d := 38) (v := (.int .i64 s.fr)) rfl rfl (yields_load_at (by kernel_rfl) 3 (.tmp 37) rfl (.pointer (some ⟨wr.heap.size, 0, none⟩)) (by simp [Act.eval]) (.int .i64 s.fr) (fun W hW => load_one' (Try.agg_int W) ((HBx.out.through hW).cellAt (i := 0) rfl))) (by assumption) ?_
     simp only [Act.put, sq1, sq2, sq3]
     refine tkq (i := 6) (d := 39) (v := (.int .i64 n)) rfl rfl (Or.inl ⟨by kernel_rfl, fun w hSw => ?_⟩) (by assumption) ?_
     ·(try dsimp only at hSw); go_simp <;> (try rfl)
     simp only [Act.put, sq1, sq2, sq3]
     refine tkq (i := 7) (d := 40) (v := (.bool false)) rfl rfl (Or.inl ⟨by kernel_rfl, fun w hSw => ?_⟩) (by assumption) ?_
     ·(try dsimp only at hSw); go_simp <;> (try rfl)
     simp only [Act.put, sq1, sq2, sq3]
     refine tkq (i := 8) (d := 41) (v := (.bool false)) rfl rfl (Or.inl ⟨by kernel_rfl, fun w hSw => ?_⟩) (by assumption) ?_
     ·(try dsimp only at hSw); go_simp <;> (try rfl)
     simp only [Act.put, sq1, sq2, sq3]
     refine tkq (i := 9) (d := 42) (v := (.bool false)) rfl rfl (Or.inl ⟨by kernel_rfl, fun w hSw => ?_⟩) (by assumption) ?_
     ·(try dsimp only at hSw); go_simp <;> (try rfl)
     simp only [Act.put, sq1, sq2, sq3]
     refine tkq (i := 10) (d := 43) (v := (.int .i64 ((j : Int) + 1))) rfl rfl (Or.inl ⟨by kernel_rfl, fun w hSw => ?_⟩) (by assumption) ?_
     ·(try dsimp only at hSw); go_simp <;> (try rfl)
     simp only [Act.put, sq1, sq2, sq3]
     refine tkq (i := 11) (d := 44) (v := (.bool true)) rfl rfl (Or.inl ⟨by kernel_rfl, fun w hSw => ?_⟩) (by assumption) ?_
     ·(try dsimp only at hSw); go_simp <;> (try rfl)
     simp only [Act.put, sq1, sq2, sq3]
     refine tkq (i := 12) (d := 45) (v := (.bool true)) rfl rfl (Or.inl ⟨by kernel_rfl, fun w hSw => ?_⟩) (by assumption) ?_
     ·(try dsimp only at hSw); go_simp <;> (try rfl)
     simp only [Act.put, sq1, sq2, sq3]
     refine tkq (i := 13) (d := 46) (v := (.slice (some ⟨g, o, none⟩) k d)) rfl rfl (Or.inl ⟨by kernel_rfl, fun w hSw => ?_⟩) (by assumption) ?_
     ·(try dsimp only at hSw); go_simp <;> (try rfl)
     simp only [Act.put, sq1, sq2, sq3]
     refine tkq (i := 14) (d := 47) (v := (.int .i64 ((j : Int) + 1))) rfl rfl (Or.inl ⟨by kernel_rfl, fun w hSw => ?_⟩) (by assumption) ?_
     ·(try dsimp only at hSw); go_simp <;> (try rfl)
     simp only [Act.put, sq1, sq2, sq3]
     refine tkq (i := 15) (d := 48) (v := (.int .i64 (j : Int))) rfl rfl (Or.inl ⟨by kernel_rfl, fun w hSw => ?_⟩) (by assumption) ?_
     ·(try dsimp only at hSw); go_simp <;> (try rfl)
     simp only [Act.put, sq1, sq2, sq3]
     refine tkq (i := 16) (d := 49) (v := (.pointer (some ⟨g, o + j * 6, none⟩))) rfl rfl (Or.inl ⟨by kernel_rfl, fun w hSw => ?_⟩) (by assumption) ?_
     ·(try dsimp only at hSw); go_simp <;> (try rfl)
     simp only [Act.put, sq1, sq2, sq3]
     refine tkq (i := 17) (d := 50) (v := (.pointer (some ⟨g, o + j * 6, none⟩))) rfl rfl (Or.inl ⟨by kernel_rfl, fun w hSw => ?_⟩) (by assumption) ?_
     ·(try dsimp only at hSw); go_simp <;> (try rfl)
     simp only [Act.put, sq1, sq2, sq3]
     refine tkq (i := 18) (d := 51) (v := (.int .i64 pr.fr)) rfl rfl (yields_load_at (by kernel_rfl) 3 (.tmp 50) rfl (.pointer (some ⟨g, o + j * 6, none⟩)) (by simp [Act.eval]) (.int .i64 pr.fr) (fun W hW => load_one' (Try.agg_int W) (rangeAt.through HRj.out hW 0 _ rfl))) (by assumption) ?_
     simp only [Act.put, sq1, sq2, sq3]
     refine tkq (i := 19) (d := 52) (v := (.pointer (some ⟨wr.heap.size, 0, none⟩))) rfl rfl (Or.inl ⟨by kernel_rfl, fun w hSw => ?_⟩) (by assumption) ?_
     ·(try dsimp only at hSw); go_simp <;> (try rfl)
     simp only [Act.put, sq1, sq2, sq3]
     refine tkq (i := 20) (d := 53) (v := (.int .i64 s.fr)) rfl rfl (yields_load_at (by kernel_rfl) 3 (.tmp 52) rfl (.pointer (some ⟨wr.heap.size, 0, none⟩)) (by simp [Act.eval]) (.int .i64 s.fr) (fun W hW => load_one' (Try.agg_int W) ((HBx.out.through hW).cellAt (i := 0) rfl))) (by assumption) ?_
     simp only [Act.put, sq1, sq2, sq3]
     refine tkq (i := 21) (d := 54) (v := (.bool false)) rfl rfl (Or.inl ⟨by kernel_rfl, fun w hSw => ?_⟩) (by assumption) ?_
     ·(try dsimp only at hSw); go_simp <;> (try rfl)
     simp only [Act.put, sq1, sq2, sq3]
     refine tkq (i := 22) (d := 55) (v := (.bool false)) rfl rfl (Or.inl ⟨by kernel_rfl, fun w hSw => ?_⟩) (by assumption) ?_
     ·(try dsimp only at hSw); go_simp <;> (try rfl)
     simp only [Act.put, sq1, sq2, sq3]
     refine tkq (i := 23) (d := 56) (v := (.bool false)) rfl rfl (Or.inl ⟨by kernel_rfl, fun w hSw => ?_⟩) (by assumption) ?_
     ·(try dsimp only at hSw); go_simp <;> (try rfl)
     simp only [Act.put, sq1, sq2, sq3]
     refine tkq (i := 24) (d := 57) (v := (.bool false)) rfl rfl (Or.inl ⟨by kernel_rfl, fun w hSw => ?_⟩) (by assumption) ?_
     ·(try dsimp only at hSw); go_simp <;> (try rfl)
     simp only [Act.put, sq1, sq2, sq3]
     refine tkq (i := 25) (d := 58) (v := (.pointer (some ⟨wr.heap.size, 1, none⟩))) rfl rfl (Or.inl ⟨by kernel_rfl, fun w hSw => ?_⟩) (by assumption) ?_
     ·(try dsimp only at hSw); go_simp <;> (try rfl)
     simp only [Act.put, sq1, sq2, sq3]
     refine tkq (i := 26) (d := 59) (v := (.pointer (some ⟨wr.heap.size, 1, none⟩))) rfl rfl (Or.inl ⟨by kernel_rfl, fun w hSw => ?_⟩) (by assumption) ?_
     ·(try dsimp only at hSw); go_simp <;> (try rfl)
     simp only [Act.put, sq1, sq2, sq3]
     refine tkq (i := 27) (d := 60) (v := (.int .i64 s.ch.vw)) rfl rfl (yields_load_at (by kernel_rfl) 2 (.tmp 59) rfl (.pointer (some ⟨wr.heap.size, 1, none⟩)) (by simp [Act.eval]) (.int .i64 s.ch.vw) (fun W hW => load_one' (Try.agg_i64 W) ((HBx.out.through hW).cellAt (i := 1) rfl))) (by assumption) ?_
     simp only [Act.put, sq1, sq2, sq3]
     refine tkq (i := 28) (d := 61) (v := (.int .i64 view)) rfl rfl (Or.inl ⟨by kernel_rfl, fun w hSw => ?_⟩) (by assumption) ?_
     ·(try dsimp only at hSw); go_simp <;> (try rfl)
     simp only [Act.put, sq1, sq2, sq3]
     refine tkq (i := 29) (d := 62) (v := (.bool false)) rfl rfl (Or.inl ⟨by kernel_rfl, fun w hSw => ?_⟩) (by assumption) ?_
     ·(try dsimp only at hSw); go_simp <;> (try rfl)
     simp only [Act.put, sq1, sq2, sq3]
     refine tkq (i := 30) (d := 63) (v := (.bool false)) rfl rfl (Or.inl ⟨by kernel_rfl, fun w hSw => ?_⟩) (by assumption) ?_
     ·(try dsimp only at hSw); go_simp <;> (try rfl)
     simp only [Act.put, sq1, sq2, sq3]
     refine tkq (i := 31) (d := 64) (v := (.bool false)) rfl rfl (Or.inl ⟨by kernel_rfl, fun w hSw => ?_⟩) (by assumption) ?_
     ·(try dsimp only at hSw); go_simp <;> (try rfl)
     simp only [Act.put, sq1, sq2, sq3]
     refine tkq (i := 32) (d := 65) (v := (.pointer (some ⟨wr.heap.size, 1, none⟩))) rfl rfl (Or.inl ⟨by kernel_rfl, fun w hSw => ?_⟩) (by assumption) ?_
     ·(try dsimp only at hSw); go_simp <;> (try rfl)
     simp only [Act.put, sq1, sq2, sq3]
     refine tkq (i := 33) (d := 66) (v := (.agg (Ch.cells s.ch P Q R).toArray)) rfl rfl (yieldsIf_load_mid (by kernel_rfl) 25 (.tmp 65) rfl wr.heap.size 1 (by simp [Act.eval]) (Ch.cells s.ch P Q R) _ (fun W hW => rangeAt.through HRc.out hW) Try.underlying25 rfl (by kernel_rfl)) (by assumption) ?_
     simp only [Act.put, sq1, sq2, sq3]
     refine tkq (i := 34) (d := 67) (v := (.int .i64 n)) rfl rfl (Or.inl ⟨by kernel_rfl, fun w hSw => ?_⟩) (by assumption) ?_
     ·(try dsimp only at hSw); go_simp <;> (try rfl)
     simp only [Act.put, sq1, sq2, sq3]
     refine wpAnyH_ready (rs := [35]) (by kernel_rfl) (by simp) ?_
     refine AllReadyH.cons rfl (fun K hK => ?_) AllReadyH.nil
     go_simp
     refine (HRi.out _ (HIx.out.through hHeld)).mono ?_
     rintro e wq ⟨rfl, hbq⟩; have HKq := Lib.hid (below_step hHeld hbq); clear hbq
     go_wp2_with fail
     refine hK.out _ _ HKq.out (fun hHeld1 => ?_)
     clear hHeld hK K
     have hHeld := hHeld1
     clear hHeld1
     refine tkq (i := 36) (d := 69) (v := (.bool true)) rfl rfl (Or.inl ⟨by kernel_rfl, fun w hSw => ?_⟩) (by assumption) ?_
     ·(try dsimp only at hSw); go_simp <;> (try rfl)
     simp only [Act.put, sq1, sq2, sq3]
     refine tkq (i := 37) (d := 70) (v := (.bool true)) rfl rfl (Or.inl ⟨by kernel_rfl, fun w hSw => ?_⟩) (by assumption) ?_
     ·(try dsimp only at hSw); go_simp <;> (try rfl)
     simp only [Act.put, sq1, sq2, sq3]
     refine wpAnyH_done (by kernel_rfl) ?_ _
     have HKk := Lib.hid hHeld
     clear hHeld
     go_wp2
     go_ret
     exact ⟨(by rw [HF.out] <;> rfl), below_step HXx.out HKk.out⟩
    | true =>
     have HN : Hid (er = if okNv view n (if j + 1 + 1 = 0 then none else (l[j + 1 + 1 - 1]?).map (·.fr)) (l.drop (j + 1 + 1)) = true then 0 else 2) := Lib.hid (by rw [hq, hdd, if_neg (show ¬ (j + 1 + 1 = 0) by omega), hsz]; simp [okNv, h3, hrb, e1_, e2_, e4_])
     clear hq hdd hrb h1 h2 hsi e1_ e2_ h3 hsz hpy hpj hrj hS2 h0 h4 e4_
     go_wp2_with (first
      | (refine wpList_load_mid rfl 106 (.tmp 31) rfl g (o + (j + 1) * 6) rfl [.int .i64 s.fr, .int .i64 s.ch.vw, .int .i64 s.ch.lw, .slice P.1 P.2.1 P.2.2, .slice Q.1 Q.2.1 Q.2.2, .slice R.1 R.2.1 R.2.2] _ HRx.out Try.underlying106 rfl (by kernel_rfl) ?_))
     try dsimp only [Act.put]
     refine wp_region_held_drew (S := fun W => Below (wr.alloc (.cells #[.int .i64 s.fr, .int .i64 s.ch.vw, .int .i64 s.ch.lw, .slice P.1 P.2.1 P.2.2, .slice Q.1 Q.2.1 Q.2.2, .slice R.1 R.2.1 R.2.2] 106)).heap.size (wr.alloc (.cells #[.int .i64 s.fr, .int .i64 s.ch.vw, .int .i64 s.ch.lw, .slice P.1 P.2.1 P.2.2, .slice Q.1 Q.2.1 Q.2.2, .slice R.1 R.2.1 R.2.2] 106)) W) (by kernel_rfl) (Below.refl _ _).drew (fun hHeld => ?_)
     change wpAnyH _ _ _ _ _ _ #[false, false, false, false, false, false, false, false, false, false, false, false, false, false, false, false, false, false, false, false, false, false, false, false, false, false, false, false, false, false, false, false, false, false, false, false, false, false] _ _
     refine tkq (i := 0) (d := 33) (v := (.pointer (some ⟨wr.heap.size, 0, none⟩))) rfl rfl (Or.inl ⟨by kernel_rfl, fun w hSw => ?_⟩) (by assumption) ?_
     ·(try dsimp only at hSw); go_simp <;> (try rfl)
     simp only [Act.put, sq1, sq2, sq3]
     refine tkq (i := 1) (d := 34) (v := (.int .i64 s.fr)) rfl rfl (yields_load_at (by kernel_rfl) 3 (.tmp 33) rfl (.pointer (some ⟨wr.heap.size, 0, none⟩)) (by simp [Act.eval]) (.int .i64 s.fr) (fun W hW => load_one' (Try.agg_int W) ((HBx.out.through hW).cellAt (i := 0) rfl))) (by assumption) ?_
     simp only [Act.put, sq1, sq2, sq3]
     refine tkq (i := 2) (d := 35) (v := (.bool false)) rfl rfl (Or.inl ⟨by kernel_rfl, fun w hSw => ?_⟩) (by assumption) ?_
     ·(try dsimp only at hSw); go_simp <;> (try rfl)
     simp only [Act.put, sq1, sq2, sq3]
     refine tkq (i := 3) (d := 36) (v := (.bool false)) rfl rfl (Or.inl ⟨by kernel_rfl, fun w hSw => ?_⟩) (by assumption) ?_
     ·(try dsimp only at hSw); go_simp <;> (try rfl)
     simp only [Act.put, sq1, sq2, sq3]
     refine tkq (i := 4) (d := 37) (v := (.pointer (some ⟨wr.heap.size, 0, none⟩))) rfl rfl (Or.inl ⟨by kernel_rfl, fun w hSw => ?_⟩) (by assumption) ?_
     ·(try dsimp only at hSw); go_simp <;> (try rfl)
     simp only [Act.put, sq1, sq2, sq3]
     refine tkq (i := 5) (d := 38) (v := (.int .i64 s.fr)) rfl rfl (yields_load_at (by kernel_rfl) 3 (.tmp 37) rfl (.pointer (some ⟨wr.heap.size, 0, none⟩)) (by simp [Act.eval]) (.int .i64 s.fr) (fun W hW => load_one' (Try.agg_int W) ((HBx.out.through hW).cellAt (i := 0) rfl))) (by assumption) ?_
     simp only [Act.put, sq1, sq2, sq3]
     refine tkq (i := 6) (d := 39) (v := (.int .i64 n)) rfl rfl (Or.inl ⟨by kernel_rfl, fun w hSw => ?_⟩) (by assumption) ?_
     ·(try dsimp only at hSw); go_simp <;> (try rfl)
     simp only [Act.put, sq1, sq2, sq3]
     refine tkq (i := 7) (d := 40) (v := (.bool false)) rfl rfl (Or.inl ⟨by kernel_rfl, fun w hSw => ?_⟩) (by assumption) ?_
     ·(try dsimp only at hSw); go_simp <;> (try rfl)
     simp only [Act.put, sq1, sq2, sq3]
     refine tkq (i := 8) (d := 41) (v := (.bool false)) rfl rfl (Or.inl ⟨by kernel_rfl, fun w hSw => ?_⟩) (by assumption) ?_
     ·(try dsimp only at hSw); go_simp <;> (try rfl)
     simp only [Act.put, sq1, sq2, sq3]
     refine tkq (i := 9) (d := 42) (v := (.bool false)) rfl rfl (Or.inl ⟨by kernel_rfl, fun w hSw => ?_⟩) (by assumption) ?_
     ·(try dsimp only at hSw); go_simp <;> (try rfl)
     simp only [Act.put, sq1, sq2, sq3]
     refine tkq (i := 10) (d := 43) (v := (.int .i64 ((j : Int) + 1))) rfl rfl (Or.inl ⟨by kernel_rfl, fun w hSw => ?_⟩) (by assumption) ?_
     ·(try dsimp only at hSw); go_simp <;> (try rfl)
     simp only [Act.put, sq1, sq2, sq3]
     refine tkq (i := 11) (d := 44) (v := (.bool true)) rfl rfl (Or.inl ⟨by kernel_rfl, fun w hSw => ?_⟩) (by assumption) ?_
     ·(try dsimp only at hSw); go_simp <;> (try rfl)
     simp only [Act.put, sq1, sq2, sq3]
     refine tkq (i := 12) (d := 45) (v := (.bool true)) rfl rfl (Or.inl ⟨by kernel_rfl, fun w hSw => ?_⟩) (by assumption) ?_
     ·(try dsimp only at hSw); go_simp <;> (try rfl)
     simp only [Act.put, sq1, sq2, sq3]
     refine tkq (i := 13) (d := 46) (v := (.slice (some ⟨g, o, none⟩) k d)) rfl rfl (Or.inl ⟨by kernel_rfl, fun w hSw => ?_⟩) (by assumption) ?_
     ·(try dsimp only at hSw); go_simp <;> (try rfl)
     simp only [Act.put, sq1, sq2, sq3]
     refine tkq (i := 14) (d := 47) (v := (.int .i64 ((j : Int) + 1))) rfl rfl (Or.inl ⟨by kernel_rfl, fun w hSw => ?_⟩) (by assumption) ?_
     ·(try dsimp only at hSw); go_simp <;> (try rfl)
     simp only [Act.put, sq1, sq2, sq3]
     refine tkq (i := 15) (d := 48) (v := (.int .i64 (j : Int))) rfl rfl (Or.inl ⟨by kernel_rfl, fun w hSw => ?_⟩) (by assumption) ?_
     ·(try dsimp only at hSw); go_simp <;> (try rfl)
     simp only [Act.put, sq1, sq2, sq3]
     refine tkq (i := 16) (d := 49) (v := (.pointer (some ⟨g, o + j * 6, none⟩))) rfl rfl (Or.inl ⟨by kernel_rfl, fun w hSw => ?_⟩) (by assumption) ?_
     ·(try dsimp only at hSw); go_simp <;> (try rfl)
     simp only [Act.put, sq1, sq2, sq3]
     refine tkq (i := 17) (d := 50) (v := (.pointer (some ⟨g, o + j * 6, none⟩))) rfl rfl (Or.inl ⟨by kernel_rfl, fun w hSw => ?_⟩) (by assumption) ?_
     ·(try dsimp only at hSw); go_simp <;> (try rfl)
     simp only [Act.put, sq1, sq2, sq3]
     refine tkq (i := 18) (d := 51) (v := (.int .i64 pr.fr)) rfl rfl (yields_load_at (by kernel_rfl) 3 (.tmp 50) rfl (.pointer (some ⟨g, o + j * 6, none⟩)) (by simp [Act.eval]) (.int .i64 pr.fr) (fun W hW => load_one' (Try.agg_int W) (rangeAt.through HRj.out hW 0 _ rfl))) (by assumption) ?_
     simp only [Act.put, sq1, sq2, sq3]
     refine tkq (i := 19) (d := 52) (v := (.pointer (some ⟨wr.heap.size, 0, none⟩))) rfl rfl (Or.inl ⟨by kernel_rfl, fun w hSw => ?_⟩) (by assumption) ?_
     ·(try dsimp only at hSw); go_simp <;> (try rfl)
     simp only [Act.put, sq1, sq2, sq3]
     refine tkq (i := 20) (d := 53) (v := (.int .i64 s.fr)) rfl rfl (yields_load_at (by kernel_rfl) 3 (.tmp 52) rfl (.pointer (some ⟨wr.heap.size, 0, none⟩)) (by simp [Act.eval]) (.int .i64 s.fr) (fun W hW => load_one' (Try.agg_int W) ((HBx.out.through hW).cellAt (i := 0) rfl))) (by assumption) ?_
     simp only [Act.put, sq1, sq2, sq3]
     refine tkq (i := 21) (d := 54) (v := (.bool false)) rfl rfl (Or.inl ⟨by kernel_rfl, fun w hSw => ?_⟩) (by assumption) ?_
     ·(try dsimp only at hSw); go_simp <;> (try rfl)
     simp only [Act.put, sq1, sq2, sq3]
     refine tkq (i := 22) (d := 55) (v := (.bool false)) rfl rfl (Or.inl ⟨by kernel_rfl, fun w hSw => ?_⟩) (by assumption) ?_
     ·(try dsimp only at hSw); go_simp <;> (try rfl)
     simp only [Act.put, sq1, sq2, sq3]
     refine tkq (i := 23) (d := 56) (v := (.bool false)) rfl rfl (Or.inl ⟨by kernel_rfl, fun w hSw => ?_⟩) (by assumption) ?_
     ·(try dsimp only at hSw); go_simp <;> (try rfl)
     simp only [Act.put, sq1, sq2, sq3]
     refine tkq (i := 24) (d := 57) (v := (.bool false)) rfl rfl (Or.inl ⟨by kernel_rfl, fun w hSw => ?_⟩) (by assumption) ?_
     ·(try dsimp only at hSw); go_simp <;> (try rfl)
     simp only [Act.put, sq1, sq2, sq3]
     refine tkq (i := 25) (d := 58) (v := (.pointer (some ⟨wr.heap.size, 1, none⟩))) rfl rfl (Or.inl ⟨by kernel_rfl, fun w hSw => ?_⟩) (by assumption) ?_
     ·(try dsimp only at hSw); go_simp <;> (try rfl)
     simp only [Act.put, sq1, sq2, sq3]
     refine tkq (i := 26) (d := 59) (v := (.pointer (some ⟨wr.heap.size, 1, none⟩))) rfl rfl (Or.inl ⟨by kernel_rfl, fun w hSw => ?_⟩) (by assumption) ?_
     ·(try dsimp only at hSw); go_simp <;> (try rfl)
     simp only [Act.put, sq1, sq2, sq3]
     refine tkq (i := 27) (d := 60) (v := (.int .i64 s.ch.vw)) rfl rfl (yields_load_at (by kernel_rfl) 2 (.tmp 59) rfl (.pointer (some ⟨wr.heap.size, 1, none⟩)) (by simp [Act.eval]) (.int .i64 s.ch.vw) (fun W hW => load_one' (Try.agg_i64 W) ((HBx.out.through hW).cellAt (i := 1) rfl))) (by assumption) ?_
     simp only [Act.put, sq1, sq2, sq3]
     refine tkq (i := 28) (d := 61) (v := (.int .i64 view)) rfl rfl (Or.inl ⟨by kernel_rfl, fun w hSw => ?_⟩) (by assumption) ?_
     ·(try dsimp only at hSw); go_simp <;> (try rfl)
     simp only [Act.put, sq1, sq2, sq3]
     refine tkq (i := 29) (d := 62) (v := (.bool false)) rfl rfl (Or.inl ⟨by kernel_rfl, fun w hSw => ?_⟩) (by assumption) ?_
     ·(try dsimp only at hSw); go_simp <;> (try rfl)
     simp only [Act.put, sq1, sq2, sq3]
     refine tkq (i := 30) (d := 63) (v := (.bool false)) rfl rfl (Or.inl ⟨by kernel_rfl, fun w hSw => ?_⟩) (by assumption) ?_
     ·(try dsimp only at hSw); go_simp <;> (try rfl)
     simp only [Act.put, sq1, sq2, sq3]
     refine tkq (i := 31) (d := 64) (v := (.bool false)) rfl rfl (Or.inl ⟨by kernel_rfl, fun w hSw => ?_⟩) (by assumption) ?_
     ·(try dsimp only at hSw); go_simp <;> (try rfl)
     simp only [Act.put, sq1, sq2, sq3]
     refine tkq (i := 32) (d := 65) (v := (.pointer (some ⟨wr.heap.size, 1, none⟩))) rfl rfl (Or.inl ⟨by kernel_rfl, fun w hSw => ?_⟩) (by assumption) ?_
     ·(try dsimp only at hSw); go_simp <;> (try rfl)
     simp only [Act.put, sq1, sq2, sq3]
     refine tkq (i := 33) (d := 66) (v := (.agg (Ch.cells s.ch P Q R).toArray)) rfl rfl (yieldsIf_load_mid (by kernel_rfl) 25 (.tmp 65) rfl wr.heap.size 1 (by simp [Act.eval]) (Ch.cells s.ch P Q R) _ (fun W hW => rangeAt.through HRc.out hW) Try.underlying25 rfl (by kernel_rfl)) (by assumption) ?_
     simp only [Act.put, sq1, sq2, sq3]
     refine tkq (i := 34) (d := 67) (v := (.int .i64 n)) rfl rfl (Or.inl ⟨by kernel_rfl, fun w hSw => ?_⟩) (by assumption) ?_
     ·(try dsimp only at hSw); go_simp <;> (try rfl)
     simp only [Act.put, sq1, sq2, sq3]
     refine wpAnyH_ready (rs := [35]) (by kernel_rfl) (by simp) ?_
     refine AllReadyH.cons rfl (fun K hK => ?_) AllReadyH.nil
     go_simp
     refine (HRi.out _ (HIx.out.through hHeld)).mono ?_
     rintro e wq ⟨rfl, hbq⟩; have HKq := Lib.hid (below_step hHeld hbq); clear hbq
     go_wp2_with fail
     refine hK.out _ _ HKq.out (fun hHeld1 => ?_)
     clear hHeld hK K
     have hHeld := hHeld1
     clear hHeld1
     refine tkq (i := 36) (d := 69) (v := (.bool false)) rfl rfl (Or.inl ⟨by kernel_rfl, fun w hSw => ?_⟩) (by assumption) ?_
     ·(try dsimp only at hSw); go_simp <;> (try rfl)
     simp only [Act.put, sq1, sq2, sq3]
     refine tkq (i := 37) (d := 70) (v := (.bool false)) rfl rfl (Or.inl ⟨by kernel_rfl, fun w hSw => ?_⟩) (by assumption) ?_
     ·(try dsimp only at hSw); go_simp <;> (try rfl)
     simp only [Act.put, sq1, sq2, sq3]
     refine wpAnyH_done (by kernel_rfl) ?_ _
     have HKk := Lib.hid hHeld
     clear hHeld
     go_wp2
     go_roundw
     case rel => exact ⟨j + 1 + 1, by omega, by go_num, HN.out, below_step HXx.out HKk.out⟩
     case measure => simp [intOf]; omega
  ·have e9 : l.drop i = [] := List.drop_of_length_le (by have := HLn.out; omega)
   have HF : Hid (er = 0) := Lib.hid (by rw [hq, e9]; cases (if i = 0 then none else (l[i - 1]?).map (·.fr)) <;> simp [okNv])
   clear hq e9
   go_wp2
   go_ret
   exact ⟨(by rw [HF.out] <;> rfl), HXv.out⟩

end Go.Proofs.Ytheecifgbkdecaa
