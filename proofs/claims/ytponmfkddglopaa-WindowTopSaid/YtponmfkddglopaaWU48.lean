/-
  Joined: WlT.
-/
import Derived.Test.YtponmfkddglopaaWU47
namespace Go.Proofs.Ytponmfkddglopaa
open Go.RowKit

set_option maxHeartbeats 16000000 in
set_option maxRecDepth 100000 in
theorem top22_any (bk q : Int) (w : World) (h0 : 0 ≤ bk) (h1 : bk ≤ 255) :
  Calls Try.prog 4 #[.int .u8 bk, .int .i64 q] w fun e w' => e = .returned (.bool true) ∧ Below w.heap.size w w' := by
 obtain ⟨r, hr⟩ : ∃ r, bk.tmod 12 = r := ⟨_, rfl⟩
 have hr0 : 0 ≤ r ∧ r ≤ 11 := by
  rw [Int.tmod_eq_emod_of_nonneg h0] at hr
  omega
 obtain ⟨low, hlow⟩ : ∃ low, 1048576 - r = low := ⟨_, rfl⟩
 have hw1 : IntKind.i64.wrap r = r := IntWalk.i64_in _ (by omega)
 have hw2 : wrap64 r = r := IntWalk.wrap64_in _ (by omega)
 have hw3 : IntKind.i64.wrap (1048576 - r) = low := by rw [hlow]; exact IntWalk.i64_in _ (by omega)
 have hw4 : wrap64 (1048576 - r) = low := by rw [hlow]; exact IntWalk.wrap64_in _ (by omega)
 have HL0 : Hid (0 ≤ low) := Lib.hid (by omega)
 have HL1 : Hid (low ≤ 1048576) := Lib.hid (by omega)
 have HL2 : Hid (1048565 ≤ low) := Lib.hid (by omega)
 have HLw : Hid (¬ (low < 0 ∨ 1048576 < low)) := Lib.hid (by omega)
 have hw5 : IntKind.i64.wrap (low + 20) = low + 20 := IntWalk.i64_in _ (by omega)
 have hw6 : wrap64 (low + 20) = low + 20 := IntWalk.wrap64_in _ (by omega)
 have hw7 : IntKind.i64.wrap (low + 8) = low + 8 := IntWalk.i64_in _ (by omega)
 have hw8 : wrap64 (low + 8) = low + 8 := IntWalk.wrap64_in _ (by omega)
 clear hr0 hlow
 go_enter Try.func4, Try.ntmps4
 go_wp2_with (first
  | (go_at_call 5; (with_reducible refine (fixed22_of _).mono ?_); rintro e w1 ⟨rfl, hb9⟩; have HX1 := Lib.hid hb9; clear hb9)
  | (go_at_call 6; (with_reducible refine (new_lp 4 _ (by decide) (by decide)).mono ?_); rintro e w2 ⟨B, gm, rfl, hp9, hb9, hB9, hG9⟩; have HP2 := Lib.hid hp9; have HX2 := Lib.hid (below_step HX1.out hb9); have HBl := Lib.hid (Nat.le_trans HX1.out.size hB9); have HGl := Lib.hid (Nat.le_trans HX1.out.size hG9); clear hp9 hb9 hB9 hG9)
  | (go_at_call 9; (with_reducible refine (move_lp low HP2.out (by decide) HLw.out).mono ?_); rintro e w3 ⟨rfl, hp9, hf9⟩; have HP3 : Hid (PLg w3 B gm 4 low []) := Lib.hid hp9; have HX3 : Hid (Below w.heap.size w w3) := Lib.hid (hf9.below HX2.out HX2.out.size (fun b hb => hb.elim (fun e => by rw [e]; exact HBl.out) (fun e => by rw [e]; exact HGl.out))); clear hp9 hf9)
  | (go_at_call 9; (with_reducible refine (move_lno 1048577 HP3.out (by decide) (.inr (by decide))).mono ?_); rintro e w9 ⟨rfl, hw9⟩; have hw8 := hw9.symm; clear hw9; subst hw8))
 go_loopw [7] (fun sv wr => ∃ (i : Nat), i ≤ 21 ∧ sv = .int .i64 (low + (i : Int)) ∧ wr = w3) (fun sv _ => (1048700 - (intOf sv)).toNat)
 case atStart => exact ⟨0, by omega, by simp, rfl⟩
 case round =>
  obtain ⟨i, hi, rfl, rfl⟩ := hrel
  have hl0 := HL0.out
  have hl1 := HL1.out
  by_cases hlt : i ≤ 20
  ·have a0 : low + (i : Int) ≤ low + 20 := by omega
   have hw9 : IntKind.i64.wrap (low + (i : Int) + 1) = low + (i : Int) + 1 := IntWalk.i64_in _ (by omega)
   have hw10 : wrap64 (low + (i : Int) + 1) = low + (i : Int) + 1 := IntWalk.wrap64_in _ (by omega)
   by_cases a1 : low < low + (i : Int)
   ·by_cases a2 : low + (i : Int) ≤ low + 8
    ·by_cases a3 : low + (i : Int) ≤ 1048576
     ·have hib : inB low (low + (i : Int)) = true := by unfold inB; simp; omega
      go_wp2_with (first
       | (go_at_call 10; (with_reducible refine (in_lp (low + (i : Int)) _ HP3.out.box (by decide) HL0.out HL1.out).mono ?_); rintro e w9 ⟨rfl, hw9⟩; have hw8 := hw9.symm; clear hw9; subst hw8; rw [hib]))
      go_roundw
      case rel => exact ⟨i + 1, by omega, by first | go_num | (push_cast; congr 1; omega), by first | rfl | trivial⟩
      case measure => simp [intOf]; omega
     ·skip
      have hib : inB low (low + (i : Int)) = false := by unfold inB; simp; omega
      go_wp2_with (first
       | (go_at_call 10; (with_reducible refine (in_lp (low + (i : Int)) _ HP3.out.box (by decide) HL0.out HL1.out).mono ?_); rintro e w9 ⟨rfl, hw9⟩; have hw8 := hw9.symm; clear hw9; subst hw8; rw [hib]))
      go_roundw
      case rel => exact ⟨i + 1, by omega, by first | go_num | (push_cast; congr 1; omega), by first | rfl | trivial⟩
      case measure => simp [intOf]; omega
    ·skip
     have hib : inB low (low + (i : Int)) = false := by unfold inB; simp; omega
     go_wp2_with (first
      | (go_at_call 10; (with_reducible refine (in_lp (low + (i : Int)) _ HP3.out.box (by decide) HL0.out HL1.out).mono ?_); rintro e w9 ⟨rfl, hw9⟩; have hw8 := hw9.symm; clear hw9; subst hw8; rw [hib]))
     go_roundw
     case rel => exact ⟨i + 1, by omega, by first | go_num | (push_cast; congr 1; omega), by first | rfl | trivial⟩
     case measure => simp [intOf]; omega
   ·skip
    have hib : inB low (low + (i : Int)) = false := by unfold inB; simp; omega
    go_wp2_with (first
     | (go_at_call 10; (with_reducible refine (in_lp (low + (i : Int)) _ HP3.out.box (by decide) HL0.out HL1.out).mono ?_); rintro e w9 ⟨rfl, hw9⟩; have hw8 := hw9.symm; clear hw9; subst hw8; rw [hib]))
    go_roundw
    case rel => exact ⟨i + 1, by omega, by first | go_num | (push_cast; congr 1; omega), by first | rfl | trivial⟩
    case measure => simp [intOf]; omega
  ·have a0 : ¬ low + (i : Int) ≤ low + 20 := by omega
   cases hin : inB low q with
   | true =>
    go_wp2_with (first
     | (go_at_call 7; (with_reducible refine (at_lnew q HP3.out (by decide) HL0.out HL1.out (by decide) hin (by simp)).mono ?_); rintro e w4 ⟨R, D, rfl, hp9, hf9, hD9⟩; have HP4 := Lib.hid hp9; have HX4 : Hid (Below w.heap.size w w4) := Lib.hid (hf9.below HX3.out HX3.out.size (fun b hb => by rw [hb]; exact HGl.out)); clear hp9 hf9 hD9)
     | (go_at_call 10; (with_reducible refine (in_lp q _ HP4.out.box (by decide) HL0.out HL1.out).mono ?_); rintro e w9 ⟨rfl, hw9⟩; have hw8 := hw9.symm; clear hw9; subst hw8; rw [hin]))
    go_ret
    exact ⟨rfl, HX4.out⟩
   | false =>
    go_wp2_with (first
     | (go_at_call 7; (with_reducible refine (at_lout q HP3.out (by decide) HL0.out HL1.out hin).mono ?_); rintro e w9 ⟨rfl, hw9⟩; have hw8 := hw9.symm; clear hw9; subst hw8)
     | (go_at_call 10; (with_reducible refine (in_lp q _ HP3.out.box (by decide) HL0.out HL1.out).mono ?_); rintro e w9 ⟨rfl, hw9⟩; have hw8 := hw9.symm; clear hw9; subst hw8; rw [hin]))
    go_ret
    exact ⟨rfl, HX3.out⟩

end Go.Proofs.Ytponmfkddglopaa
