/-
  Joined: TpN.
-/
import Derived.Test.YtkpgjcahmpekbaaTU42
namespace Go.Proofs.Ytkpgjcahmpekbaa
open Go.RowKit

set_option maxHeartbeats 16000000 in
set_option maxRecDepth 100000 in
theorem voters_nil (w : World) : Calls Try.prog 56 #[.pointer none] w fun e w' => e = .returned (.slice none 0 0) ∧ w' = w := by
 go_enter Try.func56, Try.ntmps56
 go_wp2
 go_ret
 exact ⟨rfl, rfl⟩
set_option maxHeartbeats 16000000 in
set_option maxRecDepth 100000 in
theorem of_nil (w : World) : Calls Try.prog 23 #[.pointer none, .int .i64 1] w fun e w' => e = .returned (.tuple #[encS [], .bool false]) ∧ Below w.heap.size w w' := by
 go_enter Try.func23, Try.ntmps23
 go_wp2
 go_ret2
 exact ⟨rfl, below1_ w _⟩
set_option maxHeartbeats 16000000 in
set_option maxRecDepth 100000 in
theorem change_nil (w : World) : Calls Try.prog 21 #[.pointer none, .int .i64 1, (.string ⟨#[97]⟩)] w fun e w' => e = .returned (.tuple #[]) ∧ w' = w := by
 go_enter Try.func21, Try.ntmps21
 go_wp2
 (try simp only [Exit.inBlock, Exit.then]); refine bodyPost_ret (results_none rfl _ _ _) rfl ?_
 exact ⟨rfl, rfl⟩
set_option maxHeartbeats 16000000 in
set_option maxRecDepth 100000 in
theorem add_nil (w : World) : Calls Try.prog 24 #[.pointer none, .int .i64 1, (.string ⟨#[97]⟩)] w fun e w' => e = .returned (.bool false) ∧ Below w.heap.size w w' := by
 go_enter Try.func24, Try.ntmps24
 go_wp2_with (first
  | (go_at_call 23; (with_reducible refine (of_nil w).mono ?_); rintro e w1 ⟨rfl, hb9⟩; have HXw1 := Lib.hid (hb9); clear hb9)
  | (go_at_call 21; (with_reducible refine (change_nil _).mono ?_); rintro e w9 ⟨rfl, hw9⟩; have hw8 := hw9.symm; clear hw9; subst hw8)
  | (go_at_call 23; (with_reducible refine (of_nil w1).mono ?_); rintro e w2 ⟨rfl, hb9⟩; have HXw2 := Lib.hid (below_step HXw1.out hb9); clear hb9))
 go_ret
 exact ⟨rfl, HXw2.out⟩
set_option maxHeartbeats 16000000 in
set_option maxRecDepth 100000 in
theorem len_nil (w : World) : Calls Try.prog 25 #[.pointer none] w fun e w' => e = .returned (.int .i64 0) ∧ w' = w := by
 go_enter Try.func25, Try.ntmps25
 go_wp2
 go_ret
 exact ⟨rfl, rfl⟩
set_option maxHeartbeats 16000000 in
set_option maxRecDepth 100000 in
theorem count_nil (w : World) : Calls Try.prog 26 #[.pointer none, (.string ⟨#[97]⟩)] w fun e w' => e = .returned (.int .i64 0) ∧ w' = w := by
 go_enter Try.func26, Try.ntmps26
 go_wp2
 go_ret
 exact ⟨rfl, rfl⟩
set_option maxHeartbeats 16000000 in
set_option maxRecDepth 100000 in
theorem who_nil (w : World) : Calls Try.prog 27 #[.pointer none, (.string ⟨#[97]⟩)] w fun e w' => e = .returned (.slice none 0 0) ∧ w' = w := by
 go_enter Try.func27, Try.ntmps27
 go_wp2_with (first
  | (go_at_call 56; (with_reducible refine (voters_nil _).mono ?_); rintro e w1 ⟨rfl, hw9⟩; have hw8 := hw9.symm; clear hw9; subst hw8))
 go_loopw [5, 11] (fun lv iv wr => lv = .slice none 0 0 ∧ iv = .int .i64 0 ∧ wr = w) (fun _ _ _ => 0)
 case atStart => exact ⟨rfl, rfl, rfl⟩
 case round =>
  obtain ⟨rfl, rfl, rfl⟩ := hrel
  go_wp2
  go_ret
  exact ⟨rfl, rfl⟩
set_option maxHeartbeats 16000000 in
set_option maxRecDepth 100000 in
theorem least_nil (at_ : Int) (w : World) : Calls Try.prog 22 #[.pointer none, .int .i64 at_] w fun e w' => e = .returned (.tuple #[encS [], .bool false]) ∧ Below w.heap.size w w' := by
 by_cases hat : at_ < 1
 ·go_enter Try.func22, Try.ntmps22
  go_wp2
  go_ret2
  exact ⟨rfl, below1_ w _⟩
 go_enter Try.func22, Try.ntmps22
 go_wp2_with (first
  | (go_at_call 56; (with_reducible refine (voters_nil _).mono ?_); rintro e w1 ⟨rfl, hw9⟩; have hw8 := hw9.symm; clear hw9; subst hw8))
 go_loopw [17] (fun iv wr => iv = .int .i64 0 ∧ wr = w) (fun _ _ => 0)
 case atStart => exact ⟨rfl, rfl⟩
 case round =>
  obtain ⟨rfl, rfl⟩ := hrel
  go_wp2
  go_ret2
  exact ⟨rfl, below1_ _ _⟩

end Go.Proofs.Ytkpgjcahmpekbaa
