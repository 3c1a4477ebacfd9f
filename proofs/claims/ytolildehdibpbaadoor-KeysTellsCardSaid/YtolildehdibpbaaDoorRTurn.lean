/-
  The document's Turn, bit by bit; three of them together.
-/
import Derived.Test.YtolildehdibpbaaDoorSha
import Derived.Outline
namespace Go.Proofs.YtolildehdibpbaaDoor
open Go.RowKit

theorem tmod_32 (n : Int) (k : Nat) (hn : n % 32 = k) : -32 < n.tmod 32 ∧ n.tmod 32 < 32 ∧ (n.tmod 32 + 32) % 32 = k := by
  rcases Int.le_total 0 n with h | h
  · rw [Int.tmod_eq_emod_of_nonneg h]
    omega
  · obtain ⟨m, rfl⟩ : ∃ m, n = -m := ⟨-n, by omega⟩
    rw [Int.neg_tmod, Int.tmod_eq_emod_of_nonneg (by omega)]
    omega

set_option maxHeartbeats 400000 in
theorem rturn_mod (x : UInt32) (n : Int) (k : Nat) (hk : k < 32) (hn : n % 32 = k) (w : World) :
    Calls Tryd.prog 49 #[.int .u32 (n32 x), .int .i64 n] w fun e w' => e = .returned (.int .u32 (n32 (rotr x k))) ∧ w = w' := by
  obtain ⟨h1, h2, h3⟩ := tmod_32 n k hn
  clear hn
  go_enter Tryd.func49, Tryd.ntmps49
  go_wp2
  go_loop [0, 5] (fun v i => ∃ j : Nat, j ≤ k ∧ i = .int .i64 j ∧ v = .int .u32 (n32 (rotr x j))) (fun _ i => k - (intOf i).toNat)
  case atStart => exact ⟨0, Nat.zero_le _, rfl, by rw [rotr_0]⟩
  case round =>
    obtain ⟨j, hj, rfl, rfl⟩ := hrel
    have hlo := n32_lo (rotr x j)
    have hhi := n32_hi (rotr x j)
    by_cases hlt : j < k
    · go_wp2
      go_round
      case rel => exact ⟨j + 1, by omega, by go_num, by rw [w32_turn1, rotr_succ x j (by omega)]⟩
      case measure => simp [intOf]; omega
    · obtain rfl : j = k := by omega
      go_wp2
      go_ret
      exact ⟨rfl, rfl⟩

theorem rturn_any (x : UInt32) (k : Nat) (hk : k < 32) (w : World) :
    Calls Tryd.prog 49 #[.int .u32 (n32 x), .int .i64 k] w fun e w' => e = .returned (.int .u32 (n32 (rotr x k))) ∧ w = w' :=
  rturn_mod x k k hk (by omega) w

set_option maxHeartbeats 400000 in
theorem rthree_any (x : UInt32) (i j k : Nat) (hi : i < 32) (hj : j < 32) (hk : k < 32) (w : World) :
    Calls Tryd.prog 50 #[.int .u32 (n32 x), .int .i64 i, .int .i64 j, .int .i64 k] w fun e w' => e = .returned (.int .u32 (n32 (three x i j k))) ∧ w = w' := by
  have hx := w32_xor
  go_enter Tryd.func50, Tryd.ntmps50
  go_wp2_with (go_at_call 49; refine (rturn_any _ _ (by omega) _).mono ?_; rintro e w' ⟨rfl, rfl⟩)
  go_ret
  exact ⟨rfl, rfl⟩

end Go.Proofs.YtolildehdibpbaaDoor
