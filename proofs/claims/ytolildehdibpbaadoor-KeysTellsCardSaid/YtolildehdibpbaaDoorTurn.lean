/-
  Turn: the program's, by shifts; the document's, bit by bit: words turned.
-/
import Derived.Test.YtolildehdibpbaaDoorSha
import Derived.Outline
namespace Go.Proofs.YtolildehdibpbaaDoor
open Go.RowKit

set_option maxHeartbeats 400000 in
theorem turn_mod (x : UInt32) (n : Int) (k : Nat) (hk : k < 32) (hn : n % 32 = k) (w : World) :
    Calls Tryd.prog 25 #[.int .u32 (n32 x), .int .i64 n] w fun e w' => e = .returned (.int .u32 (n32 (rotr x k))) ∧ w = w' := by
  have hr : (IntKind.u64.wrap n).tmod 32 = k := by
    rw [IntKind.wrap_u64, Int.tmod_eq_emod_of_nonneg (by omega)]
    omega
  have h2 : ((32 : Int) - k).toNat = 32 - k := by omega
  have h3 : IntKind.u64.wrap (32 - (k : Int)) = 32 - k := by rw [IntKind.wrap_u64]; omega
  have ht := Lib.hid (w32_turn x k hk)
  clear hn
  go_enter Tryd.func25, Tryd.ntmps25
  go_wp2
  rw [ht.out]
  go_ret
  exact ⟨rfl, rfl⟩

/-- turned by a number that the text names -/
theorem turn_any (x : UInt32) (k : Nat) (hk : k < 32) (w : World) :
    Calls Tryd.prog 25 #[.int .u32 (n32 x), .int .i64 k] w fun e w' => e = .returned (.int .u32 (n32 (rotr x k))) ∧ w = w' :=
  turn_mod x k k hk (by omega) w

theorem turn_lit (x : UInt32) (n : Int) (h0 : 0 ≤ n) (h1 : n < 32) (w : World) :
    Calls Tryd.prog 25 #[.int .u32 (n32 x), .int .i64 n] w fun e w' => e = .returned (.int .u32 (n32 (rotr x n.toNat))) ∧ w = w' :=
  turn_mod x n n.toNat (by omega) (by omega) w

theorem turn_q (x : UInt32) (n : Int) (h0 : 0 ≤ n) (h1 : n < 32) (w : World) :
    Calls Tryd.prog 25 #[.int .u32 (n32 x), .int .i64 n] w fun e w' => e = .returned (.int .u32 (n32 (rotr x n.toNat))) ∧ w' = w :=
  (turn_lit x n h0 h1 w).mono fun _ _ ⟨he, hw⟩ => ⟨he, hw.symm⟩

end Go.Proofs.YtolildehdibpbaaDoor
