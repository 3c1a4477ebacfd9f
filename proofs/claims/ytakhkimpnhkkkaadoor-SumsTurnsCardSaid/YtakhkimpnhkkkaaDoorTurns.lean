/-
  SumsTurns: FOR EVERY WORD AND EVERY NUMBER the law returns true, and leaves its arguments as they were. Condition: the program's two tables of constants stand as its text lays them (the card ties that to the text).
-/
import Derived.Test.YtakhkimpnhkkkaaDoorLaid
import Derived.Test.YtakhkimpnhkkkaaDoorRTurn
import Derived.SevenTiedAt
namespace Go.Proofs.YtakhkimpnhkkkaaDoor
open Go.ChangeShapes Go.WideShapes Go.ChangeAt Go.RowKit

set_option maxHeartbeats 1000000 in
theorem turns_any (x : UInt32) (n : Int) (w : World) (ht : Tab w) :
    Calls Tryd.prog 5 #[.int .u32 (n32 x), .int .i64 n] w fun e w' => e = .returned (.bool true) ∧ Below w.heap.size w w' := by
  obtain ⟨k, hk, hn⟩ : ∃ k : Nat, k < 32 ∧ n % 32 = k := ⟨(n % 32).toNat, by omega, by omega⟩
  obtain ⟨m1, m2, m3⟩ := tmod_32 n k hn
  obtain ⟨j, hj, hnj⟩ : ∃ j : Nat, j < 32 ∧ (-(n.tmod 32)) % 32 = j := ⟨((-(n.tmod 32)) % 32).toNat, by omega, by omega⟩
  have hback := rotr_back x k j (by omega) (by omega) (by omega)
  have HT := Lib.hid ht
  have C1 := Lib.hid (turn_mod x n k hk hn)
  have C2 := Lib.hid (rturn_mod x n k hk hn)
  have C3 := Lib.hid (turn_mod (rotr x k) (-(n.tmod 32)) j hj hnj)
  rw [hback] at C3
  have hb1 := fun (z : Int) => (show (z == z) = true from by simp)
  clear ht hn hnj hback m3
  go_enter Tryd.func5, Tryd.ntmps5
  go_wp2_with (first
    | (go_at_call 6; refine (fixed_any _ HT.out).mono ?_; rintro e w1 ⟨rfl, hx1⟩; have HX1 := Lib.hid hx1; clear hx1)
    | (go_at_call 13; (with_reducible refine (C1.out _).mono ?_); rintro e w' ⟨rfl, rfl⟩)
    | (go_at_call 14; (with_reducible refine (C2.out _).mono ?_); rintro e w' ⟨rfl, rfl⟩)
    | (go_at_call 13; (with_reducible refine (C3.out _).mono ?_); rintro e w' ⟨rfl, rfl⟩))
  go_ret
  exact ⟨rfl, HX1.out⟩

end Go.Proofs.YtakhkimpnhkkkaaDoor
