/-
  The law's fixed calls.
-/
import Derived.Test.YtkildlonenjmaaaF14
import Derived.Test.YtkildlonenjmaaaF13
import Derived.Test.YtkildlonenjmaaaF9c
import Derived.Test.YtkildlonenjmaaaF9d
namespace Go.Proofs.Ytkildlonenjmaaa
open Go.RowKit

/-- 2 of 0, 1, 2 -/
def T3 : Fm := .mk 0 2 [.mk 0 0 [], .mk 1 0 [], .mk 2 0 []]
theorem T3_few : T3.few := by unfold T3; constructor <;> decide
theorem T3_check3 : T3.check 3 = 0 := by decide
theorem T3_check2 : T3.check 2 = 5 := by decide
theorem T3_mb : T3.mb = true := by decide
theorem T3_hold6 : T3.hold 6 = true := by decide
theorem T3_hold4 : T3.hold 4 = false := by decide
theorem T3_nms : T3.nms = 7 := by decide
theorem T3_least : T3.least = 2 := by decide +kernel
theorem T3_stop3 : T3.hold (cpl 3) = false := by decide +kernel
theorem T3_stop1 : T3.hold (cpl 1) = true := by decide +kernel
theorem T3_same : T3.same T3 = true := by decide
theorem T3_in {W : World} {b : Nat} (h : Blk W b 33 [.int .i64 0, .int .i64 0, .slice none 0 0, .int .i64 1, .int .i64 0, .slice none 0 0, .int .i64 2, .int .i64 0, .slice none 0 0]) : T3.In W (fun _ => True) (some ⟨b, 0, none⟩) 3 := by
  have hr : ∀ (o : Nat) (x : Int), ([.int .i64 0, .int .i64 0, .slice none 0 0, .int .i64 1, .int .i64 0, .slice none 0 0, .int .i64 2, .int .i64 0, .slice none 0 0] : List Value)[o]? = some (.int .i64 x) → ([.int .i64 0, .int .i64 0, .slice none 0 0, .int .i64 1, .int .i64 0, .slice none 0 0, .int .i64 2, .int .i64 0, .slice none 0 0] : List Value)[o + 1]? = some (.int .i64 0) → ([.int .i64 0, .int .i64 0, .slice none 0 0, .int .i64 1, .int .i64 0, .slice none 0 0, .int .i64 2, .int .i64 0, .slice none 0 0] : List Value)[o + 2]? = some (.slice none 0 0) → W.rangeAt b o [.int .i64 x, .int .i64 0, .slice none 0 0] := fun o x h0 h1 h2 j v hv => by
    match j with
    | 0 => rw [← hv]; exact h.cellAt h0
    | 1 => rw [← hv]; exact h.cellAt h1
    | 2 => rw [← hv]; exact h.cellAt h2
    | j + 3 => simp at hv
  have leaf : ∀ x : Int, (Fm.mk x 0 []).In W (fun _ => True) none 0 := fun x => ⟨rfl, Nat.zero_le _, fun h => absurd h (by omega)⟩
  refine ⟨rfl, by unfold maxLen; omega, fun _ => ⟨b, 0, rfl, trivial, ?_⟩⟩
  exact ⟨⟨none, 0, 0, hr 0 0 rfl rfl rfl, leaf 0⟩, ⟨none, 0, 0, hr 3 1 rfl rfl rfl, leaf 1⟩, ⟨none, 0, 0, hr 6 2 rfl rfl rfl, leaf 2⟩, trivial⟩

theorem T3_hc1 (b : Nat) (W : World) (h : T3.In W (fun _ => True) (some ⟨b, 0, none⟩) 3) : Calls Try.prog 22 #[.agg #[.int .i64 0, .int .i64 2, .slice (some ⟨b, 0, none⟩) 3 3], .int .i64 3] W fun e w' => e = .returned (.int .i64 0) ∧ Below W.heap.size W w' := by
  have := check_any T3 3 (some ⟨b, 0, none⟩) 3 3 W T3_few h; rw [T3_check3] at this; exact this
theorem T3_hc2 (b : Nat) (W : World) (h : T3.In W (fun _ => True) (some ⟨b, 0, none⟩) 3) : Calls Try.prog 22 #[.agg #[.int .i64 0, .int .i64 2, .slice (some ⟨b, 0, none⟩) 3 3], .int .i64 2] W fun e w' => e = .returned (.int .i64 5) ∧ Below W.heap.size W w' := by
  have := check_any T3 2 (some ⟨b, 0, none⟩) 3 3 W T3_few h; rw [T3_check2] at this; exact this
theorem T3_hc3 (b : Nat) (W : World) (h : T3.In W (fun _ => True) (some ⟨b, 0, none⟩) 3) : Calls Try.prog 25 #[.agg #[.int .i64 0, .int .i64 2, .slice (some ⟨b, 0, none⟩) 3 3], .int .u32 6] W fun e w' => e = .returned (.bool true) ∧ Below W.heap.size W w' := by
  have := Hold_any 6 (by omega) T3 (some ⟨b, 0, none⟩) 3 3 W T3_few h; rw [T3_mb, T3_hold6] at this; exact this
theorem T3_hc4 (b : Nat) (W : World) (h : T3.In W (fun _ => True) (some ⟨b, 0, none⟩) 3) : Calls Try.prog 25 #[.agg #[.int .i64 0, .int .i64 2, .slice (some ⟨b, 0, none⟩) 3 3], .int .u32 4] W fun e w' => e = .returned (.bool false) ∧ Below W.heap.size W w' := by
  have := Hold_any 4 (by omega) T3 (some ⟨b, 0, none⟩) 3 3 W T3_few h; rw [T3_mb, T3_hold4] at this; exact this
theorem T3_hc5 (b : Nat) (W : World) (h : T3.In W (fun _ => True) (some ⟨b, 0, none⟩) 3) : Calls Try.prog 26 #[.agg #[.int .i64 0, .int .i64 2, .slice (some ⟨b, 0, none⟩) 3 3]] W fun e w' => e = .returned (.int .u32 7) ∧ Below W.heap.size W w' := by
  have := Name_any T3 (some ⟨b, 0, none⟩) 3 3 W T3_few h; rw [T3_nms] at this; exact this
theorem T3_hc6 (b : Nat) (W : World) (h : T3.In W (fun _ => True) (some ⟨b, 0, none⟩) 3) : Calls Try.prog 27 #[.agg #[.int .i64 0, .int .i64 2, .slice (some ⟨b, 0, none⟩) 3 3]] W fun e w' => e = .returned (.int .i64 2) ∧ Below W.heap.size W w' := by
  have := Least_any T3 (some ⟨b, 0, none⟩) 3 3 W T3_few h; rw [T3_mb, if_pos rfl, T3_least] at this; exact this
theorem T3_hc7 (b : Nat) (W : World) (h : T3.In W (fun _ => True) (some ⟨b, 0, none⟩) 3) : Calls Try.prog 28 #[.agg #[.int .i64 0, .int .i64 2, .slice (some ⟨b, 0, none⟩) 3 3], .int .u32 3] W fun e w' => e = .returned (.bool true) ∧ Below W.heap.size W w' := by
  have := Stop_any 3 (by omega) T3 (some ⟨b, 0, none⟩) 3 3 W T3_few h; rw [T3_mb, T3_stop3] at this; exact this
theorem T3_hc8 (b : Nat) (W : World) (h : T3.In W (fun _ => True) (some ⟨b, 0, none⟩) 3) : Calls Try.prog 28 #[.agg #[.int .i64 0, .int .i64 2, .slice (some ⟨b, 0, none⟩) 3 3], .int .u32 1] W fun e w' => e = .returned (.bool false) ∧ Below W.heap.size W w' := by
  have := Stop_any 1 (by omega) T3 (some ⟨b, 0, none⟩) 3 3 W T3_few h; rw [T3_mb, T3_stop1] at this; exact this
theorem T3_hc9 (b : Nat) (W : World) (h : T3.In W (fun _ => True) (some ⟨b, 0, none⟩) 3) : Calls Try.prog 34 #[.agg #[.int .i64 0, .int .i64 2, .slice (some ⟨b, 0, none⟩) 3 3], .agg #[.int .i64 0, .int .i64 2, .slice (some ⟨b, 0, none⟩) 3 3]] W fun e w' => e = .returned (.bool true) ∧ Below W.heap.size W w' := by
  have := same_any T3 T3 (some ⟨b, 0, none⟩) (some ⟨b, 0, none⟩) 3 3 3 3 W (by have := T3_few.1; omega) h h; rw [T3_same] at this; exact this
end Go.Proofs.Ytkildlonenjmaaa
