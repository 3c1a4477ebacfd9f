/-
  The least of all sets; the document's Count.
-/
import Derived.Test.YtkildlonenjmaaaF8
namespace Go.Proofs.Ytkildlonenjmaaa
open Go.RowKit

/-- the least of the first sets for which it holds -/
def Fm.lst (f : Fm) : Nat → Nat | 0 => 7 | i + 1 => if f.hold i then min (f.lst i) (cnt i) else f.lst i
theorem cntTo_le (s : Nat) : ∀ i, cntTo s i ≤ i
  | 0 => Nat.le_refl _
  | i + 1 => by have := cntTo_le s i; unfold cntTo; split <;> omega
theorem Fm.lst_succ (f : Fm) (i : Nat) : f.lst (i + 1) = if f.hold i then min (f.lst i) (cnt i) else f.lst i := rfl
/-- the least of all sets for which it holds -/
def Fm.least (f : Fm) : Nat := f.lst 128
theorem Fm.least_of {f : Fm} {i : Nat} (hi : i = 128) : f.least = f.lst i := by subst hi; rfl
theorem Fm.lst_le (f : Fm) : ∀ i, f.lst i ≤ 7
  | 0 => Nat.le_refl _
  | i + 1 => by have := f.lst_le i; unfold Fm.lst; split <;> omega

set_option maxHeartbeats 4000000 in
set_option maxRecDepth 100000 in
theorem count_any (s : Nat) (hs : s < 4294967296) (w : World) :
    Calls Try.prog 48 #[.int .u32 (s : Int)] w fun e w' => e = .returned (.int .i64 (cnt s : Int)) ∧ w' = w := by
  go_enter Try.func48, Try.ntmps48
  go_wp2
  go_loopw [3, 4] (fun nv iv wr => ∃ i m : Nat, i ≤ 7 ∧ iv = .int .i64 i ∧ nv = .int .i64 (m : Int) ∧ m ≤ i ∧ m = cntTo s i ∧ wr = w) (fun _ iv _ => 7 - (intOf iv).toNat)
  case atStart => exact ⟨0, 0, by omega, rfl, rfl, Nat.le_refl _, rfl, rfl⟩
  case round =>
    obtain ⟨i, m, hi, rfl, rfl, hmi, hm, rfl⟩ := hrel
    by_cases hlt : i < 7
    · have hc : cntTo s (i + 1) = cntTo s i + if s.testBit i then 1 else 0 := rfl
      rw [← hm] at hc
      have hhas := fun W => has_any s i hs (by omega) W
      cases hb : s.testBit i <;> rw [hb] at hc <;> simp only [hb] at hhas <;> have HC := Lib.hid hc <;> have HH := Lib.hid hhas <;> clear hc hhas hb hm
      · go_wp2_with (go_at_call 29; (with_reducible refine (HH.out _).mono ?_); rintro e w1 ⟨rfl, rfl⟩)
        go_roundw
        case rel => exact ⟨i + 1, m, by omega, by go_num, rfl, by omega, by rw [HC.out]; simp, trivial⟩
        case measure => simp [intOf]; omega
      · go_wp2_with (go_at_call 29; (with_reducible refine (HH.out _).mono ?_); rintro e w1 ⟨rfl, rfl⟩)
        go_roundw
        case rel => exact ⟨i + 1, m + 1, by omega, by go_num, by go_num, by omega, by rw [HC.out]; simp, trivial⟩
        case measure => simp [intOf]; omega
    · obtain rfl : i = 7 := by omega
      have HC := Lib.hid hm
      clear hm
      go_wp2
      go_ret
      exact ⟨by unfold cnt; rw [← HC.out]; rfl, rfl⟩
theorem count_b (s : Nat) (hs : s < 4294967296) (w : World) :
    Calls Try.prog 48 #[.int .u32 (s : Int)] w fun e w' => e = .returned (.int .i64 (cnt s : Int)) ∧ Below w.heap.size w w' :=
  (count_any s hs w).mono (by rintro e w' ⟨h1, rfl⟩; exact ⟨h1, Below.refl _ _⟩)

end Go.Proofs.Ytkildlonenjmaaa
