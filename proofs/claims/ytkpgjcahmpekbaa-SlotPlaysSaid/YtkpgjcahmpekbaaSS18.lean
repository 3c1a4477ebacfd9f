/-
  Joined: Flt.
-/
import Derived.BigGuard
import Derived.Test.YtkpgjcahmpekbaaSS2
namespace Go.Proofs.Ytkpgjcahmpekbaa
open Go.RowKit

def fltN (n : Int) : Int := if n < 4 then 0 else (n - 1) / 3

set_option maxHeartbeats 4000000 in
set_option maxRecDepth 100000 in
theorem rfaults_any (n : Int) (h : n ≤ 300) (w : World) : Calls Try.prog 78 #[.int .i64 n] w fun e w' => e = .returned (.int .i64 (fltN n)) ∧ w' = w := by
 have HN := Lib.hid h
 go_enter Try.func78, Try.ntmps78
 go_wp2
 go_loopw [0, 3] (fun nv fv wr => ∃ (m f : Int), nv = .int .i64 m ∧ fv = .int .i64 f ∧ 0 ≤ f ∧ f ≤ 100 ∧ m ≤ 300 ∧ (m + 3 * f = n) ∧ (f = 0 ∨ 1 ≤ m) ∧ wr = w) (fun nv _ _ => (intOf nv).toNat)
 case atStart => exact ⟨n, 0, rfl, rfl, by omega, by omega, HN.out, by omega, .inl rfl, rfl⟩
 case round =>
  obtain ⟨m, f, rfl, rfl, h0, h1, h2, h3, h4, rfl⟩ := hrel
  by_cases h5 : 4 ≤ m
  ·have d1 : decide (4 ≤ m) = true := by simpa using h5
   have hw1 : IntKind.i64.wrap (m - 3) = m - 3 := IntWalk.i64_in _ (by omega)
   have hw2 : IntKind.i64.wrap (f + 1) = f + 1 := IntWalk.i64_in _ (by omega)
   have d2 : decide (100 < f + 1) = false := by simp; omega
   go_wp2
   go_roundw
   case rel => exact ⟨m - 3, f + 1, rfl, rfl, by omega, by omega, by omega, by omega, by omega, by first | trivial | rfl⟩
   case measure => simp [intOf]; omega
  ·have d1 : decide (4 ≤ m) = false := by simpa using h5
   have HF : Hid (f = fltN n) := Lib.hid (by unfold fltN; split <;> omega)
   go_wp2
   go_ret
   exact ⟨by first | rfl | (rw [HF.out]; rfl), rfl⟩

end Go.Proofs.Ytkpgjcahmpekbaa
