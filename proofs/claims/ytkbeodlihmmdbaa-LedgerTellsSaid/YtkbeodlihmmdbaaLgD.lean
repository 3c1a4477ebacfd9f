/-
  The document's Is and Day (out of letter).
-/
import Derived.Test.YtkbeodlihmmdbaaPM
namespace Go.Proofs.Ytkbeodlihmmdbaa
open Go.RowKit

set_option maxHeartbeats 1000000 in
theorem ris_any (a : Int) (w : World) : Calls Try.prog 48 #[.int .i64 a] w fun e w' => e = .returned (.bool (isM a)) ∧ w' = w := by
  go_enter Try.func48, Try.ntmps48
  go_wp2
  all_goals go_ret
  all_goals refine ⟨?_, rfl⟩
  all_goals (simp only [isM]; congr 2; simp <;> omega)

set_option maxHeartbeats 1000000 in
theorem rday_any (a : Int) (w : World) : Calls Try.prog 76 #[.int .i64 a] w fun e w' => e = .returned (.bool (isM a)) ∧ w' = w := by
  go_enter Try.func76, Try.ntmps76
  go_wp2
  all_goals go_ret
  all_goals refine ⟨?_, rfl⟩
  all_goals (simp only [isM]; congr 2; simp <;> omega)

end Go.Proofs.Ytkbeodlihmmdbaa
