/-
  Joined: CwA.
-/
import Derived.Deep.RegionHeld
import Derived.Lib.OthersKept
import Derived.Laws.Cover1
import Derived.Laws.RangeAny
import Derived.WalkSpells
import Derived.Deep.QuietTactic
import Derived.Test.YtpolofehkckaoaaUT12
import Derived.Test.YtpolofehkckaoaaUT9
import Derived.Test.YtpolofehkckaoaaUT7
import Derived.Test.YtpolofehkckaoaaUT4
import Derived.Test.YtpolofehkckaoaaUT3
import Derived.Test.YtpolofehkckaoaaUT10
import Derived.Test.YtpolofehkckaoaaUT0
namespace Go.Proofs.Ytpolofehkckaoaa
open Go.RowKit

theorem cret_in {a b : Int} (h : a = b) : Ending.returned (.int .i64 a) = Ending.returned (.int .i64 b) := by rw [h]
/-- f of n -/
def fltP (n : Int) : Int := if n < 4 then 0 else (n - 1) / 3
set_option maxHeartbeats 2000000 in
theorem nfaults_any (n : Int) (w : World) (hn : n ≤ 1000000) : Calls Try.prog 35 #[.int .i64 n] w fun e w' => e = .returned (.int .i64 (fltP n)) ∧ w' = w := by
 obtain ⟨v, hv⟩ : ∃ v, fltP n = v := ⟨_, rfl⟩
 rw [hv]
 have HV := Lib.hid hv
 clear hv
 go_enter Try.func35, Try.ntmps35
 go_wp2
 all_goals go_ret
 all_goals exact ⟨cret_in (by rw [← HV.out]; unfold fltP; split <;> omega), rfl⟩
set_option maxHeartbeats 2000000 in
theorem nquorum_any (n : Int) (w : World) (hn : n ≤ 1000000) : Calls Try.prog 33 #[.int .i64 n] w fun e w' => e = .returned (.int .i64 (2 * fltP n + 1)) ∧ w' = w := by
 have HF : Hid (∀ W : World, Calls Try.prog 35 #[.int .i64 n] W fun e w' => e = .returned (.int .i64 (fltP n)) ∧ w' = W) := Lib.hid (fun W => nfaults_any n W hn)
 have hb : 0 ≤ fltP n ∧ fltP n ≤ 1000000 := by unfold fltP; split <;> omega
 obtain ⟨v, hv⟩ : ∃ v, fltP n = v := ⟨_, rfl⟩
 rw [hv] at HF hb ⊢
 clear hv hn
 go_enter Try.func33, Try.ntmps33
 go_wp2_with (first
  | (go_at_call 35; (with_reducible refine (HF.out _).mono ?_); rintro e w1 ⟨rfl, rfl⟩))
 go_ret
 exact ⟨cret_in (by omega), rfl⟩

end Go.Proofs.Ytpolofehkckaoaa
