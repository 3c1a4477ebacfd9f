/-
  PointsTold: FOR EVERY ROW OF NUMBERS, nil or not, the law returns true, and leaves its argument as it was. No condition.
-/
import Derived.Test.YtpolofehkckaoaaUT22
import Derived.Test.YtpolofehkckaoaaUT23
import Derived.Test.YtpolofehkckaoaaUT48
namespace Go.Proofs.Ytpolofehkckaoaa
open Go.ChangeShapes Go.WideShapes Go.ChangeAt Go.RowKit

set_option maxHeartbeats 1600000 in
set_option maxRecDepth 100000 in
theorem ptold23_lifted (os : Go.Os) (started : os.Started) (H : Type) (enc : TypeId × Value → H) :
  ReturnsInHanded {} Try.checked os 5 .any (Rows.pointsToldSpec.pre6 enc Try.prog Try.f5 Rows.pointsToldRow.domain false) (Rows.pointsToldSpec.post enc Try.prog Try.f5 false true false false) := by
 refine returnsInHanded_of_change (C := Try.checked) Try.own started (by kernel_rfl) Try.func5
  (ChangeSpec.witness6 (enc := enc) (C := Try.checked) false ⟨#[], #[.slice none 0 0], []⟩ 8 (by kernel_rfl) (by kernel_rfl) (by kernel_rfl) (by kernel_rfl)) ?_
 intro W base args ds gs before hval0 hW _ _
 have hval : ∀ (j : Nat) t v, Try.f5.params[j]? = some t → args[j]? = some v → Value.okWide Try.prog W .any base t v := hval0
 have hW' := hW
 obtain ⟨p, q, hA0, hV, rfl, _, _⟩ := hW
 have hA : DataW.TrodAll enc Try.prog W 0 (fun _ => true) true Try.f5.params.toList args.toList ds p := hA0
 rw [Try.params5] at hA hval
 obtain ⟨args⟩ := args
 obtain ⟨v0, as0, d0, ds0, p0, q0, e0, rfl, rfl, h0, r0⟩ := trodAll_cons hA
 obtain ⟨e1, rfl, rfl⟩ := trodAll_nil r0
 obtain rfl : args = [v0] := by simp only at e0; simp only [e0, e1]
 obtain ⟨rfl, rfl⟩ := trodVars_none hV
 clear hA0 hval0
 simp only [List.append_nil] at hW'
 have hlt0 : ∀ z ∈ p0, z.block < W.heap.size := fun z hz => hW'.lt z (by simp [hz])
 obtain ⟨a0, len0, cap0, rfl⟩ := okWide_slice Try.underlying53 (hval 0 53 v0 rfl rfl)
 obtain ⟨l0, hS0, h64⟩ := opened_qs h0
 refine (told23_law pts_p a0 len0 cap0 l0 W hS0 h64).mono fun e W' ⟨he, hnx⟩ => ?_
 subst he
 have harg0 := Below.trod Try.laidOut (t := 53) (by kernel_rfl) (of_decide_eq_true (by kernel_rfl)) h0 hnx hlt0
 exact ⟨_, rfl, _, _, _, [], _, [], hW', trodAll_mk1 (shut_bool Try.underlying4 _), trodAll_cons_mk harg0 trodAll_mk0, rfl, hnx.frame _, fun h => by cases h⟩

theorem ptold23_holds : Rows.PointsToldSaid :=
 OpenClaim.holds_of_wide 5 Try.f5 rfl rfl rfl rfl rfl rfl rfl ⟨rfl, rfl, rfl, rfl, rfl⟩ rfl rfl rfl rfl rfl (by kernel_rfl) Try.func5 (by kernel_rfl)
  (of_decide_eq_true (by kernel_rfl)) (by unfold Func.isWrapper; first | (rw [if_pos (by decide +kernel)]; kernel_rfl) | (rw [if_neg (by decide +kernel)]; exact ⟨rfl, rfl⟩))
  (fun os started H enc _ => ptold23_lifted os started H enc)

#print axioms ptold23_holds

end Go.Proofs.Ytpolofehkckaoaa
