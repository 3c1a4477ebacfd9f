/-
  WindowTop: FOR EVERY BYTE AND EVERY NUMBER the law returns true, and leaves its arguments as they were. No condition.
-/
import Derived.Test.YtponmfkddglopaaWU46
import Derived.Test.YtponmfkddglopaaWU48
namespace Go.Proofs.Ytponmfkddglopaa
open Go.ChangeShapes Go.WideShapes Go.ChangeAt Go.RowKit

set_option maxHeartbeats 1600000 in
set_option maxRecDepth 100000 in
theorem wtop22_lifted (os : Go.Os) (started : os.Started) (H : Type) (enc : TypeId × Value → H) :
  ReturnsInHanded {} Try.checked os 4 .any (Rows.windowTopSpec.pre6 enc Try.prog Try.f4 Rows.windowTopRow.domain false) (Rows.windowTopSpec.post enc Try.prog Try.f4 false true false false) := by
 refine returnsInHanded_of_change (C := Try.checked) Try.own started (by kernel_rfl) Try.func4
  (ChangeSpec.witness6 (enc := enc) (C := Try.checked) false ⟨#[], #[.int .u8 0, .int .i64 0], []⟩ 8 (by kernel_rfl) (by kernel_rfl) (by kernel_rfl) (by kernel_rfl)) ?_
 intro W base args ds gs before hval0 hW _ _
 have hval : ∀ (j : Nat) t v, Try.f4.params[j]? = some t → args[j]? = some v → Value.okWide Try.prog W .any base t v := hval0
 have hW' := hW
 obtain ⟨p, q, hA0, hV, rfl, _, _⟩ := hW
 have hA : DataW.TrodAll enc Try.prog W 0 (fun _ => true) true Try.f4.params.toList args.toList ds p := hA0
 rw [Try.params4] at hA hval
 obtain ⟨args⟩ := args
 obtain ⟨v0, as0, d0, ds0, p0, q0, e0, rfl, rfl, h0, r0⟩ := trodAll_cons hA
 obtain ⟨v1, as1, d1, ds1, p1, q1, e1, rfl, rfl, h1, r1⟩ := trodAll_cons r0
 obtain ⟨e2, rfl, rfl⟩ := trodAll_nil r1
 obtain rfl : args = [v0, v1] := by simp only at e0; simp only [e0, e1, e2]
 obtain ⟨rfl, rfl⟩ := trodVars_none hV
 clear hA0 hval0
 simp only [List.append_nil] at hW'
 have hlt0 : ∀ z ∈ p0, z.block < W.heap.size := fun z hz => hW'.lt z (by simp [hz])
 have hlt1 : ∀ z ∈ p1, z.block < W.heap.size := fun z hz => hW'.lt z (by simp [hz])
 obtain ⟨y0, rfl, l0, m0⟩ := opened_u8i (hval 0 5 v0 rfl rfl) h0
 obtain ⟨y1, rfl⟩ := opened_i64_ (hval 1 2 v1 rfl rfl) h1
 refine (top22_any y0 y1 W l0 m0).mono fun e W' ⟨he, hnx⟩ => ?_
 subst he
 have harg0 := Below.trod Try.laidOut (t := 5) (by kernel_rfl) (of_decide_eq_true (by kernel_rfl)) h0 hnx hlt0
 have harg1 := Below.trod Try.laidOut (t := 2) (by kernel_rfl) (of_decide_eq_true (by kernel_rfl)) h1 hnx hlt1
 exact ⟨_, rfl, _, _, _, [], _, [], hW', trodAll_mk1 (shut_bool Try.underlying4 _), trodAll_cons_mk harg0 (trodAll_cons_mk harg1 trodAll_mk0), rfl, hnx.frame _, fun h => by cases h⟩

theorem wtop22_holds : Rows.WindowTopSaid :=
 OpenClaim.holds_of_wide 4 Try.f4 rfl rfl rfl rfl rfl rfl rfl ⟨rfl, rfl, rfl, rfl, rfl⟩ rfl rfl rfl rfl rfl (by kernel_rfl) Try.func4 (by kernel_rfl)
  (of_decide_eq_true (by kernel_rfl)) (by unfold Func.isWrapper; first | (rw [if_pos (by decide +kernel)]; kernel_rfl) | (rw [if_neg (by decide +kernel)]; exact ⟨rfl, rfl⟩))
  (fun os started H enc _ => wtop22_lifted os started H enc)

#print axioms wtop22_holds

end Go.Proofs.Ytponmfkddglopaa
