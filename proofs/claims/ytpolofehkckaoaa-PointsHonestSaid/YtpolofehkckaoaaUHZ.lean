/-
  PointsHonest: FOR EVERY BYTE, ROW OF ACTS AND ROW OF BYTES, nil or not, AND POINT the law returns true, and leaves its arguments as they were. No condition.
-/
import Derived.Test.YtpolofehkckaoaaUH23
import Derived.Test.YtpolofehkckaoaaUH15
import Derived.Test.YtpolofehkckaoaaUH48
namespace Go.Proofs.Ytpolofehkckaoaa
open Go.ChangeShapes Go.WideShapes Go.ChangeAt Go.RowKit

set_option maxHeartbeats 1600000 in
set_option maxRecDepth 100000 in
theorem phon23_lifted (os : Go.Os) (started : os.Started) (H : Type) (enc : TypeId × Value → H) :
  ReturnsInHanded {} Try.checked os 4 .any (Rows.pointsHonestSpec.pre6 enc Try.prog Try.f4 Rows.pointsHonestRow.domain false) (Rows.pointsHonestSpec.post enc Try.prog Try.f4 false true false false) := by
 refine returnsInHanded_of_change (C := Try.checked) Try.own started (by kernel_rfl) Try.func4
  (ChangeSpec.witness6 (enc := enc) (C := Try.checked) false ⟨#[], #[.int .u8 0, .slice none 0 0, .slice none 0 0, (.agg (Po.cells poZ).toArray)], []⟩ 8 (by kernel_rfl) (by kernel_rfl) (by kernel_rfl) (by kernel_rfl)) ?_
 intro W base args ds gs before hval0 hW _ _
 have hval : ∀ (j : Nat) t v, Try.f4.params[j]? = some t → args[j]? = some v → Value.okWide Try.prog W .any base t v := hval0
 have hW' := hW
 obtain ⟨p, q, hA0, hV, rfl, _, _⟩ := hW
 have hA : DataW.TrodAll enc Try.prog W 0 (fun _ => true) true Try.f4.params.toList args.toList ds p := hA0
 rw [Try.params4] at hA hval
 obtain ⟨args⟩ := args
 obtain ⟨v0, as0, d0, ds0, p0, q0, e0, rfl, rfl, h0, r0⟩ := trodAll_cons hA
 obtain ⟨v1, as1, d1, ds1, p1, q1, e1, rfl, rfl, h1, r1⟩ := trodAll_cons r0
 obtain ⟨v2, as2, d2, ds2, p2, q2, e2, rfl, rfl, h2, r2⟩ := trodAll_cons r1
 obtain ⟨v3, as3, d3, ds3, p3, q3, e3, rfl, rfl, h3, r3⟩ := trodAll_cons r2
 obtain ⟨e4, rfl, rfl⟩ := trodAll_nil r3
 obtain rfl : args = [v0, v1, v2, v3] := by simp only at e0; simp only [e0, e1, e2, e3, e4]
 obtain ⟨rfl, rfl⟩ := trodVars_none hV
 clear hA0 hval0
 simp only [List.append_nil] at hW'
 have hlt0 : ∀ z ∈ p0, z.block < W.heap.size := fun z hz => hW'.lt z (by simp [hz])
 have hlt1 : ∀ z ∈ p1, z.block < W.heap.size := fun z hz => hW'.lt z (by simp [hz])
 have hlt2 : ∀ z ∈ p2, z.block < W.heap.size := fun z hz => hW'.lt z (by simp [hz])
 have hlt3 : ∀ z ∈ p3, z.block < W.heap.size := fun z hz => hW'.lt z (by simp [hz])
 obtain ⟨y0, rfl, l0, m0⟩ := opened_u8i (hval 0 5 v0 rfl rfl) h0
 obtain ⟨a1, len1, cap1, rfl⟩ := okWide_slice Try.underlying22 (hval 1 22 v1 rfl rfl)
 obtain ⟨l1, hS1⟩ := opened_pas h1
 obtain ⟨a2, len2, cap2, rfl⟩ := okWide_slice Try.underlying34 (hval 2 34 v2 rfl rfl)
 obtain ⟨xs2, hB2, _, _⟩ := opened_by h2
 obtain ⟨x3, rfl, hx3⟩ := opened_po (hval 3 tPo v3 rfl rfl) h3
 refine (honest23_law pts_p y0 l0 m0 a1 len1 cap1 l1 a2 len2 cap2 xs2 x3 W hS1 hB2 hx3).mono fun e W' ⟨he, hnx⟩ => ?_
 subst he
 have harg0 := Below.trod Try.laidOut (t := 5) (by kernel_rfl) (of_decide_eq_true (by kernel_rfl)) h0 hnx hlt0
 have harg1 := Below.trod Try.laidOut (t := 22) (by kernel_rfl) (of_decide_eq_true (by kernel_rfl)) h1 hnx hlt1
 have harg2 := Below.trod Try.laidOut (t := 34) (by kernel_rfl) (of_decide_eq_true (by kernel_rfl)) h2 hnx hlt2
 have harg3 := Below.trod Try.laidOut (t := tPo) (by kernel_rfl) (of_decide_eq_true (by kernel_rfl)) h3 hnx hlt3
 exact ⟨_, rfl, _, _, _, [], _, [], hW', trodAll_mk1 (shut_bool Try.underlying4 _), trodAll_cons_mk harg0 (trodAll_cons_mk harg1 (trodAll_cons_mk harg2 (trodAll_cons_mk harg3 trodAll_mk0))), rfl, hnx.frame _, fun h => by cases h⟩

theorem phon23_holds : Rows.PointsHonestSaid :=
 OpenClaim.holds_of_wide 4 Try.f4 rfl rfl rfl rfl rfl rfl rfl ⟨rfl, rfl, rfl, rfl, rfl⟩ rfl rfl rfl rfl rfl (by kernel_rfl) Try.func4 (by kernel_rfl)
  (of_decide_eq_true (by kernel_rfl)) (by unfold Func.isWrapper; first | (rw [if_pos (by decide +kernel)]; kernel_rfl) | (rw [if_neg (by decide +kernel)]; exact ⟨rfl, rfl⟩))
  (fun os started H enc _ => phon23_lifted os started H enc)

#print axioms phon23_holds

end Go.Proofs.Ytpolofehkckaoaa
