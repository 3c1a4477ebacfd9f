/-
  NewviewBack: FOR EVERY VIEW, ROW OF SIGNED CHANGES, nil or not, AND NUMBER the law returns true, and leaves its arguments as they were. No condition.
-/
import Derived.Test.YtheecifgbkdecaaSN25
import Derived.Test.YtheecifgbkdecaaSN30
import Derived.Test.YtheecifgbkdecaaSN32
import Derived.Test.YtheecifgbkdecaaSN48
import Derived.Test.YtheecifgbkdecaaSN44
import Derived.Test.YtheecifgbkdecaaSN43
namespace Go.Proofs.Ytheecifgbkdecaa
open Go.ChangeShapes Go.WideShapes Go.ChangeAt Go.RowKit

set_option maxHeartbeats 1600000 in
set_option maxRecDepth 100000 in
theorem nvback19_lifted (os : Go.Os) (started : os.Started) (H : Type) (enc : TypeId × Value → H) :
  ReturnsInHanded {} Try.checked os 6 .any (Rows.newviewBackSpec.pre6 enc Try.prog Try.f6 Rows.newviewBackRow.domain false) (Rows.newviewBackSpec.post enc Try.prog Try.f6 false true false false) := by
 refine returnsInHanded_of_change (C := Try.checked) Try.own started (by kernel_rfl) Try.func6
  (ChangeSpec.witness6 (enc := enc) (C := Try.checked) false ⟨#[], #[.int .i64 0, .slice none 0 0, .int .i64 0], []⟩ 8 (by kernel_rfl) (by kernel_rfl) (by kernel_rfl) (by kernel_rfl)) ?_
 intro W base args ds gs before hval0 hW _ _
 have hval : ∀ (j : Nat) t v, Try.f6.params[j]? = some t → args[j]? = some v → Value.okWide Try.prog W .any base t v := hval0
 have hW' := hW
 obtain ⟨p, q, hA0, hV, rfl, _, _⟩ := hW
 have hA : DataW.TrodAll enc Try.prog W 0 (fun _ => true) true Try.f6.params.toList args.toList ds p := hA0
 rw [Try.params6] at hA hval
 obtain ⟨args⟩ := args
 obtain ⟨v0, as0, d0, ds0, p0, q0, e0, rfl, rfl, h0, r0⟩ := trodAll_cons hA
 obtain ⟨v1, as1, d1, ds1, p1, q1, e1, rfl, rfl, h1, r1⟩ := trodAll_cons r0
 obtain ⟨v2, as2, d2, ds2, p2, q2, e2, rfl, rfl, h2, r2⟩ := trodAll_cons r1
 obtain ⟨e3, rfl, rfl⟩ := trodAll_nil r2
 obtain rfl : args = [v0, v1, v2] := by simp only at e0; simp only [e0, e1, e2, e3]
 obtain ⟨rfl, rfl⟩ := trodVars_none hV
 clear hA0 hval0
 simp only [List.append_nil] at hW'
 have hlt0 : ∀ z ∈ p0, z.block < W.heap.size := fun z hz => hW'.lt z (by simp [hz])
 have hlt1 : ∀ z ∈ p1, z.block < W.heap.size := fun z hz => hW'.lt z (by simp [hz])
 have hlt2 : ∀ z ∈ p2, z.block < W.heap.size := fun z hz => hW'.lt z (by simp [hz])
 obtain ⟨y0, rfl, lo0, hi0⟩ := opened_v64 (hval 0 2 v0 rfl rfl) h0
 obtain ⟨a1, len1, cap1, rfl⟩ := okWide_slice Try.underlying42 (hval 1 42 v1 rfl rfl)
 obtain ⟨l1, hL1, hI1, hc1, hm1⟩ := opened_sgs h1
 obtain ⟨y2, rfl, _, _⟩ := opened_int (hval 2 3 v2 rfl rfl) h2
 refine (newviewback_of (fixed19_of parsenw bytesnw checknw faultsnw quorumnw) parsenw bytesnw checknw y0 l1 y2 a1 len1 cap1 W hL1 hc1 hm1 ⟨by omega, by omega⟩ hI1).mono fun e W' ⟨he, hnx⟩ => ?_
 subst he
 have harg0 := Below.trod Try.laidOut (t := 2) (by kernel_rfl) (of_decide_eq_true (by kernel_rfl)) h0 hnx hlt0
 have harg1 := Below.trod Try.laidOut (t := 42) (by kernel_rfl) (of_decide_eq_true (by kernel_rfl)) h1 hnx hlt1
 have harg2 := Below.trod Try.laidOut (t := 3) (by kernel_rfl) (of_decide_eq_true (by kernel_rfl)) h2 hnx hlt2
 exact ⟨_, rfl, _, _, _, [], _, [], hW', trodAll_mk1 (shut_bool Try.underlying4 _), trodAll_cons_mk harg0 (trodAll_cons_mk harg1 (trodAll_cons_mk harg2 trodAll_mk0)), rfl, hnx.frame _, fun h => by cases h⟩

theorem nvback19_holds : Rows.NewviewBackSaid :=
 OpenClaim.holds_of_wide 6 Try.f6 rfl rfl rfl rfl rfl rfl rfl ⟨rfl, rfl, rfl, rfl, rfl⟩ rfl rfl rfl rfl rfl (by kernel_rfl) Try.func6 (by kernel_rfl)
  (of_decide_eq_true (by kernel_rfl)) (by unfold Func.isWrapper; first | (rw [if_pos (by decide +kernel)]; kernel_rfl) | (rw [if_neg (by decide +kernel)]; exact ⟨rfl, rfl⟩))
  (fun os started H enc _ => nvback19_lifted os started H enc)

#print axioms nvback19_holds
end Go.Proofs.Ytheecifgbkdecaa
