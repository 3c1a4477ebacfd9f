/-
  LedgerTells: FOR EVERY LEDGER, LETTER, OUTCOME, TEXT AND NUMBER the law returns true, and leaves its arguments as they were. No condition.
-/
import Derived.Test.YtkbeodlihmmdbaaPgLTe
import Derived.Test.YtkbeodlihmmdbaaPgOp
namespace Go.Proofs.Ytkbeodlihmmdbaa
open Go.ChangeShapes Go.WideShapes Go.ChangeAt Go.RowKit

set_option maxHeartbeats 1600000 in
set_option maxRecDepth 100000 in
theorem ltells_lifted (os : Go.Os) (started : os.Started) (H : Type) (enc : TypeId × Value → H) :
    ReturnsInHanded {} Try.checked os 3 .any (Rows.ledgerTellsSpec.pre6 enc Try.prog Try.f3 Rows.ledgerTellsRow.domain false) (Rows.ledgerTellsSpec.post enc Try.prog Try.f3 false true false false) := by
  refine returnsInHanded_of_change (C := Try.checked) Try.own started (by kernel_rfl) Try.func3
    (ChangeSpec.witness6 (enc := enc) (C := Try.checked) false ⟨#[], #[.agg #[.int .i64 0, .int .i64 0, .slice none 0 0, .slice none 0 0], .agg #[.string ⟨#[]⟩, .int .i64 0, .int .i64 0, .int .i64 0, .string ⟨#[]⟩, .string ⟨#[]⟩], .agg #[.int .i64 0, .int .i64 0, .int .i64 0], .string ⟨#[]⟩, .int .i64 0], []⟩ 8 (by kernel_rfl) (by kernel_rfl) (by kernel_rfl) (by kernel_rfl)) ?_
  intro W base args ds gs before hval0 hW _ _
  have hval : ∀ (j : Nat) t v, Try.f3.params[j]? = some t → args[j]? = some v → Value.okWide Try.prog W .any base t v := hval0
  have hW' := hW
  obtain ⟨p, q, hA0, hV, rfl, _, _⟩ := hW
  have hA : DataW.TrodAll enc Try.prog W 0 (fun _ => true) true Try.f3.params.toList args.toList ds p := hA0
  rw [Try.params3] at hA hval
  obtain ⟨args⟩ := args
  obtain ⟨v0, as0, d0, ds0, p0, q0, e0, rfl, rfl, h0, r0⟩ := trodAll_cons hA
  obtain ⟨v1, as1, d1, ds1, p1, q1, e1, rfl, rfl, h1, r1⟩ := trodAll_cons r0
  obtain ⟨v2, as2, d2, ds2, p2, q2, e2, rfl, rfl, h2, r2⟩ := trodAll_cons r1
  obtain ⟨v3, as3, d3, ds3, p3, q3, e3, rfl, rfl, h3, r3⟩ := trodAll_cons r2
  obtain ⟨v4, as4, d4, ds4, p4, q4, e4, rfl, rfl, h4, r4⟩ := trodAll_cons r3
  obtain ⟨e5, rfl, rfl⟩ := trodAll_nil r4
  obtain rfl : args = [v0, v1, v2, v3, v4] := by simp only at e0; simp only [e0, e1, e2, e3, e4, e5]
  obtain ⟨rfl, rfl⟩ := trodVars_none hV
  clear hA0 hval0
  simp only [List.append_nil] at hW'
  have hlt0 : ∀ z ∈ p0, z.block < W.heap.size := fun z hz => hW'.lt z (by simp [hz])
  have hlt1 : ∀ z ∈ p1, z.block < W.heap.size := fun z hz => hW'.lt z (by simp [hz])
  have hlt2 : ∀ z ∈ p2, z.block < W.heap.size := fun z hz => hW'.lt z (by simp [hz])
  have hlt3 : ∀ z ∈ p3, z.block < W.heap.size := fun z hz => hW'.lt z (by simp [hz])
  have hlt4 : ∀ z ∈ p4, z.block < W.heap.size := fun z hz => hW'.lt z (by simp [hz])
  obtain ⟨l0, A0, n0, c0, B0, m0, dd0, rfl, hI0, hc0, hcm0, hd0, hdm0⟩ := opened_lg (hval 0 25 v0 rfl rfl) h0
  obtain ⟨l1, rfl, hl1, hp1, hq1⟩ := opened_lt (hval 1 27 v1 rfl rfl) h1
  obtain ⟨o2, rfl⟩ := opened_oc (hval 2 30 v2 rfl rfl) h2
  obtain ⟨t3, rfl, ht3⟩ := opened_str (hval 3 9 v3 rfl rfl) h3
  obtain ⟨y4, rfl, _, _⟩ := opened_int (hval 4 3 v4 rfl rfl) h4
  refine (ltells_any l0 l1 o2 t3 y4 A0 n0 c0 B0 m0 dd0 W hI0 hc0 hcm0 hd0 hdm0).mono fun e W' ⟨he, hnx⟩ => ?_
  subst he
  have harg0 := Below.trod Try.laidOut (t := 25) (by kernel_rfl) (of_decide_eq_true (by kernel_rfl)) h0 hnx hlt0
  have harg1 := Below.trod Try.laidOut (t := 27) (by kernel_rfl) (of_decide_eq_true (by kernel_rfl)) h1 hnx hlt1
  have harg2 := Below.trod Try.laidOut (t := 30) (by kernel_rfl) (of_decide_eq_true (by kernel_rfl)) h2 hnx hlt2
  have harg3 := Below.trod Try.laidOut (t := 9) (by kernel_rfl) (of_decide_eq_true (by kernel_rfl)) h3 hnx hlt3
  have harg4 := Below.trod Try.laidOut (t := 3) (by kernel_rfl) (of_decide_eq_true (by kernel_rfl)) h4 hnx hlt4
  exact ⟨_, rfl, _, _, _, [], _, [], hW', trodAll_mk1 (shut_bool Try.underlying4 _), trodAll_cons_mk harg0 (trodAll_cons_mk harg1 (trodAll_cons_mk harg2 (trodAll_cons_mk harg3 (trodAll_cons_mk harg4 trodAll_mk0)))), rfl, hnx.frame _, fun h => by cases h⟩

theorem ltells_holds : Rows.LedgerTellsSaid :=
  OpenClaim.holds_of_wide 3 Try.f3 rfl rfl rfl rfl rfl rfl rfl ⟨rfl, rfl, rfl, rfl, rfl⟩ rfl rfl rfl rfl rfl (by kernel_rfl) Try.func3 (by kernel_rfl)
    (of_decide_eq_true (by kernel_rfl)) (by unfold Func.isWrapper; first | (rw [if_pos (by decide +kernel)]; kernel_rfl) | (rw [if_neg (by decide +kernel)]; exact ⟨rfl, rfl⟩))
    (fun os started H enc _ => ltells_lifted os started H enc)

#print axioms ltells_holds
end Go.Proofs.Ytkbeodlihmmdbaa
