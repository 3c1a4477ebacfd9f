/-
  BookApart: FOR ALL KINDS, NUMBERS AND TEXTS (nil too), and every slice of texts between, the law returns true, and leaves its arguments as they were. No condition.
-/
import Derived.Test.YtnncfhkgcaoomaaApart
import Derived.Test.YtnncfhkgcaoomaaPTxtsO
namespace Go.Proofs.Ytnncfhkgcaoomaa
open Go.ChangeShapes Go.WideShapes Go.ChangeAt Go.RowKit

set_option maxHeartbeats 1600000 in
set_option maxRecDepth 100000 in
theorem apart_lifted (os : Os) (started : os.Started) (H : Type) (enc : TypeId × Value → H) :
    ReturnsInHanded {} Try.checked os 4 .any (Rows.bookApartSpec.pre6 enc Try.prog Try.f4 Rows.bookApartRow.domain false) (Rows.bookApartSpec.post enc Try.prog Try.f4 false true false false) := by
  refine returnsInHanded_of_change (C := Try.checked) Try.own started (by kernel_rfl) Try.func4
    (ChangeSpec.witness6 (enc := enc) (C := Try.checked) false ⟨#[], #[.int .i64 0, .slice none 0 0, .int .i64 0, .slice none 0 0, .int .i64 0, .int .i64 0, .int .i64 0, .slice none 0 0], []⟩ 8 (by kernel_rfl) (by kernel_rfl) (by kernel_rfl) (by kernel_rfl)) ?_
  intro W base args ds gs before hval0 hW _ _
  have hval : ∀ (j : Nat) t v, Try.f4.params[j]? = some t → args[j]? = some v → Value.okWide Try.prog W .any base t v := hval0
  have hW' := hW
  obtain ⟨p, q, hA0, hV, rfl, _, _⟩ := hW
  have hA : DataW.TrodAll enc Try.prog W 0 (fun _ => true) true Try.f4.params.toList args.toList ds p := hA0
  rw [Try.params4] at hA hval
  obtain ⟨args⟩ := args
  obtain ⟨v0, as0, d0, ds0, p0, q0, e0, rfl, rfl, h0, r0⟩ := trodAll_cons hA
  obtain ⟨v1, as1, d1, ds1, p1, q1, e1, rfl, rfl, h1, r1⟩ := trodAll_cons r0
  obtain ⟨v2, as2, d2, ds2, p2, q2, e2, rfl, rfl, h2, r2⟩ := trodAll_cons r1
  obtain ⟨v3, as3, d3, ds3, p3, q3, e3, rfl, rfl, h3, r3⟩ := trodAll_cons r2
  obtain ⟨v4, as4, d4, ds4, p4, q4, e4, rfl, rfl, h4, r4⟩ := trodAll_cons r3
  obtain ⟨v5, as5, d5, ds5, p5, q5, e5, rfl, rfl, h5, r5⟩ := trodAll_cons r4
  obtain ⟨v6, as6, d6, ds6, p6, q6, e6, rfl, rfl, h6, r6⟩ := trodAll_cons r5
  obtain ⟨v7, as7, d7, ds7, p7, q7, e7, rfl, rfl, h7, r7⟩ := trodAll_cons r6
  obtain ⟨e8, rfl, rfl⟩ := trodAll_nil r7
  obtain rfl : args = [v0, v1, v2, v3, v4, v5, v6, v7] := by simp only at e0; simp only [e0, e1, e2, e3, e4, e5, e6, e7, e8]
  obtain ⟨rfl, rfl⟩ := trodVars_none hV
  clear hA0 hval0
  simp only [List.append_nil] at hW'
  have hlt0 : ∀ z ∈ p0, z.block < W.heap.size := fun z hz => hW'.lt z (by simp [hz])
  have hlt1 : ∀ z ∈ p1, z.block < W.heap.size := fun z hz => hW'.lt z (by simp [hz])
  have hlt2 : ∀ z ∈ p2, z.block < W.heap.size := fun z hz => hW'.lt z (by simp [hz])
  have hlt3 : ∀ z ∈ p3, z.block < W.heap.size := fun z hz => hW'.lt z (by simp [hz])
  have hlt4 : ∀ z ∈ p4, z.block < W.heap.size := fun z hz => hW'.lt z (by simp [hz])
  have hlt5 : ∀ z ∈ p5, z.block < W.heap.size := fun z hz => hW'.lt z (by simp [hz])
  have hlt6 : ∀ z ∈ p6, z.block < W.heap.size := fun z hz => hW'.lt z (by simp [hz])
  have hlt7 : ∀ z ∈ p7, z.block < W.heap.size := fun z hz => hW'.lt z (by simp [hz])
  obtain ⟨y0, rfl, wl0, wh0⟩ := opened_int (hval 0 3 v0 rfl rfl) h0
  obtain ⟨a1, len1, cap1, rfl⟩ := okWide_slice Try.underlying33 (hval 1 33 v1 rfl rfl)
  obtain ⟨xs1, hB1, hc1⟩ := opened h1
  obtain ⟨y2, rfl, wl2, wh2⟩ := opened_int (hval 2 3 v2 rfl rfl) h2
  obtain ⟨a3, len3, cap3, rfl⟩ := okWide_slice Try.underlying33 (hval 3 33 v3 rfl rfl)
  obtain ⟨xs3, hB3, hc3⟩ := opened h3
  obtain ⟨y4, rfl, wl4, wh4⟩ := opened_int (hval 4 3 v4 rfl rfl) h4
  obtain ⟨y5, rfl, wl5, wh5⟩ := opened_int (hval 5 3 v5 rfl rfl) h5
  obtain ⟨y6, rfl, wl6, wh6⟩ := opened_int (hval 6 3 v6 rfl rfl) h6
  obtain ⟨a7, len7, cap7, rfl⟩ := okWide_slice Try.underlying45 (hval 7 45 v7 rfl rfl)
  have hB7 := openedTxts h7
  refine (apart_any y0 y2 y4 y5 y6 xs1 xs3 a1 a3 a7 len1 cap1 len3 cap3 len7 cap7 W hB1 hB3 hB7).mono fun e W' ⟨he, hnx⟩ => ?_
  subst he
  have harg0 := Below.trod Try.laidOut (t := 3) (by kernel_rfl) (of_decide_eq_true (by kernel_rfl)) h0 hnx hlt0
  have harg1 := Below.trod Try.laidOut (t := 33) (by kernel_rfl) (of_decide_eq_true (by kernel_rfl)) h1 hnx hlt1
  have harg2 := Below.trod Try.laidOut (t := 3) (by kernel_rfl) (of_decide_eq_true (by kernel_rfl)) h2 hnx hlt2
  have harg3 := Below.trod Try.laidOut (t := 33) (by kernel_rfl) (of_decide_eq_true (by kernel_rfl)) h3 hnx hlt3
  have harg4 := Below.trod Try.laidOut (t := 3) (by kernel_rfl) (of_decide_eq_true (by kernel_rfl)) h4 hnx hlt4
  have harg5 := Below.trod Try.laidOut (t := 3) (by kernel_rfl) (of_decide_eq_true (by kernel_rfl)) h5 hnx hlt5
  have harg6 := Below.trod Try.laidOut (t := 3) (by kernel_rfl) (of_decide_eq_true (by kernel_rfl)) h6 hnx hlt6
  have harg7 := Below.trod Try.laidOut (t := 45) (by kernel_rfl) (of_decide_eq_true (by kernel_rfl)) h7 hnx hlt7
  exact ⟨_, rfl, _, _, _, [], _, [], hW', trodAll_mk1 (shut_bool Try.underlying4 _), trodAll_cons_mk harg0 (trodAll_cons_mk harg1 (trodAll_cons_mk harg2 (trodAll_cons_mk harg3 (trodAll_cons_mk harg4 (trodAll_cons_mk harg5 (trodAll_cons_mk harg6 (trodAll_cons_mk harg7 trodAll_mk0))))))), rfl, hnx.frame _, fun h => by cases h⟩

theorem apart_holds : Rows.BookApartSaid :=
  OpenClaim.holds_of_wide 4 Try.f4 rfl rfl rfl rfl rfl rfl rfl ⟨rfl, rfl, rfl, rfl, rfl⟩ rfl rfl rfl rfl rfl (by kernel_rfl) Try.func4 (by kernel_rfl)
    (of_decide_eq_true (by kernel_rfl)) (by unfold Func.isWrapper; first | (rw [if_pos (by decide +kernel)]; kernel_rfl) | (rw [if_neg (by decide +kernel)]; exact ⟨rfl, rfl⟩))
    (fun os started H enc _ => apart_lifted os started H enc)

#print axioms apart_holds
end Go.Proofs.Ytnncfhkgcaoomaa
