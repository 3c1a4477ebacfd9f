/-
  VectorSigns: FOR EVERY SEED, KIND, SENDER, BODY, LIST OF HEARERS, PLACE, OTHER HEARER AND OTHER MESSAGE (nil slices too) the law returns true, and leaves its arguments as they were. Condition: the program's two tables of constants stand as its text lays them (the card ties that to the text).
-/
import Derived.Test.YtnncfhkgcaoomaaDoorVSigns
import Derived.Test.YtnncfhkgcaoomaaDoorVOpen
import Derived.SevenTiedAt
namespace Go.Proofs.YtnncfhkgcaoomaaDoor
open Go.ChangeShapes Go.WideShapes Go.ChangeAt Go.RowKit

set_option maxHeartbeats 1600000 in
set_option maxRecDepth 100000 in
theorem vsig_lifted (os : Os) (started : os.Started) (H : Type) (enc : TypeId × Value → H) :
    ReturnsInHanded {} Tryd.checked os 3 .any (fun w args => (Rows.vectorSignsSpec.pre enc Tryd.prog Tryd.f3 [] false w args ∧ laidMetH Tryd.prog laid2 w) ∧ sizedMet enc Tryd.prog Tryd.f3 (OpenSpec.ofChange Rows.vectorSignsSpec) false w args)
      (Rows.vectorSignsSpec.post enc Tryd.prog Tryd.f3 false true false false) := by
  refine returnsInHanded_of_change_and (C := Tryd.checked) (X := fun w _ => laidMetH Tryd.prog laid2 w) (fun _ _ _ hh h => h.of_heap hh) Tryd.own started (by kernel_rfl) Tryd.func3
    (ChangeSpec.witness_shaped (enc := enc) (C := Tryd.checked) (os := os) (X := fun w _ => laidMetH Tryd.prog laid2 w) false (World.doorLaid Tryd.prog 400 os) #[.slice none 0 0, .int .i64 0, .int .i64 0, .slice none 0 0, .slice none 0 0, .int .i64 0, .int .i64 0, .agg #[.int .i64 0, .int .i64 0, .slice none 0 0, .slice none 0 0]] 8 rfl (World.shaped_of_RefB (by kernel_rfl) (by kernel_rfl)) (by kernel_rfl) (by kernel_rfl) (by kernel_rfl) (door_met os _)) ?_
  intro W base args ds gs before hval0 hW _ _ hL _
  have hval : ∀ (j : Nat) t v, Tryd.f3.params[j]? = some t → args[j]? = some v → Value.okWide Tryd.prog W .any base t v := hval0
  have hW' := hW
  obtain ⟨p, q, hA0, hV, rfl, _, _⟩ := hW
  have hA : DataW.TrodAll enc Tryd.prog W 0 (fun _ => true) true Tryd.f3.params.toList args.toList ds p := hA0
  rw [Tryd.params3] at hA hval
  obtain ⟨args⟩ := args
  obtain ⟨v0, as0, d0, ds0, p0, q0, e0, rfl, rfl, h0, r0⟩ := trodAll_cons hA
  obtain ⟨v1, as1, d1, ds1, p1, q1, e1, rfl, rfl, h1, r1⟩ := trodAll_cons r0
  obtain ⟨v2, as2, d2, ds2, p2, q2, e2, rfl, rfl, h2, r2⟩ := trodAll_cons r1
  obtain ⟨v3, as3, d3, ds3, p3, q3, e3, rfl, rfl, h3, r3⟩ := trodAll_cons r2
  obtain ⟨v4, as4, d4, ds4, p4, q4, e4, rfl, rfl, h4, r4⟩ := trodAll_cons r3
  obtain ⟨v5, as5, d5, ds5, p5, q5, e5, rfl, rfl, h5, r5⟩ := trodAll_cons r4
  obtain ⟨v6, as6, d6, ds6, p6, q6, e6, rfl, rfl, h6, r6⟩ := trodAll_cons r5
  obtain ⟨v7, as7, d7, ds7, p7, q7, e7, rfl, rfl, h7, r7⟩ := trodAll_cons r6
  obtain ⟨e8, rfl, rfl⟩ := trodAll_nil r7
  obtain rfl : args = [v0, v1, v2, v3, v4, v5, v6, v7] := by simp only at e0; simp only [e0, e1, e2, e3, e4, e5, e6, e7, e8]
  obtain ⟨rfl, rfl⟩ := trodVars_none hV
  clear hA0 hval0
  simp only [List.append_nil] at hW'
  have hlt0 : ∀ z ∈ p0, z.block < W.heap.size := fun z hz => hW'.lt z (by simp [hz])
  have hlt1 : ∀ z ∈ p1, z.block < W.heap.size := fun z hz => hW'.lt z (by simp [hz])
  have hlt2 : ∀ z ∈ p2, z.block < W.heap.size := fun z hz => hW'.lt z (by simp [hz])
  have hlt3 : ∀ z ∈ p3, z.block < W.heap.size := fun z hz => hW'.lt z (by simp [hz])
  have hlt4 : ∀ z ∈ p4, z.block < W.heap.size := fun z hz => hW'.lt z (by simp [hz])
  have hlt5 : ∀ z ∈ p5, z.block < W.heap.size := fun z hz => hW'.lt z (by simp [hz])
  have hlt6 : ∀ z ∈ p6, z.block < W.heap.size := fun z hz => hW'.lt z (by simp [hz])
  have hlt7 : ∀ z ∈ p7, z.block < W.heap.size := fun z hz => hW'.lt z (by simp [hz])
  obtain ⟨a0, len0, cap0, rfl⟩ := okWide_slice Tryd.underlying22 (hval 0 22 v0 rfl rfl)
  obtain ⟨xs0, hB0, _, _⟩ := opened h0
  obtain ⟨y1, rfl, _, _⟩ := opened_int (hval 1 3 v1 rfl rfl) h1
  obtain ⟨y2, rfl, _, _⟩ := opened_int (hval 2 3 v2 rfl rfl) h2
  obtain ⟨a3, len3, cap3, rfl⟩ := okWide_slice Tryd.underlying22 (hval 3 22 v3 rfl rfl)
  obtain ⟨xs3, hB3, _, _⟩ := opened h3
  obtain ⟨a4, len4, cap4, rfl⟩ := okWide_slice Tryd.underlying23 (hval 4 23 v4 rfl rfl)
  obtain ⟨zs4, hB4⟩ := openedInts h4
  obtain ⟨y5, rfl, _, _⟩ := opened_int (hval 5 3 v5 rfl rfl) h5
  obtain ⟨y6, rfl, _, _⟩ := opened_int (hval 6 3 v6 rfl rfl) h6
  obtain ⟨mk7, mf7, mB7, mn7, mc7, mx7, mT7, mm7, md7, _, rfl, hM7, _⟩ := openedMsg (hval 7 26 v7 rfl rfl) h7
  refine (vsig_any y1 y2 y5 y6 mk7 mf7 xs0 xs3 mx7 zs4 a0 a3 a4 mB7 mT7 len0 cap0 len3 cap3 len4 cap4 mn7 mc7 mm7 md7 W (tab_of hL) hB0 hB3 hB4 hM7).mono fun e W' ⟨he, hnx⟩ => ?_
  subst he
  have harg0 := Below.trod Tryd.laidOut (t := 22) (by kernel_rfl) (of_decide_eq_true (by kernel_rfl)) h0 hnx hlt0
  have harg1 := Below.trod Tryd.laidOut (t := 3) (by kernel_rfl) (of_decide_eq_true (by kernel_rfl)) h1 hnx hlt1
  have harg2 := Below.trod Tryd.laidOut (t := 3) (by kernel_rfl) (of_decide_eq_true (by kernel_rfl)) h2 hnx hlt2
  have harg3 := Below.trod Tryd.laidOut (t := 22) (by kernel_rfl) (of_decide_eq_true (by kernel_rfl)) h3 hnx hlt3
  have harg4 := Below.trod Tryd.laidOut (t := 23) (by kernel_rfl) (of_decide_eq_true (by kernel_rfl)) h4 hnx hlt4
  have harg5 := Below.trod Tryd.laidOut (t := 3) (by kernel_rfl) (of_decide_eq_true (by kernel_rfl)) h5 hnx hlt5
  have harg6 := Below.trod Tryd.laidOut (t := 3) (by kernel_rfl) (of_decide_eq_true (by kernel_rfl)) h6 hnx hlt6
  have harg7 := Below.trod Tryd.laidOut (t := 26) (by kernel_rfl) (of_decide_eq_true (by kernel_rfl)) h7 hnx hlt7
  exact ⟨_, rfl, _, _, _, [], _, [], hW', trodAll_mk1 (shut_bool Tryd.underlying4 _), trodAll_cons_mk harg0 (trodAll_cons_mk harg1 (trodAll_cons_mk harg2 (trodAll_cons_mk harg3 (trodAll_cons_mk harg4 (trodAll_cons_mk harg5 (trodAll_cons_mk harg6 (trodAll_cons_mk harg7 trodAll_mk0))))))), rfl, hnx.frame _, fun h => by cases h⟩

theorem vsig_row : Rows.VectorSignsSaid :=
  OpenClaim.holds_of_wide 3 Tryd.f3 rfl rfl rfl rfl rfl rfl rfl ⟨rfl, rfl, rfl, rfl, rfl⟩ rfl rfl rfl rfl rfl (by kernel_rfl) Tryd.func3 (by kernel_rfl)
    (of_decide_eq_true (by kernel_rfl)) (by unfold Func.isWrapper; first | (rw [if_pos (by decide +kernel)]; kernel_rfl) | (rw [if_neg (by decide +kernel)]; exact ⟨rfl, rfl⟩))
    (fun os started H enc _ => vsig_lifted os started H enc)

theorem vsig_holds : Rows.VectorSignsCardSaid :=
  Claim7.holds_tied_plain_at .later [] [.data, .data] true Rows.vectorSignsCard.stood.harness false
    vsig_row (fun _ h => by cases h) (by kernel_rfl) (fun _ h => by cases h) vectorSigns_row_tie rfl ⟨rfl, rfl⟩ (by kernel_rfl) rfl
    (fun f fn hf hfn => by
      obtain rfl : f = 3 := Option.some.inj ((show Tryd.prog.funcNamed "bottomry/bottomrylaw06.VectorSigns" = some 3 by kernel_rfl).symm.trans hf) |>.symm
      obtain rfl : fn = Tryd.f3 := (Option.some.inj (Tryd.func3.symm.trans hfn)).symm
      exact ⟨by kernel_rfl, fun j t ht => by
        rw [Tryd.params3] at ht
        have hm : t ∈ [22, 3, 23, 26] := by have := Array.mem_of_getElem? ht; simp at this ⊢; first | (rcases this with h | h | h | h | h | h | h | h <;> simp [h]) | (rcases this with h | h | h | h | h | h | h <;> simp [h]) | (rcases this with h | h | h | h | h | h <;> simp [h]) | (rcases this with h | h | h | h | h <;> simp [h]) | (rcases this with h | h | h | h <;> simp [h])
        have hall : ([22, 3, 23, 26].all fun u => !Tryd.prog.wantsStandIn u) = true := by kernel_rfl
        exact (show Tryd.prog.wantsStandIn t = false by simpa using List.all_eq_true.1 hall t hm)⟩)
    (by kernel_rfl)

#print axioms vsig_holds
end Go.Proofs.YtnncfhkgcaoomaaDoor
