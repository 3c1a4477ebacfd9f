/-
  EndorseWith: FOR EVERY REQUEST, ENDORSEMENT, POLICY, SET AND NUMBER whose reading is of bulk at most 1048576 the law returns true, and leaves its arguments as they were.
-/
import Derived.Test.YtfonkdcpghbaoaaEnX
import Derived.Test.YtfonkdcpghbaoaaEnOp
import Derived.JoinedCond
namespace Go.Proofs.Ytfonkdcpghbaoaa
open Go.ChangeShapes Go.WideShapes Go.ChangeAt Go.RowKit

set_option maxHeartbeats 16000000 in
set_option maxRecDepth 100000 in
theorem ewith_lifted (os : Go.Os) (started : os.Started) (H : Type) (enc : TypeId × Value → H) (F0 : Stop.Interp) :
    ReturnsInHanded {} Try.checked os 7 .any ((Rows.OpenSpec.upto Rows.endorseWithSpec).pre6 enc Try.prog Try.f7 Rows.endorseWithUptoRow.domain false) (((Rows.OpenSpec.upto Rows.endorseWithSpec).at F0).post enc Try.prog Try.f7 false true false false) := by
  refine returnsInHanded_of_cond (C := Try.checked) (s := Rows.OpenSpec.upto Rows.endorseWithSpec) (k := Rows.uptoSmall) rfl Try.own started (by kernel_rfl) Try.func7
    (OpenSpec.witness (enc := enc) (C := Try.checked) (s := Rows.OpenSpec.upto Rows.endorseWithSpec) (k := Rows.uptoSmall) rfl false ⟨#[], #[.agg #[.int .i64 0, .int .i64 0, .int .i64 0, .string ⟨#[]⟩, .int .i64 0, .int .i64 0, .string ⟨#[]⟩, .slice none 0 0], .agg #[.int .i64 0, .slice none 0 0], .agg #[.int .i64 0, .int .i64 0, .slice none 0 0], .int .u32 0, .int .i64 0], []⟩ 8 (by kernel_rfl) (by kernel_rfl) (by kernel_rfl)
      (x := ([.agg [.agg [.lit (.int .i64 0), .lit (.int .i64 0), .lit (.int .i64 0), .lit (.string []), .lit (.int .i64 0), .lit (.int .i64 0), .lit (.string [])], .nil], .agg [.lit (.int .i64 0), .nil], .agg [.lit (.int .i64 0), .lit (.int .i64 0), .nil], .lit (.int .u32 0), .lit (.int .i64 0)], [], [])) (by kernel_rfl) (by kernel_rfl) (by kernel_rfl)) ?_
  intro W base args ds gs before hval0 hW _ hk _
  have hval : ∀ (j : Nat) t v, Try.f7.params[j]? = some t → args[j]? = some v → Value.okWide Try.prog W .any base t v := hval0
  have hW' := hW
  obtain ⟨p, q, hA0, hV, rfl, _, _⟩ := hW
  have hA : DataW.TrodAll enc Try.prog W 0 (fun _ => true) true Try.f7.params.toList args.toList ds p := hA0
  rw [Try.params7] at hA hval
  obtain ⟨args⟩ := args
  obtain ⟨v0, as0, d0, ds0, p0, q0, e0, rfl, rfl, h0, r0⟩ := trodAll_cons hA
  obtain ⟨v1, as1, d1, ds1, p1, q1, e1, rfl, rfl, h1, r1⟩ := trodAll_cons r0
  obtain ⟨v2, as2, d2, ds2, p2, q2, e2, rfl, rfl, h2, r2⟩ := trodAll_cons r1
  obtain ⟨v3, as3, d3, ds3, p3, q3, e3, rfl, rfl, h3, r3⟩ := trodAll_cons r2
  obtain ⟨v4, as4, d4, ds4, p4, q4, e4, rfl, rfl, h4, r4⟩ := trodAll_cons r3
  obtain ⟨e5, rfl, rfl⟩ := trodAll_nil r4
  obtain rfl : args = [v0, v1, v2, v3, v4] := by simp only at e0; simp only [e0, e1, e2, e3, e4, e5]
  obtain ⟨rfl, rfl⟩ := trodVars_none hV
  clear hA0 hval0
  simp only [List.append_nil] at hW'
  have hlt0 : ∀ z ∈ p0, z.block < W.heap.size := fun z hz => hW'.lt z (by simp [hz])
  have hlt1 : ∀ z ∈ p1, z.block < W.heap.size := fun z hz => hW'.lt z (by simp [hz])
  have hlt2 : ∀ z ∈ p2, z.block < W.heap.size := fun z hz => hW'.lt z (by simp [hz])
  have hlt3 : ∀ z ∈ p3, z.block < W.heap.size := fun z hz => hW'.lt z (by simp [hz])
  have hlt4 : ∀ z ∈ p4, z.block < W.heap.size := fun z hz => hW'.lt z (by simp [hz])
  obtain ⟨co0, A0, n0, c0, es0, rfl, hf0, hI0, hc0, hm0, hr0⟩ := opened_rq (hval 0 34 v0 rfl rfl) h0
  obtain ⟨x1, s1, rfl, hT1⟩ := opened_en (hval 1 41 v1 rfl rfl) h1
  obtain ⟨B1, m1, g1⟩ := s1
  obtain ⟨f2, A2, n2, c2, rfl, hF2, hb2⟩ := opened_fmb (hval 2 57 v2 rfl rfl) h2
  obtain ⟨y3, rfl, hy3⟩ := opened_u32 (hval 3 51 v3 rfl rfl) h3
  obtain ⟨y4, rfl, _, _⟩ := opened_int (hval 4 3 v4 rfl rfl) h4
  have hsz : f2.size ≤ 1048576 := by
    unfold Rows.uptoSmall at hk
    have h9 := of_decide_eq_true hk
    simp only [List.append_nil, Rows.uptoBulkAll] at h9
    omega
  have hdp := Fm.depth_le f2
  refine (endorsewith_any co0 es0 A0 n0 c0 x1 B1 m1 g1 f2 A2 n2 c2 y3 y4 W hI0 hT1 hc0 hm0 hF2 (by omega) (by omega) hy3).mono fun e W' ⟨he, hnx⟩ => ?_
  subst he
  have harg0 := Below.trod Try.laidOut (t := 34) (by kernel_rfl) (of_decide_eq_true (by kernel_rfl)) h0 hnx hlt0
  have harg1 := Below.trod Try.laidOut (t := 41) (by kernel_rfl) (of_decide_eq_true (by kernel_rfl)) h1 hnx hlt1
  have harg2 := Below.trod Try.laidOut (t := 57) (by kernel_rfl) (of_decide_eq_true (by kernel_rfl)) h2 hnx hlt2
  have harg3 := Below.trod Try.laidOut (t := 51) (by kernel_rfl) (of_decide_eq_true (by kernel_rfl)) h3 hnx hlt3
  have harg4 := Below.trod Try.laidOut (t := 3) (by kernel_rfl) (of_decide_eq_true (by kernel_rfl)) h4 hnx hlt4
  exact ⟨_, rfl, _, _, _, [], _, [], hW', trodAll_mk1 (shut_bool Try.underlying4 _), trodAll_cons_mk harg0 (trodAll_cons_mk harg1 (trodAll_cons_mk harg2 (trodAll_cons_mk harg3 (trodAll_cons_mk harg4 (trodAll_mk0))))), rfl, hnx.frame _, fun h => by cases h⟩

theorem ewith_holds : Rows.EndorseWithUptoSaid :=
  OpenClaim.holds_of_cond 7 Try.f7 rfl rfl rfl rfl rfl rfl rfl ⟨rfl, rfl, rfl, rfl, rfl⟩ rfl rfl rfl rfl rfl (by kernel_rfl) Try.func7 (by kernel_rfl)
    (of_decide_eq_true (by kernel_rfl)) (by unfold Func.isWrapper; first | (rw [if_pos (by decide +kernel)]; kernel_rfl) | (rw [if_neg (by decide +kernel)]; exact ⟨rfl, rfl⟩))
    (fun os started H enc _ F0 => ewith_lifted os started H enc F0)

#print axioms ewith_holds
end Go.Proofs.Ytfonkdcpghbaoaa
