/-
  OctetsBack: FOR EVERY NUMBER, EVERY SLICE OF BYTES (nil too), AND EVERY bits, the law returns true, and leaves its arguments as they were. No condition.
-/
import Derived.Test.YtjjfleiebebblaaBack
import Derived.Test.YtjjfleiebebblaaOpen
namespace Go.Proofs.Ytjjfleiebebblaa
open Go.ChangeShapes Go.WideShapes Go.ChangeAt Go.RowKit

set_option maxHeartbeats 1000000 in
theorem back_far (v : Int) (A : Option Addr) (m c : Nat) (bits : Int) (w : World) (hm : 500 < m) :
    Calls Try.prog 5 #[.int .i64 v, .slice A m c, .int .u8 bits] w fun e w' => e = .returned (.bool true) ∧ Below w.heap.size w w' := by
  have hg1 : decide (500 < (m : Int)) = true := by simp; omega
  go_enter Try.func5, Try.ntmps5
  go_wp2_with (go_at_call 6; refine (fixed_ok _).mono ?_; rintro e w1 ⟨rfl, hb1⟩)
  go_ret
  exact ⟨rfl, hb1⟩

theorem back_any (v : Int) (h0 : -9223372036854775808 ≤ v) (h1 : v ≤ 9223372036854775807) (Q : Nat → Prop) (A : Option Addr) (m c : Nat) (ys : List UInt8) (bits : Int) (hb0 : 0 ≤ bits) (w : World) (h : By w Q A m ys) :
    Calls Try.prog 5 #[.int .i64 v, .slice A m c, .int .u8 bits] w fun e w' => e = .returned (.bool true) ∧ Below w.heap.size w w' := by
  by_cases hm : m ≤ 500
  · have hc : bits % 4 = 0 ∨ bits % 4 = 1 ∨ bits % 4 = 2 ∨ bits % 4 = 3 := by omega
    rcases hc with hb | hb | hb | hb
    · exact back_1 v h0 h1 Q A m c ys bits hb0 hb w h hm
    · exact back_2 v h0 h1 Q A m c ys bits hb0 hb w h hm
    · exact back_4 v h0 h1 Q A m c ys bits hb0 hb w h hm
    · exact back_8 v h0 h1 Q A m c ys bits hb0 hb w h hm
  · exact back_far v A m c bits w (by omega)

set_option maxHeartbeats 800000 in
set_option maxRecDepth 100000 in
theorem back_lifted (os : Os) (started : os.Started) (H : Type) (enc : TypeId × Value → H) :
    ReturnsInHanded {} Try.checked os 5 .any (Rows.octetsBackSpec.pre6 enc Try.prog Try.f5 Rows.octetsBackRow.domain false) (Rows.octetsBackSpec.post enc Try.prog Try.f5 false true false false) := by
  refine returnsInHanded_of_change (C := Try.checked) Try.own started (by kernel_rfl) Try.func5
    (ChangeSpec.witness6 (enc := enc) (C := Try.checked) false ⟨#[], #[.int .i64 0, .slice none 0 0, .int .u8 0], []⟩ 8 (by kernel_rfl) (by kernel_rfl) (by kernel_rfl) (by kernel_rfl)) ?_
  intro W base args ds gs before hval0 hW _ _
  have hval : ∀ (j : Nat) t v, Try.f5.params[j]? = some t → args[j]? = some v → Value.okWide Try.prog W .any base t v := hval0
  have hW' := hW
  obtain ⟨p, q, hA0, hV, rfl, _, _⟩ := hW
  have hA : DataW.TrodAll enc Try.prog W 0 (fun _ => true) true Try.f5.params.toList args.toList ds p := hA0
  rw [Try.params5] at hA hval
  obtain ⟨v0, v1, v2, d0, d1, d2, p0, p1, p2, rfl, rfl, rfl, h0, h1, h2⟩ := trodAll_three hA
  obtain ⟨rfl, rfl⟩ := trodVars_none hV
  obtain ⟨x, rfl, rfl, rfl, wx⟩ := open_int Try.underlying2 (hval 0 2 v0 rfl rfl) h0
  obtain ⟨a1, len1, cap1, rfl⟩ := okWide_slice Try.underlying22 (hval 1 22 v1 rfl rfl)
  obtain ⟨y, rfl, rfl, rfl, wy⟩ := open_int Try.underlying5 (hval 2 5 v2 rfl rfl) h2
  clear hA0 hval0
  simp only [List.append_nil, List.nil_append] at hW'
  have hlt : ∀ z ∈ p1, z.block < W.heap.size := fun z hz => by simpa using hW'.lt z hz
  have hx : -9223372036854775808 ≤ x ∧ x ≤ 9223372036854775807 := by simpa [Lit.wf, IntKind.min, IntKind.max, IntKind.signed, IntKind.bits] using wx
  have hy : 0 ≤ y ∧ y ≤ 255 := by simpa [Lit.wf, IntKind.min, IntKind.max, IntKind.signed, IntKind.bits] using wy
  obtain ⟨xs, hB, _⟩ := opened h1
  refine (back_any x hx.1 hx.2 _ a1 len1 cap1 xs y hy.1 W hB).mono fun e W' ⟨he, hnx⟩ => ?_
  subst he
  have harg1 : DataW.Trod enc Try.prog W' 0 (fun b => decide (b < W.heap.size)) true 22 (.slice a1 len1 cap1) d1 p1 :=
    Below.trod Try.laidOut (by kernel_rfl) (of_decide_eq_true (by kernel_rfl)) h1 hnx hlt
  exact ⟨_, rfl, _, _, _, [], _, [], hW', trodAll_mk1 (shut_bool Try.underlying4 _), trodAll_cons_mk (shut_int Try.underlying2 wx) (trodAll_cons_mk harg1 (trodAll_cons_mk (shut_int Try.underlying5 wy) trodAll_mk0)), rfl, hnx.frame _, fun h => by cases h⟩

theorem back_holds : Rows.OctetsBackSaid :=
  OpenClaim.holds_of_wide 5 Try.f5 rfl rfl rfl rfl rfl rfl rfl ⟨rfl, rfl, rfl, rfl, rfl⟩ rfl rfl rfl rfl rfl (by kernel_rfl) Try.func5 (by kernel_rfl)
    (of_decide_eq_true (by kernel_rfl)) (by unfold Func.isWrapper; first | (rw [if_pos (by decide +kernel)]; kernel_rfl) | (rw [if_neg (by decide +kernel)]; exact ⟨rfl, rfl⟩))
    (fun os started H enc _ => back_lifted os started H enc)

#print axioms back_holds
end Go.Proofs.Ytjjfleiebebblaa
