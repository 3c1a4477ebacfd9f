/-
  OctetsPuts: FOR EVERY TWO SLICES OF BYTES (nil too), EVERY NUMBER OF 64 BITS, AND EVERY WIDTH, the law returns true, and leaves its arguments as they were. No condition.
-/
import Derived.Test.YtjjfleiebebblaaPuts
import Derived.Test.YtjjfleiebebblaaOpen
namespace Go.Proofs.Ytjjfleiebebblaa
open Go.ChangeShapes Go.WideShapes Go.ChangeAt Go.RowKit

set_option maxHeartbeats 1000000 in
theorem puts_far1 (A : Option Addr) (n c : Nat) (v k : Int) (B : Option Addr) (m d : Nat) (w : World) (hn : 500 < n) :
    Calls Try.prog 4 #[.slice A n c, .int .u64 v, .int .i64 k, .slice B m d] w fun e w' => e = .returned (.bool true) ∧ Below w.heap.size w w' := by
  have hg1 : decide (500 < (n : Int)) = true := by simp; omega
  go_enter Try.func4, Try.ntmps4
  go_wp2_with (go_at_call 6; refine (fixed_ok _).mono ?_; rintro e w1 ⟨rfl, hb1⟩)
  go_ret
  exact ⟨rfl, hb1⟩

set_option maxHeartbeats 1000000 in
theorem puts_far2 (A : Option Addr) (n c : Nat) (v k : Int) (B : Option Addr) (m d : Nat) (w : World) (hn : n ≤ 500) (hm : 500 < m) :
    Calls Try.prog 4 #[.slice A n c, .int .u64 v, .int .i64 k, .slice B m d] w fun e w' => e = .returned (.bool true) ∧ Below w.heap.size w w' := by
  have hg1 : decide (500 < (n : Int)) = false := by simp; omega
  have hg2 : decide (500 < (m : Int)) = true := by simp; omega
  go_enter Try.func4, Try.ntmps4
  go_wp2_with (go_at_call 6; refine (fixed_ok _).mono ?_; rintro e w1 ⟨rfl, hb1⟩)
  go_ret
  exact ⟨rfl, hb1⟩

theorem puts_any (Q : Nat → Prop) (A : Option Addr) (n c : Nat) (xs : List UInt8) (v : Int) (hv0 : 0 ≤ v) (hv1 : v < 18446744073709551616) (k : Int) (Q2 : Nat → Prop) (B : Option Addr) (m d : Nat) (ys : List UInt8) (w : World)
    (h : By w Q A n xs) (h2 : By w Q2 B m ys) (hnc : n ≤ c) :
    Calls Try.prog 4 #[.slice A n c, .int .u64 v, .int .i64 k, .slice B m d] w fun e w' => e = .returned (.bool true) ∧ Below w.heap.size w w' := by
  by_cases hn : n ≤ 500
  · by_cases hm : m ≤ 500
    · exact puts_walk Q A n c xs v hv0 hv1 k Q2 B m d ys w h h2 hnc hn hm
    · exact puts_far2 A n c v k B m d w hn (by omega)
  · exact puts_far1 A n c v k B m d w (by omega)

set_option maxHeartbeats 800000 in
set_option maxRecDepth 100000 in
theorem puts_lifted (os : Os) (started : os.Started) (H : Type) (enc : TypeId × Value → H) :
    ReturnsInHanded {} Try.checked os 4 .any (Rows.octetsPutsSpec.pre6 enc Try.prog Try.f4 Rows.octetsPutsRow.domain false) (Rows.octetsPutsSpec.post enc Try.prog Try.f4 false true false false) := by
  refine returnsInHanded_of_change (C := Try.checked) Try.own started (by kernel_rfl) Try.func4
    (ChangeSpec.witness6 (enc := enc) (C := Try.checked) false ⟨#[], #[.slice none 0 0, .int .u64 0, .int .i64 0, .slice none 0 0], []⟩ 8 (by kernel_rfl) (by kernel_rfl) (by kernel_rfl) (by kernel_rfl)) ?_
  intro W base args ds gs before hval0 hW _ _
  have hval : ∀ (j : Nat) t v, Try.f4.params[j]? = some t → args[j]? = some v → Value.okWide Try.prog W .any base t v := hval0
  have hW' := hW
  obtain ⟨p, q, hA0, hV, rfl, _, _⟩ := hW
  have hA : DataW.TrodAll enc Try.prog W 0 (fun _ => true) true Try.f4.params.toList args.toList ds p := hA0
  rw [Try.params4] at hA hval
  obtain ⟨v0, v1, v2, v3, d0, d1, d2, d3, p0, p1, p2, p3, rfl, rfl, rfl, h0, h1, h2, h3⟩ := trodAll_four hA
  obtain ⟨rfl, rfl⟩ := trodVars_none hV
  obtain ⟨a0, len0, cap0, rfl⟩ := okWide_slice Try.underlying22 (hval 0 22 v0 rfl rfl)
  obtain ⟨x, rfl, rfl, rfl, wx⟩ := open_int Try.underlying33 (hval 1 33 v1 rfl rfl) h1
  obtain ⟨y, rfl, rfl, rfl, wy⟩ := open_int Try.underlying3 (hval 2 3 v2 rfl rfl) h2
  obtain ⟨a3, len3, cap3, rfl⟩ := okWide_slice Try.underlying22 (hval 3 22 v3 rfl rfl)
  clear hA0 hval0
  simp only [List.append_nil] at hW'
  have hlt : ∀ z ∈ p0 ++ p3, z.block < W.heap.size := fun z hz => by simpa using hW'.lt z hz
  have hx : 0 ≤ x ∧ x ≤ 18446744073709551615 := by simpa [Lit.wf, IntKind.min, IntKind.max, IntKind.signed, IntKind.bits] using wx
  obtain ⟨xs, hB, hc0⟩ := opened h0
  obtain ⟨ys, hB3, _⟩ := opened h3
  refine (puts_any _ a0 len0 cap0 xs x hx.1 (by omega) y _ a3 len3 cap3 ys W hB hB3 hc0).mono fun e W' ⟨he, hnx⟩ => ?_
  subst he
  have harg0 : DataW.Trod enc Try.prog W' 0 (fun b => decide (b < W.heap.size)) true 22 (.slice a0 len0 cap0) d0 p0 :=
    Below.trod Try.laidOut (by kernel_rfl) (of_decide_eq_true (by kernel_rfl)) h0 hnx (fun x hx => hlt x (List.mem_append.2 (.inl hx)))
  have harg3 : DataW.Trod enc Try.prog W' 0 (fun b => decide (b < W.heap.size)) true 22 (.slice a3 len3 cap3) d3 p3 :=
    Below.trod Try.laidOut (by kernel_rfl) (of_decide_eq_true (by kernel_rfl)) h3 hnx (fun x hx => hlt x (List.mem_append.2 (.inr hx)))
  exact ⟨_, rfl, _, _, _, [], _, [], hW', trodAll_mk1 (shut_bool Try.underlying4 _), trodAll_mk4 harg0 (shut_int Try.underlying33 wx) (shut_int Try.underlying3 wy) harg3, rfl, hnx.frame _, fun h => by cases h⟩

theorem puts_holds : Rows.OctetsPutsSaid :=
  OpenClaim.holds_of_wide 4 Try.f4 rfl rfl rfl rfl rfl rfl rfl ⟨rfl, rfl, rfl, rfl, rfl⟩ rfl rfl rfl rfl rfl (by kernel_rfl) Try.func4 (by kernel_rfl)
    (of_decide_eq_true (by kernel_rfl)) (by unfold Func.isWrapper; first | (rw [if_pos (by decide +kernel)]; kernel_rfl) | (rw [if_neg (by decide +kernel)]; exact ⟨rfl, rfl⟩))
    (fun os started H enc _ => puts_lifted os started H enc)

#print axioms puts_holds
end Go.Proofs.Ytjjfleiebebblaa
