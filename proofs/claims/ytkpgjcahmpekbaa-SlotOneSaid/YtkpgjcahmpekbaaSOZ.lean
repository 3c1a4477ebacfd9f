/-
  SlotOne: FOR EVERY BYTE AND EVERY FOUR ROWS OF BYTES, nil or not, the law returns true, and leaves its arguments as they were. No condition.
-/
import Derived.Test.YtkpgjcahmpekbaaSO15
import Derived.Test.YtkpgjcahmpekbaaSO36
import Derived.Test.YtkpgjcahmpekbaaSO48
namespace Go.Proofs.Ytkpgjcahmpekbaa
open Go.ChangeShapes Go.WideShapes Go.ChangeAt Go.RowKit

set_option maxRecDepth 100000 in
theorem opened_u8_ {H : Type} {enc : TypeId × Value → H} {W : World} {b : Nat} {v : Value} {d : DataW H} {p : List MemPlace} (hv : Value.okWide Try.prog W .any b 5 v)
  (h0 : DataW.Trod enc Try.prog W 0 (fun _ => true) true 5 v d p) : ∃ y : Int, v = .int .u8 y ∧ 0 ≤ y ∧ y ≤ 255 := by
 obtain ⟨x, rfl, rfl, rfl, wx⟩ := open_int Try.underlying5 hv h0
 exact ⟨x, rfl, by simpa [Lit.wf, IntKind.min, IntKind.max, IntKind.signed, IntKind.bits] using wx⟩
theorem one21_any (y : Int) (h0 : 0 ≤ y) (h9 : y ≤ 255) (says one two liars : List UInt8) (A1 A2 A3 A4 : Option Addr) (m1 m2 m3 m4 c1 c2 c3 c4 : Nat) (w : World) (h1 : By w (fun _ => True) A1 m1 says) (h2 : By w (fun _ => True) A2 m2 one) (h3 : By w (fun _ => True) A3 m3 two) (h4 : By w (fun _ => True) A4 m4 liars) :
  Calls Try.prog 6 #[.int .u8 y, .slice A1 m1 c1, .slice A2 m2 c2, .slice A3 m3 c3, .slice A4 m4 c4] w fun e w' => e = .returned (.bool true) ∧ Below w.heap.size w w' := by
 obtain ⟨f, rfl⟩ : ∃ f : UInt8, y = (f.toNat : Int) := ⟨UInt8.ofNat y.toNat, by rw [UInt8.toNat_ofNat', Nat.mod_eq_of_lt (by omega)]; omega⟩
 rcases (by omega : f.toNat % 2 = 0 ∨ f.toNat % 2 = 1) with h | h
 ·exact one21_1 slotv f says one two liars A1 A2 A3 A4 m1 m2 m3 m4 c1 c2 c3 c4 w h1 h2 h3 h4 h
 ·exact one21_2 slotv f says one two liars A1 A2 A3 A4 m1 m2 m3 m4 c1 c2 c3 c4 w h1 h2 h3 h4 h

set_option maxHeartbeats 1600000 in
set_option maxRecDepth 100000 in
theorem one21_lifted (os : Go.Os) (started : os.Started) (H : Type) (enc : TypeId × Value → H) :
  ReturnsInHanded {} Try.checked os 6 .any (Rows.slotOneSpec.pre6 enc Try.prog Try.f6 Rows.slotOneRow.domain false) (Rows.slotOneSpec.post enc Try.prog Try.f6 false true false false) := by
 refine returnsInHanded_of_change (C := Try.checked) Try.own started (by kernel_rfl) Try.func6
  (ChangeSpec.witness6 (enc := enc) (C := Try.checked) false ⟨#[], #[.int .u8 0, .slice none 0 0, .slice none 0 0, .slice none 0 0, .slice none 0 0], []⟩ 8 (by kernel_rfl) (by kernel_rfl) (by kernel_rfl) (by kernel_rfl)) ?_
 intro W base args ds gs before hval0 hW _ _
 have hval : ∀ (j : Nat) t v, Try.f6.params[j]? = some t → args[j]? = some v → Value.okWide Try.prog W .any base t v := hval0
 have hW' := hW
 obtain ⟨p, q, hA0, hV, rfl, _, _⟩ := hW
 have hA : DataW.TrodAll enc Try.prog W 0 (fun _ => true) true Try.f6.params.toList args.toList ds p := hA0
 rw [Try.params6] at hA hval
 obtain ⟨args⟩ := args
 obtain ⟨v0, as0, d0, ds0, p0, q0, e0, rfl, rfl, h0, r0⟩ := trodAll_cons hA
 obtain ⟨v1, as1, d1, ds1, p1, q1, e1, rfl, rfl, h1, r1⟩ := trodAll_cons r0
 obtain ⟨v2, as2, d2, ds2, p2, q2, e2, rfl, rfl, h2, r2⟩ := trodAll_cons r1
 obtain ⟨v3, as3, d3, ds3, p3, q3, e3, rfl, rfl, h3, r3⟩ := trodAll_cons r2
 obtain ⟨v4, as4, d4, ds4, p4, q4, e4, rfl, rfl, h4, r4⟩ := trodAll_cons r3
 obtain ⟨e5, rfl, rfl⟩ := trodAll_nil r4
 obtain rfl : args = [v0, v1, v2, v3, v4] := by simp only at e0; simp only [e0, e1, e2, e3, e4, e5]
 obtain ⟨rfl, rfl⟩ := trodVars_none hV
 clear hA0 hval0
 simp only [List.append_nil] at hW'
 have hlt0 : ∀ z ∈ p0, z.block < W.heap.size := fun z hz => hW'.lt z (by simp [hz])
 have hlt1 : ∀ z ∈ p1, z.block < W.heap.size := fun z hz => hW'.lt z (by simp [hz])
 have hlt2 : ∀ z ∈ p2, z.block < W.heap.size := fun z hz => hW'.lt z (by simp [hz])
 have hlt3 : ∀ z ∈ p3, z.block < W.heap.size := fun z hz => hW'.lt z (by simp [hz])
 have hlt4 : ∀ z ∈ p4, z.block < W.heap.size := fun z hz => hW'.lt z (by simp [hz])
 obtain ⟨y0, rfl, lo0, hi0⟩ := opened_u8_ (hval 0 5 v0 rfl rfl) h0
 obtain ⟨a1, len1, cap1, rfl⟩ := okWide_slice Try.underlying45 (hval 1 45 v1 rfl rfl)
 obtain ⟨xs1, hB1, hc1, hm1⟩ := opened_by h1
 obtain ⟨a2, len2, cap2, rfl⟩ := okWide_slice Try.underlying45 (hval 2 45 v2 rfl rfl)
 obtain ⟨xs2, hB2, hc2, hm2⟩ := opened_by h2
 obtain ⟨a3, len3, cap3, rfl⟩ := okWide_slice Try.underlying45 (hval 3 45 v3 rfl rfl)
 obtain ⟨xs3, hB3, hc3, hm3⟩ := opened_by h3
 obtain ⟨a4, len4, cap4, rfl⟩ := okWide_slice Try.underlying45 (hval 4 45 v4 rfl rfl)
 obtain ⟨xs4, hB4, hc4, hm4⟩ := opened_by h4
 refine (one21_any y0 lo0 hi0 xs1 xs2 xs3 xs4 a1 a2 a3 a4 len1 len2 len3 len4 cap1 cap2 cap3 cap4 W hB1 hB2 hB3 hB4).mono fun e W' ⟨he, hnx⟩ => ?_
 subst he
 have harg0 := Below.trod Try.laidOut (t := 5) (by kernel_rfl) (of_decide_eq_true (by kernel_rfl)) h0 hnx hlt0
 have harg1 := Below.trod Try.laidOut (t := 45) (by kernel_rfl) (of_decide_eq_true (by kernel_rfl)) h1 hnx hlt1
 have harg2 := Below.trod Try.laidOut (t := 45) (by kernel_rfl) (of_decide_eq_true (by kernel_rfl)) h2 hnx hlt2
 have harg3 := Below.trod Try.laidOut (t := 45) (by kernel_rfl) (of_decide_eq_true (by kernel_rfl)) h3 hnx hlt3
 have harg4 := Below.trod Try.laidOut (t := 45) (by kernel_rfl) (of_decide_eq_true (by kernel_rfl)) h4 hnx hlt4
 exact ⟨_, rfl, _, _, _, [], _, [], hW', trodAll_mk1 (shut_bool Try.underlying4 _), trodAll_cons_mk harg0 (trodAll_cons_mk harg1 (trodAll_cons_mk harg2 (trodAll_cons_mk harg3 (trodAll_cons_mk harg4 trodAll_mk0)))), rfl, hnx.frame _, fun h => by cases h⟩

theorem one21_holds : Rows.SlotOneSaid :=
 OpenClaim.holds_of_wide 6 Try.f6 rfl rfl rfl rfl rfl rfl rfl ⟨rfl, rfl, rfl, rfl, rfl⟩ rfl rfl rfl rfl rfl (by kernel_rfl) Try.func6 (by kernel_rfl)
  (of_decide_eq_true (by kernel_rfl)) (by unfold Func.isWrapper; first | (rw [if_pos (by decide +kernel)]; kernel_rfl) | (rw [if_neg (by decide +kernel)]; exact ⟨rfl, rfl⟩))
  (fun os started H enc _ => one21_lifted os started H enc)

#print axioms one21_holds
end Go.Proofs.Ytkpgjcahmpekbaa
