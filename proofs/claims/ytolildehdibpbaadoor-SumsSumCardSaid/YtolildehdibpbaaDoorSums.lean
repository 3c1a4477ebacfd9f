/-
  SumsSum, walked: the program's sum of any bytes is the document's.
-/
import Derived.Test.YtolildehdibpbaaDoorRSum
import Derived.Test.YtolildehdibpbaaDoorFix2
import Derived.Test.YtolildehdibpbaaDoorEql
namespace Go.Proofs.YtolildehdibpbaaDoor
open Go.RowKit

theorem dig_eql (xs : List UInt8) (hl : xs.length = 32) (w : World) : (binOp .eql 25 (.agg (vs xs).toArray) (.agg (vs xs).toArray)).run Tryd.prog w = .ok (.bool true) w := by
  rw [run_eql_bytes w 25 5 32 Tryd.underlying25 Tryd.underlying5 (by kernel_rfl) (by kernel_rfl) xs xs hl hl]
  simp

set_option maxHeartbeats 1000000 in
theorem sumssum_any (Q : Nat → Prop) (xs : List UInt8) (A : Option Addr) (n c : Nat) (w : World) (ht : Tab w) (hby : By w Q A n xs) (hnc : n ≤ c) (hcm : c ≤ maxLen) :
    Calls Tryd.prog 3 #[.slice A n c] w fun e w' => e = .returned (.bool true) ∧ Below w.heap.size w w' := by
  have HT := Lib.hid ht
  have HBy := Lib.hid hby
  by_cases hn : 300 < n
  · have hd : decide (300 < (n : Int)) = true := by simp; omega
    clear ht hby
    go_enter Tryd.func3, Tryd.ntmps3
    go_wp2_with (go_at_call 9; refine (fixed_any _ HT.out).mono ?_; rintro e w1 ⟨rfl, hx1⟩)
    go_ret
    exact ⟨rfl, hx1⟩
  · have hd : decide (300 < (n : Int)) = false := by simp; omega
    obtain ⟨r, hr⟩ : ∃ r, r = vs (sha xs) := ⟨_, rfl⟩
    have hsum : ∀ W, By W Q A n xs → Tab W → Calls Tryd.prog 10 #[.slice A n c] W fun e w' => e = .returned (.agg r.toArray) ∧ Below W.heap.size W w' := fun W h1 h2 => by
      rw [hr]; exact sumb_any Q xs A n c W h1 hnc hcm h2 (by omega)
    have hrsum : ∀ W, By W Q A n xs → Calls Tryd.prog 11 #[.slice A n c] W fun e w' => e = .returned (.agg r.toArray) ∧ Below W.heap.size W w' := fun W h1 => by
      rw [hr]; exact rsum_any Q xs A n c W h1 (by omega)
    have hstr : ∀ W, By W Q A n xs → (convert 22 9 (.slice A n c)).run Tryd.prog W = .ok (.string ⟨xs.toArray⟩) W := fun W h =>
      run_string_by W 22 9 5 Tryd.underlying22 Tryd.underlying5 Tryd.underlying9 Q A n c xs h
    have heql : ∀ W, (binOp .eql 25 (.agg r.toArray) (.agg r.toArray)).run Tryd.prog W = .ok (.bool true) W := fun W => by
      rw [hr]; exact dig_eql _ (sha_length xs) W
    have HSum := Lib.hid hsum
    have HRSum := Lib.hid hrsum
    have HStr := Lib.hid hstr
    clear ht hby hr hsum hrsum hstr
    go_enter Tryd.func3, Tryd.ntmps3
    go_wp2_with (first
      | (go_at_call 9; refine (fixed_any _ HT.out).mono ?_; rintro e w1 ⟨rfl, hx1⟩; have HX1 := Lib.hid hx1; have hs1 := HStr.out w1 (HBy.out.through hx1); clear hx1)
      | (go_at_call 10; refine (HSum.out _ (HBy.out.through HX1.out) (HT.out.through HX1.out)).mono ?_; rintro e w2 ⟨rfl, hx2⟩; have HX2 := Lib.hid (HX1.out.trans (hx2.mono HX1.out.size)); clear hx2)
      | (go_at_call 11; refine (HRSum.out _ (HBy.out.through HX2.out)).mono ?_; rintro e w3 ⟨rfl, hx3⟩; have HX3 := Lib.hid (HX2.out.trans (hx3.mono HX2.out.size)); have hs3 := HStr.out w3 (HBy.out.through HX3.out); clear hx3))
    go_ret
    exact ⟨rfl, HX3.out⟩

end Go.Proofs.YtolildehdibpbaaDoor
